/- The document's answers of layer 4: Get, Put, Pair, PutPair. -/
import Derived.Test.YtaphcbhmkejbeaaDoorRows
import Derived.Test.YtaphcbhmkejbeaaDoorBits
import Derived.Test.YtaphcbhmkejbeaaDoorGrow
import Derived.Test.YtaphcbhmkejbeaaDoorGrow2
import Derived.Test.YtaphcbhmkejbeaaDoorRg
import Derived.Deep.QuietTactic
import Derived.BigQuiet
import Derived.Deep.RegionHeld3
import Derived.Deep.DeepCutAuto
import Derived.Test.YtaphcbhmkejbeaaDoorRegs3
import Derived.Test.YtaphcbhmkejbeaaDoorRef
namespace Go.Proofs.YtaphcbhmkejbeaaDoor
open Go.RowKit
set_option linter.unusedVariables false
set_option linter.unusedSimpArgs false

theorem may_any (n : Int) (w : World) :
    Calls Tryd.prog 30 #[.int .i64 n] w fun e w' => e = .returned (.int .i64 (mayOf n)) ∧ w' = w := by
  by_cases h6 : n = 6
  · subst h6
    go_enter Tryd.func30, Tryd.ntmps30
    go_wp2
    go_ret
    exact ⟨rfl, rfl⟩
  · by_cases h0 : n < 0
    · rw [show mayOf n = 1 by simp [mayOf, h6, h0]]
      go_enter Tryd.func30, Tryd.ntmps30
      go_wp2
      go_ret
      exact ⟨rfl, rfl⟩
    · by_cases h8 : 7 < n
      · rw [show mayOf n = 1 by simp [mayOf, h6, h8]]
        go_enter Tryd.func30, Tryd.ntmps30
        go_wp2
        go_ret
        exact ⟨rfl, rfl⟩
      · rw [show mayOf n = 0 by unfold mayOf; rw [if_neg h6, if_neg (by omega)]]
        go_enter Tryd.func30, Tryd.ntmps30
        go_wp2
        go_ret
        exact ⟨rfl, rfl⟩
theorem rget_any (r : Rg) (n : Int) (w : World) :
    Calls Tryd.prog 11 #[.agg #[.int .u8 r.a, .int .u8 r.f, .int .u8 r.b, .int .u8 r.c, .int .u8 r.d, .int .u8 r.e, .int .u8 r.h, .int .u8 r.l, .int .u16 r.s, .int .u16 r.p], .int .i64 n] w fun e w' => e = .returned (.tuple #[.int .u8 (getOf n r), .int .i64 (mayOf n)]) ∧ Grown w w' := by
  by_cases h0 : n = 0
  · subst h0
    rw [show getOf 0 r = r.b from rfl]
    go_enter Tryd.func11, Tryd.ntmps11
    go_wp2_with fail
    refine (may_any _ _).mono ?_
    rintro e v0 ⟨rfl, rfl⟩
    rw [show mayOf 0 = 0 from rfl]
    go_wp2
    go_ret2
    exact ⟨rfl, alloc1 _ _ _⟩
  · skip
    by_cases h1 : n = 1
    · subst h1
      rw [show getOf 1 r = r.c from rfl]
      go_enter Tryd.func11, Tryd.ntmps11
      go_wp2_with fail
      refine (may_any _ _).mono ?_
      rintro e v0 ⟨rfl, rfl⟩
      rw [show mayOf 1 = 0 from rfl]
      go_wp2
      go_ret2
      exact ⟨rfl, alloc1 _ _ _⟩
    · skip
      by_cases h2 : n = 2
      · subst h2
        rw [show getOf 2 r = r.d from rfl]
        go_enter Tryd.func11, Tryd.ntmps11
        go_wp2_with fail
        refine (may_any _ _).mono ?_
        rintro e v0 ⟨rfl, rfl⟩
        rw [show mayOf 2 = 0 from rfl]
        go_wp2
        go_ret2
        exact ⟨rfl, alloc1 _ _ _⟩
      · skip
        by_cases h3 : n = 3
        · subst h3
          rw [show getOf 3 r = r.e from rfl]
          go_enter Tryd.func11, Tryd.ntmps11
          go_wp2_with fail
          refine (may_any _ _).mono ?_
          rintro e v0 ⟨rfl, rfl⟩
          rw [show mayOf 3 = 0 from rfl]
          go_wp2
          go_ret2
          exact ⟨rfl, alloc1 _ _ _⟩
        · skip
          by_cases h4 : n = 4
          · subst h4
            rw [show getOf 4 r = r.h from rfl]
            go_enter Tryd.func11, Tryd.ntmps11
            go_wp2_with fail
            refine (may_any _ _).mono ?_
            rintro e v0 ⟨rfl, rfl⟩
            rw [show mayOf 4 = 0 from rfl]
            go_wp2
            go_ret2
            exact ⟨rfl, alloc1 _ _ _⟩
          · skip
            by_cases h5 : n = 5
            · subst h5
              rw [show getOf 5 r = r.l from rfl]
              go_enter Tryd.func11, Tryd.ntmps11
              go_wp2_with fail
              refine (may_any _ _).mono ?_
              rintro e v0 ⟨rfl, rfl⟩
              rw [show mayOf 5 = 0 from rfl]
              go_wp2
              go_ret2
              exact ⟨rfl, alloc1 _ _ _⟩
            · skip
              by_cases h6 : n = 6
              · subst h6
                rw [show getOf 6 r = 0 from rfl]
                go_enter Tryd.func11, Tryd.ntmps11
                go_wp2_with fail
                refine (may_any _ _).mono ?_
                rintro e v0 ⟨rfl, rfl⟩
                rw [show mayOf 6 = 7 from rfl]
                go_wp2
                go_ret2
                exact ⟨rfl, alloc1 _ _ _⟩
              · skip
                by_cases h7 : n = 7
                · subst h7
                  rw [show getOf 7 r = r.a from rfl]
                  go_enter Tryd.func11, Tryd.ntmps11
                  go_wp2_with fail
                  refine (may_any _ _).mono ?_
                  rintro e v0 ⟨rfl, rfl⟩
                  rw [show mayOf 7 = 0 from rfl]
                  go_wp2
                  go_ret2
                  exact ⟨rfl, alloc1 _ _ _⟩
                · skip
                  have e1 : mayOf n = 1 := by unfold mayOf; rw [if_neg (by omega), if_pos (by omega)]
                  have e2 : getOf n r = 0 := by unfold getOf; simp [*]
                  rw [e2, e1]
                  go_enter Tryd.func11, Tryd.ntmps11
                  go_wp2_with fail
                  refine (may_any _ _).mono ?_
                  rintro e v0 ⟨rfl, rfl⟩
                  rw [e1]
                  go_wp2
                  go_ret2
                  exact ⟨rfl, alloc1 _ _ _⟩
set_option maxHeartbeats 8000000 in
theorem rput4_any (r : Rg) (n v : Int) (w : World) :
    Calls Tryd.prog 13 #[.agg #[.int .u8 r.a, .int .u8 r.f, .int .u8 r.b, .int .u8 r.c, .int .u8 r.d, .int .u8 r.e, .int .u8 r.h, .int .u8 r.l, .int .u16 r.s, .int .u16 r.p], .int .i64 n, .int .u8 v] w fun e w' => e = .returned (.tuple #[.agg #[.int .u8 (putR n v r).a, .int .u8 (putR n v r).f, .int .u8 (putR n v r).b, .int .u8 (putR n v r).c, .int .u8 (putR n v r).d, .int .u8 (putR n v r).e, .int .u8 (putR n v r).h, .int .u8 (putR n v r).l, .int .u16 (putR n v r).s, .int .u16 (putR n v r).p], .int .i64 (mayOf n)]) ∧ Grown w w' := by
  by_cases h0 : n = 0
  · subst h0
    rw [show putR 0 v r = { r with b := v } from rfl]
    go_enter Tryd.func13, Tryd.ntmps13
    go_wp2_with fail
    refine (may_any _ _).mono ?_
    rintro e v0 ⟨rfl, rfl⟩
    rw [show mayOf 0 = 0 from rfl]
    go_wp2
    exact bodyPost_ret (v := .tuple #[.agg #[.int .u8 r.a, .int .u8 r.f, .int .u8 v, .int .u8 r.c, .int .u8 r.d, .int .u8 r.e, .int .u8 r.h, .int .u8 r.l, .int .u16 r.s, .int .u16 r.p], .int .i64 0]) (by simp [results, Tryd.results13, go_sem, *]) rfl ⟨rfl, (alloc1 _ _ _).alloc _ _⟩
  · skip
    by_cases h1 : n = 1
    · subst h1
      rw [show putR 1 v r = { r with c := v } from rfl]
      go_enter Tryd.func13, Tryd.ntmps13
      go_wp2_with fail
      refine (may_any _ _).mono ?_
      rintro e v0 ⟨rfl, rfl⟩
      rw [show mayOf 1 = 0 from rfl]
      go_wp2
      exact bodyPost_ret (v := .tuple #[.agg #[.int .u8 r.a, .int .u8 r.f, .int .u8 r.b, .int .u8 v, .int .u8 r.d, .int .u8 r.e, .int .u8 r.h, .int .u8 r.l, .int .u16 r.s, .int .u16 r.p], .int .i64 0]) (by simp [results, Tryd.results13, go_sem, *]) rfl ⟨rfl, (alloc1 _ _ _).alloc _ _⟩
    · skip
      by_cases h2 : n = 2
      · subst h2
        rw [show putR 2 v r = { r with d := v } from rfl]
        go_enter Tryd.func13, Tryd.ntmps13
        go_wp2_with fail
        refine (may_any _ _).mono ?_
        rintro e v0 ⟨rfl, rfl⟩
        rw [show mayOf 2 = 0 from rfl]
        go_wp2
        exact bodyPost_ret (v := .tuple #[.agg #[.int .u8 r.a, .int .u8 r.f, .int .u8 r.b, .int .u8 r.c, .int .u8 v, .int .u8 r.e, .int .u8 r.h, .int .u8 r.l, .int .u16 r.s, .int .u16 r.p], .int .i64 0]) (by simp [results, Tryd.results13, go_sem, *]) rfl ⟨rfl, (alloc1 _ _ _).alloc _ _⟩
      · skip
        by_cases h3 : n = 3
        · subst h3
          rw [show putR 3 v r = { r with e := v } from rfl]
          go_enter Tryd.func13, Tryd.ntmps13
          go_wp2_with fail
          refine (may_any _ _).mono ?_
          rintro e v0 ⟨rfl, rfl⟩
          rw [show mayOf 3 = 0 from rfl]
          go_wp2
          exact bodyPost_ret (v := .tuple #[.agg #[.int .u8 r.a, .int .u8 r.f, .int .u8 r.b, .int .u8 r.c, .int .u8 r.d, .int .u8 v, .int .u8 r.h, .int .u8 r.l, .int .u16 r.s, .int .u16 r.p], .int .i64 0]) (by simp [results, Tryd.results13, go_sem, *]) rfl ⟨rfl, (alloc1 _ _ _).alloc _ _⟩
        · skip
          by_cases h4 : n = 4
          · subst h4
            rw [show putR 4 v r = { r with h := v } from rfl]
            go_enter Tryd.func13, Tryd.ntmps13
            go_wp2_with fail
            refine (may_any _ _).mono ?_
            rintro e v0 ⟨rfl, rfl⟩
            rw [show mayOf 4 = 0 from rfl]
            go_wp2
            exact bodyPost_ret (v := .tuple #[.agg #[.int .u8 r.a, .int .u8 r.f, .int .u8 r.b, .int .u8 r.c, .int .u8 r.d, .int .u8 r.e, .int .u8 v, .int .u8 r.l, .int .u16 r.s, .int .u16 r.p], .int .i64 0]) (by simp [results, Tryd.results13, go_sem, *]) rfl ⟨rfl, (alloc1 _ _ _).alloc _ _⟩
          · skip
            by_cases h5 : n = 5
            · subst h5
              rw [show putR 5 v r = { r with l := v } from rfl]
              go_enter Tryd.func13, Tryd.ntmps13
              go_wp2_with fail
              refine (may_any _ _).mono ?_
              rintro e v0 ⟨rfl, rfl⟩
              rw [show mayOf 5 = 0 from rfl]
              go_wp2
              exact bodyPost_ret (v := .tuple #[.agg #[.int .u8 r.a, .int .u8 r.f, .int .u8 r.b, .int .u8 r.c, .int .u8 r.d, .int .u8 r.e, .int .u8 r.h, .int .u8 v, .int .u16 r.s, .int .u16 r.p], .int .i64 0]) (by simp [results, Tryd.results13, go_sem, *]) rfl ⟨rfl, (alloc1 _ _ _).alloc _ _⟩
            · skip
              by_cases h6 : n = 6
              · subst h6
                rw [show putR 6 v r = zeroR from rfl]
                go_enter Tryd.func13, Tryd.ntmps13
                go_wp2_with fail
                refine (may_any _ _).mono ?_
                rintro e v0 ⟨rfl, rfl⟩
                rw [show mayOf 6 = 7 from rfl]
                go_wp2
                exact bodyPost_ret (v := .tuple #[.agg #[.int .u8 0, .int .u8 0, .int .u8 0, .int .u8 0, .int .u8 0, .int .u8 0, .int .u8 0, .int .u8 0, .int .u16 0, .int .u16 0], .int .i64 7]) (by simp [results, Tryd.results13, go_sem, *]) rfl ⟨rfl, (alloc1 _ _ _).alloc _ _⟩
              · skip
                by_cases h7 : n = 7
                · subst h7
                  rw [show putR 7 v r = { r with a := v } from rfl]
                  go_enter Tryd.func13, Tryd.ntmps13
                  go_wp2_with fail
                  refine (may_any _ _).mono ?_
                  rintro e v0 ⟨rfl, rfl⟩
                  rw [show mayOf 7 = 0 from rfl]
                  go_wp2
                  exact bodyPost_ret (v := .tuple #[.agg #[.int .u8 v, .int .u8 r.f, .int .u8 r.b, .int .u8 r.c, .int .u8 r.d, .int .u8 r.e, .int .u8 r.h, .int .u8 r.l, .int .u16 r.s, .int .u16 r.p], .int .i64 0]) (by simp [results, Tryd.results13, go_sem, *]) rfl ⟨rfl, (alloc1 _ _ _).alloc _ _⟩
                · skip
                  have e1 : mayOf n = 1 := by unfold mayOf; rw [if_neg (by omega), if_pos (by omega)]
                  have e2 : putR n v r = zeroR := by unfold putR; simp [*]
                  rw [e2, e1]
                  go_enter Tryd.func13, Tryd.ntmps13
                  go_wp2_with fail
                  refine (may_any _ _).mono ?_
                  rintro e v0 ⟨rfl, rfl⟩
                  rw [e1]
                  go_wp2
                  exact bodyPost_ret (v := .tuple #[.agg #[.int .u8 0, .int .u8 0, .int .u8 0, .int .u8 0, .int .u8 0, .int .u8 0, .int .u8 0, .int .u8 0, .int .u16 0, .int .u16 0], .int .i64 1]) (by simp [results, Tryd.results13, go_sem, *]) rfl ⟨rfl, (alloc1 _ _ _).alloc _ _⟩
set_option maxHeartbeats 8000000 in
theorem rpair_any (r : Rg) (n : Int) (w : World) (ok : r.ok) :
    Calls Tryd.prog 15 #[.agg #[.int .u8 r.a, .int .u8 r.f, .int .u8 r.b, .int .u8 r.c, .int .u8 r.d, .int .u8 r.e, .int .u8 r.h, .int .u8 r.l, .int .u16 r.s, .int .u16 r.p], .int .i64 n] w fun e w' => e = .returned (.tuple #[.int .u16 (pairOf n r), .int .i64 (pairErr n)]) ∧ Grown w w' := by
  obtain ⟨⟨ha0, ha1⟩, ⟨hf0, hf1⟩, ⟨hb0, hb1⟩, ⟨hc0, hc1⟩, ⟨hd0, hd1⟩, ⟨he0, he1⟩, ⟨hh0, hh1⟩, ⟨hl0, hl1⟩, ⟨hs0, hs1⟩, ⟨hp0, hp1⟩⟩ := ok
  by_cases h0 : n = 0
  · subst h0
    rw [show pairOf 0 r = r.b * 256 + r.c from rfl, show pairErr 0 = 0 from rfl]
    go_enter Tryd.func15, Tryd.ntmps15
    go_wp2_with (go_at_call 34; refine (rjoin_any _ _ _ hb0 hb1 hc0 hc1).mono ?_; rintro e v0 ⟨rfl, rfl⟩)
    go_ret2
    exact ⟨rfl, alloc1 _ _ _⟩
  · skip
    by_cases h1 : n = 1
    · subst h1
      rw [show pairOf 1 r = r.d * 256 + r.e from rfl, show pairErr 1 = 0 from rfl]
      go_enter Tryd.func15, Tryd.ntmps15
      go_wp2_with (go_at_call 34; refine (rjoin_any _ _ _ hd0 hd1 he0 he1).mono ?_; rintro e v0 ⟨rfl, rfl⟩)
      go_ret2
      exact ⟨rfl, alloc1 _ _ _⟩
    · skip
      by_cases h2 : n = 2
      · subst h2
        rw [show pairOf 2 r = r.h * 256 + r.l from rfl, show pairErr 2 = 0 from rfl]
        go_enter Tryd.func15, Tryd.ntmps15
        go_wp2_with (go_at_call 34; refine (rjoin_any _ _ _ hh0 hh1 hl0 hl1).mono ?_; rintro e v0 ⟨rfl, rfl⟩)
        go_ret2
        exact ⟨rfl, alloc1 _ _ _⟩
      · skip
        by_cases h3 : n = 3
        · subst h3
          rw [show pairOf 3 r = r.s from rfl, show pairErr 3 = 0 from rfl]
          go_enter Tryd.func15, Tryd.ntmps15
          go_wp2
          go_ret2
          exact ⟨rfl, alloc1 _ _ _⟩
        · skip
          by_cases h4 : n = 4
          · subst h4
            rw [show pairOf 4 r = r.a * 256 + r.f from rfl, show pairErr 4 = 0 from rfl]
            go_enter Tryd.func15, Tryd.ntmps15
            go_wp2_with (go_at_call 34; refine (rjoin_any _ _ _ ha0 ha1 hf0 hf1).mono ?_; rintro e v0 ⟨rfl, rfl⟩)
            go_ret2
            exact ⟨rfl, alloc1 _ _ _⟩
          · skip
            have e1 : pairErr n = 1 := by unfold pairErr; rw [if_pos (by omega)]
            have e2 : pairOf n r = 0 := by unfold pairOf; simp [*]
            rw [e2, e1]
            go_enter Tryd.func15, Tryd.ntmps15
            go_wp2
            go_ret2
            exact ⟨rfl, alloc1 _ _ _⟩
set_option maxHeartbeats 8000000 in
theorem rputPair_any (r : Rg) (n v : Int) (w : World) (v0 : 0 ≤ v) (v1 : v ≤ 65535) :
    Calls Tryd.prog 17 #[.agg #[.int .u8 r.a, .int .u8 r.f, .int .u8 r.b, .int .u8 r.c, .int .u8 r.d, .int .u8 r.e, .int .u8 r.h, .int .u8 r.l, .int .u16 r.s, .int .u16 r.p], .int .i64 n, .int .u16 v] w fun e w' => e = .returned (.tuple #[.agg #[.int .u8 (putP n v r).a, .int .u8 (putP n v r).f, .int .u8 (putP n v r).b, .int .u8 (putP n v r).c, .int .u8 (putP n v r).d, .int .u8 (putP n v r).e, .int .u8 (putP n v r).h, .int .u8 (putP n v r).l, .int .u16 (putP n v r).s, .int .u16 (putP n v r).p], .int .i64 (pairErr n)]) ∧ Grown w w' := by
  by_cases h0 : n = 0
  · subst h0
    rw [show putP 0 v r = { r with b := v / 256, c := v % 256 } from rfl, show pairErr 0 = 0 from rfl]
    go_enter Tryd.func17, Tryd.ntmps17
    go_wp2_with fail
    refine (rsplit_any _ _ v0 v1).mono ?_
    rintro e v2 ⟨rfl, rfl⟩
    go_wp2
    exact bodyPost_ret (v := .tuple #[.agg #[.int .u8 r.a, .int .u8 r.f, .int .u8 (v / 256), .int .u8 (v % 256), .int .u8 r.d, .int .u8 r.e, .int .u8 r.h, .int .u8 r.l, .int .u16 r.s, .int .u16 r.p], .int .i64 0]) (by simp [results, Tryd.results17, go_sem, *]) rfl ⟨rfl, (alloc1 _ _ _).alloc _ _⟩
  · skip
    by_cases h1 : n = 1
    · subst h1
      rw [show putP 1 v r = { r with d := v / 256, e := v % 256 } from rfl, show pairErr 1 = 0 from rfl]
      go_enter Tryd.func17, Tryd.ntmps17
      go_wp2_with fail
      refine (rsplit_any _ _ v0 v1).mono ?_
      rintro e v2 ⟨rfl, rfl⟩
      go_wp2
      exact bodyPost_ret (v := .tuple #[.agg #[.int .u8 r.a, .int .u8 r.f, .int .u8 r.b, .int .u8 r.c, .int .u8 (v / 256), .int .u8 (v % 256), .int .u8 r.h, .int .u8 r.l, .int .u16 r.s, .int .u16 r.p], .int .i64 0]) (by simp [results, Tryd.results17, go_sem, *]) rfl ⟨rfl, (alloc1 _ _ _).alloc _ _⟩
    · skip
      by_cases h2 : n = 2
      · subst h2
        rw [show putP 2 v r = { r with h := v / 256, l := v % 256 } from rfl, show pairErr 2 = 0 from rfl]
        go_enter Tryd.func17, Tryd.ntmps17
        go_wp2_with fail
        refine (rsplit_any _ _ v0 v1).mono ?_
        rintro e v2 ⟨rfl, rfl⟩
        go_wp2
        exact bodyPost_ret (v := .tuple #[.agg #[.int .u8 r.a, .int .u8 r.f, .int .u8 r.b, .int .u8 r.c, .int .u8 r.d, .int .u8 r.e, .int .u8 (v / 256), .int .u8 (v % 256), .int .u16 r.s, .int .u16 r.p], .int .i64 0]) (by simp [results, Tryd.results17, go_sem, *]) rfl ⟨rfl, (alloc1 _ _ _).alloc _ _⟩
      · skip
        by_cases h3 : n = 3
        · subst h3
          rw [show putP 3 v r = { r with s := v } from rfl, show pairErr 3 = 0 from rfl]
          go_enter Tryd.func17, Tryd.ntmps17
          go_wp2_with fail
          refine (rsplit_any _ _ v0 v1).mono ?_
          rintro e v2 ⟨rfl, rfl⟩
          go_wp2
          exact bodyPost_ret (v := .tuple #[.agg #[.int .u8 r.a, .int .u8 r.f, .int .u8 r.b, .int .u8 r.c, .int .u8 r.d, .int .u8 r.e, .int .u8 r.h, .int .u8 r.l, .int .u16 v, .int .u16 r.p], .int .i64 0]) (by simp [results, Tryd.results17, go_sem, *]) rfl ⟨rfl, (alloc1 _ _ _).alloc _ _⟩
        · skip
          by_cases h4 : n = 4
          · subst h4
            rw [show putP 4 v r = { r with a := v / 256, f := v % 256 / 16 * 16 } from rfl, show pairErr 4 = 0 from rfl]
            go_enter Tryd.func17, Tryd.ntmps17
            go_wp2_with fail
            refine (rsplit_any _ _ v0 v1).mono ?_
            rintro e v2 ⟨rfl, rfl⟩
            go_wp2
            exact bodyPost_ret (v := .tuple #[.agg #[.int .u8 (v / 256), .int .u8 (v % 256 / 16 * 16), .int .u8 r.b, .int .u8 r.c, .int .u8 r.d, .int .u8 r.e, .int .u8 r.h, .int .u8 r.l, .int .u16 r.s, .int .u16 r.p], .int .i64 0]) (by simp [results, Tryd.results17, go_sem, *]) rfl ⟨rfl, (alloc1 _ _ _).alloc _ _⟩
          · skip
            have e1 : pairErr n = 1 := by unfold pairErr; rw [if_pos (by omega)]
            have e2 : putP n v r = zeroR := by unfold putP; simp [*]
            rw [e2, e1]
            go_enter Tryd.func17, Tryd.ntmps17
            go_wp2_with fail
            refine (rsplit_any _ _ v0 v1).mono ?_
            rintro e v2 ⟨rfl, rfl⟩
            go_wp2
            exact bodyPost_ret (v := .tuple #[.agg #[.int .u8 0, .int .u8 0, .int .u8 0, .int .u8 0, .int .u8 0, .int .u8 0, .int .u8 0, .int .u8 0, .int .u16 0, .int .u16 0], .int .i64 1]) (by simp [results, Tryd.results17, go_sem, *]) rfl ⟨rfl, (alloc1 _ _ _).alloc _ _⟩
end Go.Proofs.YtaphcbhmkejbeaaDoor
