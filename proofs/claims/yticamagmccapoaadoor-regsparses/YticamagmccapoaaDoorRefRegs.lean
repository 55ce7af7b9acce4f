/- The document's answers of layer 4: Get, Put, Pair, PutPair. -/
import Derived.Test.YticamagmccapoaaDoorRows
import Derived.Test.YticamagmccapoaaDoorBits
import Derived.Test.YticamagmccapoaaDoorGrow
import Derived.Test.YticamagmccapoaaDoorGrow2
import Derived.Test.YticamagmccapoaaDoorRg
import Derived.Deep.QuietTactic
import Derived.BigQuiet
import Derived.Deep.RegionHeld3
import Derived.Deep.DeepCutAuto
import Derived.Test.YticamagmccapoaaDoorRegs3
import Derived.Test.YticamagmccapoaaDoorRef
namespace Go.Proofs.YticamagmccapoaaDoor
open Go.RowKit
set_option linter.unusedVariables false
set_option linter.unusedSimpArgs false

set_option maxHeartbeats 8000000 in
theorem rputPair_any (r : Rg) (n v : Int) (w : World) (v0 : 0 ≤ v) (v1 : v ≤ 65535) :
    Calls Tryd.prog 22 #[.agg #[.int .u8 r.a, .int .u8 r.f, .int .u8 r.b, .int .u8 r.c, .int .u8 r.d, .int .u8 r.e, .int .u8 r.h, .int .u8 r.l, .int .u16 r.s, .int .u16 r.p], .int .i64 n, .int .u16 v] w fun e w' => e = .returned (.tuple #[.agg #[.int .u8 (putP n v r).a, .int .u8 (putP n v r).f, .int .u8 (putP n v r).b, .int .u8 (putP n v r).c, .int .u8 (putP n v r).d, .int .u8 (putP n v r).e, .int .u8 (putP n v r).h, .int .u8 (putP n v r).l, .int .u16 (putP n v r).s, .int .u16 (putP n v r).p], .int .i64 (pairErr n)]) ∧ Grown w w' := by
  by_cases h0 : n = 0
  · subst h0
    rw [show putP 0 v r = { r with b := v / 256, c := v % 256 } from rfl, show pairErr 0 = 0 from rfl]
    go_enter Tryd.func22, Tryd.ntmps22
    go_wp2_with fail
    refine (rsplit_any _ _ v0 v1).mono ?_
    rintro e v2 ⟨rfl, rfl⟩
    go_wp2
    exact bodyPost_ret (v := .tuple #[.agg #[.int .u8 r.a, .int .u8 r.f, .int .u8 (v / 256), .int .u8 (v % 256), .int .u8 r.d, .int .u8 r.e, .int .u8 r.h, .int .u8 r.l, .int .u16 r.s, .int .u16 r.p], .int .i64 0]) (by simp [results, Tryd.results22, go_sem, *]) rfl ⟨rfl, (alloc1 _ _ _).alloc _ _⟩
  · skip
    by_cases h1 : n = 1
    · subst h1
      rw [show putP 1 v r = { r with d := v / 256, e := v % 256 } from rfl, show pairErr 1 = 0 from rfl]
      go_enter Tryd.func22, Tryd.ntmps22
      go_wp2_with fail
      refine (rsplit_any _ _ v0 v1).mono ?_
      rintro e v2 ⟨rfl, rfl⟩
      go_wp2
      exact bodyPost_ret (v := .tuple #[.agg #[.int .u8 r.a, .int .u8 r.f, .int .u8 r.b, .int .u8 r.c, .int .u8 (v / 256), .int .u8 (v % 256), .int .u8 r.h, .int .u8 r.l, .int .u16 r.s, .int .u16 r.p], .int .i64 0]) (by simp [results, Tryd.results22, go_sem, *]) rfl ⟨rfl, (alloc1 _ _ _).alloc _ _⟩
    · skip
      by_cases h2 : n = 2
      · subst h2
        rw [show putP 2 v r = { r with h := v / 256, l := v % 256 } from rfl, show pairErr 2 = 0 from rfl]
        go_enter Tryd.func22, Tryd.ntmps22
        go_wp2_with fail
        refine (rsplit_any _ _ v0 v1).mono ?_
        rintro e v2 ⟨rfl, rfl⟩
        go_wp2
        exact bodyPost_ret (v := .tuple #[.agg #[.int .u8 r.a, .int .u8 r.f, .int .u8 r.b, .int .u8 r.c, .int .u8 r.d, .int .u8 r.e, .int .u8 (v / 256), .int .u8 (v % 256), .int .u16 r.s, .int .u16 r.p], .int .i64 0]) (by simp [results, Tryd.results22, go_sem, *]) rfl ⟨rfl, (alloc1 _ _ _).alloc _ _⟩
      · skip
        by_cases h3 : n = 3
        · subst h3
          rw [show putP 3 v r = { r with s := v } from rfl, show pairErr 3 = 0 from rfl]
          go_enter Tryd.func22, Tryd.ntmps22
          go_wp2_with fail
          refine (rsplit_any _ _ v0 v1).mono ?_
          rintro e v2 ⟨rfl, rfl⟩
          go_wp2
          exact bodyPost_ret (v := .tuple #[.agg #[.int .u8 r.a, .int .u8 r.f, .int .u8 r.b, .int .u8 r.c, .int .u8 r.d, .int .u8 r.e, .int .u8 r.h, .int .u8 r.l, .int .u16 v, .int .u16 r.p], .int .i64 0]) (by simp [results, Tryd.results22, go_sem, *]) rfl ⟨rfl, (alloc1 _ _ _).alloc _ _⟩
        · skip
          by_cases h4 : n = 4
          · subst h4
            rw [show putP 4 v r = { r with a := v / 256, f := v % 256 / 16 * 16 } from rfl, show pairErr 4 = 0 from rfl]
            go_enter Tryd.func22, Tryd.ntmps22
            go_wp2_with fail
            refine (rsplit_any _ _ v0 v1).mono ?_
            rintro e v2 ⟨rfl, rfl⟩
            go_wp2
            exact bodyPost_ret (v := .tuple #[.agg #[.int .u8 (v / 256), .int .u8 (v % 256 / 16 * 16), .int .u8 r.b, .int .u8 r.c, .int .u8 r.d, .int .u8 r.e, .int .u8 r.h, .int .u8 r.l, .int .u16 r.s, .int .u16 r.p], .int .i64 0]) (by simp [results, Tryd.results22, go_sem, *]) rfl ⟨rfl, (alloc1 _ _ _).alloc _ _⟩
          · skip
            have e1 : pairErr n = 1 := by unfold pairErr; rw [if_pos (by omega)]
            have e2 : putP n v r = zeroR := by unfold putP; simp [*]
            rw [e2, e1]
            go_enter Tryd.func22, Tryd.ntmps22
            go_wp2_with fail
            refine (rsplit_any _ _ v0 v1).mono ?_
            rintro e v2 ⟨rfl, rfl⟩
            go_wp2
            exact bodyPost_ret (v := .tuple #[.agg #[.int .u8 0, .int .u8 0, .int .u8 0, .int .u8 0, .int .u8 0, .int .u8 0, .int .u8 0, .int .u8 0, .int .u16 0, .int .u16 0], .int .i64 1]) (by simp [results, Tryd.results22, go_sem, *]) rfl ⟨rfl, (alloc1 _ _ _).alloc _ _⟩
end Go.Proofs.YticamagmccapoaaDoor
