/- Put of layer 4. -/
import Derived.Test.YticamagmccapoaaDoorRows
import Derived.Test.YticamagmccapoaaDoorBits
import Derived.Test.YticamagmccapoaaDoorGrow
import Derived.Test.YticamagmccapoaaDoorGrow2
import Derived.Test.YticamagmccapoaaDoorRg
import Derived.Deep.QuietTactic
import Derived.BigQuiet
import Derived.Deep.RegionHeld3
import Derived.Deep.DeepCutAuto
import Derived.Test.YticamagmccapoaaDoorRegs1
namespace Go.Proofs.YticamagmccapoaaDoor
open Go.RowKit
set_option linter.unusedVariables false
set_option linter.unusedSimpArgs false

set_option maxHeartbeats 8000000 in
theorem put_any (r : Rg) (n v : Int) (w : World) :
    Calls Tryd.prog 8 #[.agg #[.int .u8 r.a, .int .u8 r.f, .int .u8 r.b, .int .u8 r.c, .int .u8 r.d, .int .u8 r.e, .int .u8 r.h, .int .u8 r.l, .int .u16 r.s, .int .u16 r.p], .int .i64 n, .int .u8 v] w fun e w' => e = .returned (.tuple #[.agg #[.int .u8 (putR n v r).a, .int .u8 (putR n v r).f, .int .u8 (putR n v r).b, .int .u8 (putR n v r).c, .int .u8 (putR n v r).d, .int .u8 (putR n v r).e, .int .u8 (putR n v r).h, .int .u8 (putR n v r).l, .int .u16 (putR n v r).s, .int .u16 (putR n v r).p], .int .i64 (mayOf n)]) ∧ Grown w w' := by
  by_cases h0 : n = 0
  · subst h0
    rw [show putR 0 v r = { r with b := v } from rfl]
    go_enter Tryd.func8, Tryd.ntmps8
    go_wp2_with fail
    refine (check_any _ _).mono ?_
    rintro e v0 ⟨rfl, rfl⟩
    rw [show mayOf 0 = 0 from rfl]
    go_wp2_with fail
    refine (row_any r _).mono ?_
    rintro e u1 ⟨rfl, g1⟩
    have B1n0x1 := has_grown g1 (has_past (has_alloc _ _ _) _)
    have B1n1x1 := has_grown g1 (has_alloc _ _ _)
    simp only [World.size_alloc] at B1n1x1
    obtain ⟨zB1n0x1, cB1n0x1⟩ := id B1n0x1
    obtain ⟨zB1n1x1, cB1n1x1⟩ := id B1n1x1
    have G1 := hid (grown_trans (((Grown.refl w).alloc _ _).alloc _ _) g1)
    go_wp2_with fail
    refine (withRow_any r v r.c r.d r.e r.h r.l r.f r.a _).mono ?_
    rintro e u2 ⟨rfl, g2⟩
    have B1n0x2 := has_grown g2 (has_past B1n0x1 _)
    have B1n1x2 := has_grown g2 (has_past B1n1x1 _)
    have B2n0x2 := has_grown g2 (has_alloc _ _ _)
    obtain ⟨zB1n0x2, cB1n0x2⟩ := id B1n0x2
    obtain ⟨zB1n1x2, cB1n1x2⟩ := id B1n1x2
    obtain ⟨zB2n0x2, cB2n0x2⟩ := id B2n0x2
    have G2 := hid (grown_trans (G1.out.alloc _ _) g2)
    have hf := fun o => grown_froz G2.out (b := w.heap.size + 1) (by omega) o
    go_wp2
    exact bodyPost_ret (v := .tuple #[.agg #[.int .u8 r.a, .int .u8 r.f, .int .u8 v, .int .u8 r.c, .int .u8 r.d, .int .u8 r.e, .int .u8 r.h, .int .u8 r.l, .int .u16 r.s, .int .u16 r.p], .int .i64 0]) (by simp [results, Tryd.results8, go_sem, *]) rfl ⟨rfl, (Grown.setCell (Grown.setCell (Grown.setCell (Grown.setCell (Grown.setCell (Grown.setCell (Grown.setCell (Grown.setCell (Grown.setCell (Grown.setCell G2.out (by simp <;> omega) _) (by simp <;> omega) _) (by simp <;> omega) _) (by simp <;> omega) _) (by simp <;> omega) _) (by simp <;> omega) _) (by simp <;> omega) _) (by simp <;> omega) _) (by simp <;> omega) _) (by simp <;> omega) _)⟩
  · skip
    by_cases h1 : n = 1
    · subst h1
      rw [show putR 1 v r = { r with c := v } from rfl]
      go_enter Tryd.func8, Tryd.ntmps8
      go_wp2_with fail
      refine (check_any _ _).mono ?_
      rintro e v0 ⟨rfl, rfl⟩
      rw [show mayOf 1 = 0 from rfl]
      go_wp2_with fail
      refine (row_any r _).mono ?_
      rintro e u1 ⟨rfl, g1⟩
      have B1n0x1 := has_grown g1 (has_past (has_alloc _ _ _) _)
      have B1n1x1 := has_grown g1 (has_alloc _ _ _)
      simp only [World.size_alloc] at B1n1x1
      obtain ⟨zB1n0x1, cB1n0x1⟩ := id B1n0x1
      obtain ⟨zB1n1x1, cB1n1x1⟩ := id B1n1x1
      have G1 := hid (grown_trans (((Grown.refl w).alloc _ _).alloc _ _) g1)
      go_wp2_with fail
      refine (withRow_any r r.b v r.d r.e r.h r.l r.f r.a _).mono ?_
      rintro e u2 ⟨rfl, g2⟩
      have B1n0x2 := has_grown g2 (has_past B1n0x1 _)
      have B1n1x2 := has_grown g2 (has_past B1n1x1 _)
      have B2n0x2 := has_grown g2 (has_alloc _ _ _)
      obtain ⟨zB1n0x2, cB1n0x2⟩ := id B1n0x2
      obtain ⟨zB1n1x2, cB1n1x2⟩ := id B1n1x2
      obtain ⟨zB2n0x2, cB2n0x2⟩ := id B2n0x2
      have G2 := hid (grown_trans (G1.out.alloc _ _) g2)
      have hf := fun o => grown_froz G2.out (b := w.heap.size + 1) (by omega) o
      go_wp2
      exact bodyPost_ret (v := .tuple #[.agg #[.int .u8 r.a, .int .u8 r.f, .int .u8 r.b, .int .u8 v, .int .u8 r.d, .int .u8 r.e, .int .u8 r.h, .int .u8 r.l, .int .u16 r.s, .int .u16 r.p], .int .i64 0]) (by simp [results, Tryd.results8, go_sem, *]) rfl ⟨rfl, (Grown.setCell (Grown.setCell (Grown.setCell (Grown.setCell (Grown.setCell (Grown.setCell (Grown.setCell (Grown.setCell (Grown.setCell (Grown.setCell G2.out (by simp <;> omega) _) (by simp <;> omega) _) (by simp <;> omega) _) (by simp <;> omega) _) (by simp <;> omega) _) (by simp <;> omega) _) (by simp <;> omega) _) (by simp <;> omega) _) (by simp <;> omega) _) (by simp <;> omega) _)⟩
    · skip
      by_cases h2 : n = 2
      · subst h2
        rw [show putR 2 v r = { r with d := v } from rfl]
        go_enter Tryd.func8, Tryd.ntmps8
        go_wp2_with fail
        refine (check_any _ _).mono ?_
        rintro e v0 ⟨rfl, rfl⟩
        rw [show mayOf 2 = 0 from rfl]
        go_wp2_with fail
        refine (row_any r _).mono ?_
        rintro e u1 ⟨rfl, g1⟩
        have B1n0x1 := has_grown g1 (has_past (has_alloc _ _ _) _)
        have B1n1x1 := has_grown g1 (has_alloc _ _ _)
        simp only [World.size_alloc] at B1n1x1
        obtain ⟨zB1n0x1, cB1n0x1⟩ := id B1n0x1
        obtain ⟨zB1n1x1, cB1n1x1⟩ := id B1n1x1
        have G1 := hid (grown_trans (((Grown.refl w).alloc _ _).alloc _ _) g1)
        go_wp2_with fail
        refine (withRow_any r r.b r.c v r.e r.h r.l r.f r.a _).mono ?_
        rintro e u2 ⟨rfl, g2⟩
        have B1n0x2 := has_grown g2 (has_past B1n0x1 _)
        have B1n1x2 := has_grown g2 (has_past B1n1x1 _)
        have B2n0x2 := has_grown g2 (has_alloc _ _ _)
        obtain ⟨zB1n0x2, cB1n0x2⟩ := id B1n0x2
        obtain ⟨zB1n1x2, cB1n1x2⟩ := id B1n1x2
        obtain ⟨zB2n0x2, cB2n0x2⟩ := id B2n0x2
        have G2 := hid (grown_trans (G1.out.alloc _ _) g2)
        have hf := fun o => grown_froz G2.out (b := w.heap.size + 1) (by omega) o
        go_wp2
        exact bodyPost_ret (v := .tuple #[.agg #[.int .u8 r.a, .int .u8 r.f, .int .u8 r.b, .int .u8 r.c, .int .u8 v, .int .u8 r.e, .int .u8 r.h, .int .u8 r.l, .int .u16 r.s, .int .u16 r.p], .int .i64 0]) (by simp [results, Tryd.results8, go_sem, *]) rfl ⟨rfl, (Grown.setCell (Grown.setCell (Grown.setCell (Grown.setCell (Grown.setCell (Grown.setCell (Grown.setCell (Grown.setCell (Grown.setCell (Grown.setCell G2.out (by simp <;> omega) _) (by simp <;> omega) _) (by simp <;> omega) _) (by simp <;> omega) _) (by simp <;> omega) _) (by simp <;> omega) _) (by simp <;> omega) _) (by simp <;> omega) _) (by simp <;> omega) _) (by simp <;> omega) _)⟩
      · skip
        by_cases h3 : n = 3
        · subst h3
          rw [show putR 3 v r = { r with e := v } from rfl]
          go_enter Tryd.func8, Tryd.ntmps8
          go_wp2_with fail
          refine (check_any _ _).mono ?_
          rintro e v0 ⟨rfl, rfl⟩
          rw [show mayOf 3 = 0 from rfl]
          go_wp2_with fail
          refine (row_any r _).mono ?_
          rintro e u1 ⟨rfl, g1⟩
          have B1n0x1 := has_grown g1 (has_past (has_alloc _ _ _) _)
          have B1n1x1 := has_grown g1 (has_alloc _ _ _)
          simp only [World.size_alloc] at B1n1x1
          obtain ⟨zB1n0x1, cB1n0x1⟩ := id B1n0x1
          obtain ⟨zB1n1x1, cB1n1x1⟩ := id B1n1x1
          have G1 := hid (grown_trans (((Grown.refl w).alloc _ _).alloc _ _) g1)
          go_wp2_with fail
          refine (withRow_any r r.b r.c r.d v r.h r.l r.f r.a _).mono ?_
          rintro e u2 ⟨rfl, g2⟩
          have B1n0x2 := has_grown g2 (has_past B1n0x1 _)
          have B1n1x2 := has_grown g2 (has_past B1n1x1 _)
          have B2n0x2 := has_grown g2 (has_alloc _ _ _)
          obtain ⟨zB1n0x2, cB1n0x2⟩ := id B1n0x2
          obtain ⟨zB1n1x2, cB1n1x2⟩ := id B1n1x2
          obtain ⟨zB2n0x2, cB2n0x2⟩ := id B2n0x2
          have G2 := hid (grown_trans (G1.out.alloc _ _) g2)
          have hf := fun o => grown_froz G2.out (b := w.heap.size + 1) (by omega) o
          go_wp2
          exact bodyPost_ret (v := .tuple #[.agg #[.int .u8 r.a, .int .u8 r.f, .int .u8 r.b, .int .u8 r.c, .int .u8 r.d, .int .u8 v, .int .u8 r.h, .int .u8 r.l, .int .u16 r.s, .int .u16 r.p], .int .i64 0]) (by simp [results, Tryd.results8, go_sem, *]) rfl ⟨rfl, (Grown.setCell (Grown.setCell (Grown.setCell (Grown.setCell (Grown.setCell (Grown.setCell (Grown.setCell (Grown.setCell (Grown.setCell (Grown.setCell G2.out (by simp <;> omega) _) (by simp <;> omega) _) (by simp <;> omega) _) (by simp <;> omega) _) (by simp <;> omega) _) (by simp <;> omega) _) (by simp <;> omega) _) (by simp <;> omega) _) (by simp <;> omega) _) (by simp <;> omega) _)⟩
        · skip
          by_cases h4 : n = 4
          · subst h4
            rw [show putR 4 v r = { r with h := v } from rfl]
            go_enter Tryd.func8, Tryd.ntmps8
            go_wp2_with fail
            refine (check_any _ _).mono ?_
            rintro e v0 ⟨rfl, rfl⟩
            rw [show mayOf 4 = 0 from rfl]
            go_wp2_with fail
            refine (row_any r _).mono ?_
            rintro e u1 ⟨rfl, g1⟩
            have B1n0x1 := has_grown g1 (has_past (has_alloc _ _ _) _)
            have B1n1x1 := has_grown g1 (has_alloc _ _ _)
            simp only [World.size_alloc] at B1n1x1
            obtain ⟨zB1n0x1, cB1n0x1⟩ := id B1n0x1
            obtain ⟨zB1n1x1, cB1n1x1⟩ := id B1n1x1
            have G1 := hid (grown_trans (((Grown.refl w).alloc _ _).alloc _ _) g1)
            go_wp2_with fail
            refine (withRow_any r r.b r.c r.d r.e v r.l r.f r.a _).mono ?_
            rintro e u2 ⟨rfl, g2⟩
            have B1n0x2 := has_grown g2 (has_past B1n0x1 _)
            have B1n1x2 := has_grown g2 (has_past B1n1x1 _)
            have B2n0x2 := has_grown g2 (has_alloc _ _ _)
            obtain ⟨zB1n0x2, cB1n0x2⟩ := id B1n0x2
            obtain ⟨zB1n1x2, cB1n1x2⟩ := id B1n1x2
            obtain ⟨zB2n0x2, cB2n0x2⟩ := id B2n0x2
            have G2 := hid (grown_trans (G1.out.alloc _ _) g2)
            have hf := fun o => grown_froz G2.out (b := w.heap.size + 1) (by omega) o
            go_wp2
            exact bodyPost_ret (v := .tuple #[.agg #[.int .u8 r.a, .int .u8 r.f, .int .u8 r.b, .int .u8 r.c, .int .u8 r.d, .int .u8 r.e, .int .u8 v, .int .u8 r.l, .int .u16 r.s, .int .u16 r.p], .int .i64 0]) (by simp [results, Tryd.results8, go_sem, *]) rfl ⟨rfl, (Grown.setCell (Grown.setCell (Grown.setCell (Grown.setCell (Grown.setCell (Grown.setCell (Grown.setCell (Grown.setCell (Grown.setCell (Grown.setCell G2.out (by simp <;> omega) _) (by simp <;> omega) _) (by simp <;> omega) _) (by simp <;> omega) _) (by simp <;> omega) _) (by simp <;> omega) _) (by simp <;> omega) _) (by simp <;> omega) _) (by simp <;> omega) _) (by simp <;> omega) _)⟩
          · skip
            by_cases h5 : n = 5
            · subst h5
              rw [show putR 5 v r = { r with l := v } from rfl]
              go_enter Tryd.func8, Tryd.ntmps8
              go_wp2_with fail
              refine (check_any _ _).mono ?_
              rintro e v0 ⟨rfl, rfl⟩
              rw [show mayOf 5 = 0 from rfl]
              go_wp2_with fail
              refine (row_any r _).mono ?_
              rintro e u1 ⟨rfl, g1⟩
              have B1n0x1 := has_grown g1 (has_past (has_alloc _ _ _) _)
              have B1n1x1 := has_grown g1 (has_alloc _ _ _)
              simp only [World.size_alloc] at B1n1x1
              obtain ⟨zB1n0x1, cB1n0x1⟩ := id B1n0x1
              obtain ⟨zB1n1x1, cB1n1x1⟩ := id B1n1x1
              have G1 := hid (grown_trans (((Grown.refl w).alloc _ _).alloc _ _) g1)
              go_wp2_with fail
              refine (withRow_any r r.b r.c r.d r.e r.h v r.f r.a _).mono ?_
              rintro e u2 ⟨rfl, g2⟩
              have B1n0x2 := has_grown g2 (has_past B1n0x1 _)
              have B1n1x2 := has_grown g2 (has_past B1n1x1 _)
              have B2n0x2 := has_grown g2 (has_alloc _ _ _)
              obtain ⟨zB1n0x2, cB1n0x2⟩ := id B1n0x2
              obtain ⟨zB1n1x2, cB1n1x2⟩ := id B1n1x2
              obtain ⟨zB2n0x2, cB2n0x2⟩ := id B2n0x2
              have G2 := hid (grown_trans (G1.out.alloc _ _) g2)
              have hf := fun o => grown_froz G2.out (b := w.heap.size + 1) (by omega) o
              go_wp2
              exact bodyPost_ret (v := .tuple #[.agg #[.int .u8 r.a, .int .u8 r.f, .int .u8 r.b, .int .u8 r.c, .int .u8 r.d, .int .u8 r.e, .int .u8 r.h, .int .u8 v, .int .u16 r.s, .int .u16 r.p], .int .i64 0]) (by simp [results, Tryd.results8, go_sem, *]) rfl ⟨rfl, (Grown.setCell (Grown.setCell (Grown.setCell (Grown.setCell (Grown.setCell (Grown.setCell (Grown.setCell (Grown.setCell (Grown.setCell (Grown.setCell G2.out (by simp <;> omega) _) (by simp <;> omega) _) (by simp <;> omega) _) (by simp <;> omega) _) (by simp <;> omega) _) (by simp <;> omega) _) (by simp <;> omega) _) (by simp <;> omega) _) (by simp <;> omega) _) (by simp <;> omega) _)⟩
            · skip
              by_cases h6 : n = 6
              · subst h6
                rw [show putR 6 v r = zeroR from rfl]
                go_enter Tryd.func8, Tryd.ntmps8
                go_wp2_with fail
                refine (check_any _ _).mono ?_
                rintro e v0 ⟨rfl, rfl⟩
                rw [show mayOf 6 = 7 from rfl]
                go_wp2
                exact bodyPost_ret (v := .tuple #[.agg #[.int .u8 0, .int .u8 0, .int .u8 0, .int .u8 0, .int .u8 0, .int .u8 0, .int .u8 0, .int .u8 0, .int .u16 0, .int .u16 0], .int .i64 7]) (by simp [results, Tryd.results8, go_sem, *]) rfl ⟨rfl, (alloc1 _ _ _).alloc _ _⟩
              · skip
                by_cases h7 : n = 7
                · subst h7
                  rw [show putR 7 v r = { r with a := v } from rfl]
                  go_enter Tryd.func8, Tryd.ntmps8
                  go_wp2_with fail
                  refine (check_any _ _).mono ?_
                  rintro e v0 ⟨rfl, rfl⟩
                  rw [show mayOf 7 = 0 from rfl]
                  go_wp2_with fail
                  refine (row_any r _).mono ?_
                  rintro e u1 ⟨rfl, g1⟩
                  have B1n0x1 := has_grown g1 (has_past (has_alloc _ _ _) _)
                  have B1n1x1 := has_grown g1 (has_alloc _ _ _)
                  simp only [World.size_alloc] at B1n1x1
                  obtain ⟨zB1n0x1, cB1n0x1⟩ := id B1n0x1
                  obtain ⟨zB1n1x1, cB1n1x1⟩ := id B1n1x1
                  have G1 := hid (grown_trans (((Grown.refl w).alloc _ _).alloc _ _) g1)
                  go_wp2_with fail
                  refine (withRow_any r r.b r.c r.d r.e r.h r.l r.f v _).mono ?_
                  rintro e u2 ⟨rfl, g2⟩
                  have B1n0x2 := has_grown g2 (has_past B1n0x1 _)
                  have B1n1x2 := has_grown g2 (has_past B1n1x1 _)
                  have B2n0x2 := has_grown g2 (has_alloc _ _ _)
                  obtain ⟨zB1n0x2, cB1n0x2⟩ := id B1n0x2
                  obtain ⟨zB1n1x2, cB1n1x2⟩ := id B1n1x2
                  obtain ⟨zB2n0x2, cB2n0x2⟩ := id B2n0x2
                  have G2 := hid (grown_trans (G1.out.alloc _ _) g2)
                  have hf := fun o => grown_froz G2.out (b := w.heap.size + 1) (by omega) o
                  go_wp2
                  exact bodyPost_ret (v := .tuple #[.agg #[.int .u8 v, .int .u8 r.f, .int .u8 r.b, .int .u8 r.c, .int .u8 r.d, .int .u8 r.e, .int .u8 r.h, .int .u8 r.l, .int .u16 r.s, .int .u16 r.p], .int .i64 0]) (by simp [results, Tryd.results8, go_sem, *]) rfl ⟨rfl, (Grown.setCell (Grown.setCell (Grown.setCell (Grown.setCell (Grown.setCell (Grown.setCell (Grown.setCell (Grown.setCell (Grown.setCell (Grown.setCell G2.out (by simp <;> omega) _) (by simp <;> omega) _) (by simp <;> omega) _) (by simp <;> omega) _) (by simp <;> omega) _) (by simp <;> omega) _) (by simp <;> omega) _) (by simp <;> omega) _) (by simp <;> omega) _) (by simp <;> omega) _)⟩
                · skip
                  have e1 : mayOf n = 1 := by unfold mayOf; rw [if_neg (by omega), if_pos (by omega)]
                  have e2 : putR n v r = zeroR := by unfold putR; simp [*]
                  rw [e2, e1]
                  go_enter Tryd.func8, Tryd.ntmps8
                  go_wp2_with fail
                  refine (check_any _ _).mono ?_
                  rintro e v0 ⟨rfl, rfl⟩
                  rw [e1]
                  go_wp2
                  exact bodyPost_ret (v := .tuple #[.agg #[.int .u8 0, .int .u8 0, .int .u8 0, .int .u8 0, .int .u8 0, .int .u8 0, .int .u8 0, .int .u8 0, .int .u16 0, .int .u16 0], .int .i64 1]) (by simp [results, Tryd.results8, go_sem, *]) rfl ⟨rfl, (alloc1 _ _ _).alloc _ _⟩
end Go.Proofs.YticamagmccapoaaDoor
