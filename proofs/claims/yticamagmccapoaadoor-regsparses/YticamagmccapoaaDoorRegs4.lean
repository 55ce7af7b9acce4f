/- PutPair of layer 4. -/
import Derived.Test.YticamagmccapoaaDoorRows
import Derived.Test.YticamagmccapoaaDoorBits
import Derived.Test.YticamagmccapoaaDoorGrow
import Derived.Test.YticamagmccapoaaDoorGrow2
import Derived.Test.YticamagmccapoaaDoorRg
import Derived.Deep.QuietTactic
import Derived.BigQuiet
import Derived.Deep.RegionHeld3
import Derived.Deep.DeepCutAuto
import Derived.Test.YticamagmccapoaaDoorRegs3
namespace Go.Proofs.YticamagmccapoaaDoor
open Go.RowKit
set_option linter.unusedVariables false
set_option linter.unusedSimpArgs false

theorem and240_fin : ∀ b : Fin 256, bits .and .u8 (b.val : Int) 240 = (b.val : Int) / 16 * 16 := by decide +kernel
set_option maxHeartbeats 8000000 in
theorem putPair_any (r : Rg) (n v : Int) (w : World) (v0 : 0 ≤ v) (v1 : v ≤ 65535) :
    Calls Tryd.prog 17 #[.agg #[.int .u8 r.a, .int .u8 r.f, .int .u8 r.b, .int .u8 r.c, .int .u8 r.d, .int .u8 r.e, .int .u8 r.h, .int .u8 r.l, .int .u16 r.s, .int .u16 r.p], .int .i64 n, .int .u16 v] w fun e w' => e = .returned (.tuple #[.agg #[.int .u8 (putP n v r).a, .int .u8 (putP n v r).f, .int .u8 (putP n v r).b, .int .u8 (putP n v r).c, .int .u8 (putP n v r).d, .int .u8 (putP n v r).e, .int .u8 (putP n v r).h, .int .u8 (putP n v r).l, .int .u16 (putP n v r).s, .int .u16 (putP n v r).p], .int .i64 (pairErr n)]) ∧ Grown w w' := by
  have E := hid (fin8 (p := fun b => bits .and .u8 b 240 = b / 16 * 16) and240_fin (v % 256) (by omega) (by omega))
  by_cases h0 : n = 0
  · subst h0
    rw [show putP 0 v r = { r with b := v / 256, c := v % 256 } from rfl, show pairErr 0 = 0 from rfl]
    go_enter Tryd.func17, Tryd.ntmps17
    go_wp2_with fail
    refine (halves_any _ _).mono ?_
    rintro e v0 ⟨rfl, rfl⟩
    rw [show hiOf 0 = 0 from rfl, show loOf 0 = 1 from rfl, show okOf 0 = true from rfl]
    go_wp2_with fail
    refine (row_any r _).mono ?_
    rintro e u1 ⟨rfl, g1⟩
    have B1n0x1 := has_grown g1 (has_past (has_alloc _ _ _) _)
    have B1n1x1 := has_grown g1 (has_alloc _ _ _)
    simp only [World.size_alloc] at B1n1x1
    obtain ⟨zB1n0x1, cB1n0x1⟩ := id B1n0x1
    obtain ⟨zB1n1x1, cB1n1x1⟩ := id B1n1x1
    have G1 := hid (grown_trans (((Grown.refl w).alloc _ _).alloc _ _) g1)
    go_wp2_with fail
    refine (split_any _ _ v0 v1).mono ?_
    rintro e v0 ⟨rfl, rfl⟩
    go_wp2_with fail
    refine (withRow_any r (v / 256) (v % 256) r.d r.e r.h r.l r.f r.a _).mono ?_
    rintro e u2 ⟨rfl, g2⟩
    have B1n0x2 := has_grown g2 (has_past B1n0x1 _)
    have B1n1x2 := has_grown g2 (has_past B1n1x1 _)
    have B2n0x2 := has_grown g2 (has_alloc _ _ _)
    obtain ⟨zB1n0x2, cB1n0x2⟩ := id B1n0x2
    obtain ⟨zB1n1x2, cB1n1x2⟩ := id B1n1x2
    obtain ⟨zB2n0x2, cB2n0x2⟩ := id B2n0x2
    have G2 := hid (grown_trans (G1.out.alloc _ _) g2)
    have hf := fun o => grown_froz G2.out (b := w.heap.size + 1) (by omega) o
    go_wp2
    exact bodyPost_ret (v := .tuple #[.agg #[.int .u8 r.a, .int .u8 r.f, .int .u8 (v / 256), .int .u8 (v % 256), .int .u8 r.d, .int .u8 r.e, .int .u8 r.h, .int .u8 r.l, .int .u16 r.s, .int .u16 r.p], .int .i64 0]) (by simp [results, Tryd.results17, go_sem, *]) rfl ⟨rfl, (Grown.setCell (Grown.setCell (Grown.setCell (Grown.setCell (Grown.setCell (Grown.setCell (Grown.setCell (Grown.setCell (Grown.setCell (Grown.setCell G2.out (by simp <;> omega) _) (by simp <;> omega) _) (by simp <;> omega) _) (by simp <;> omega) _) (by simp <;> omega) _) (by simp <;> omega) _) (by simp <;> omega) _) (by simp <;> omega) _) (by simp <;> omega) _) (by simp <;> omega) _)⟩
  · skip
    by_cases h1 : n = 1
    · subst h1
      rw [show putP 1 v r = { r with d := v / 256, e := v % 256 } from rfl, show pairErr 1 = 0 from rfl]
      go_enter Tryd.func17, Tryd.ntmps17
      go_wp2_with fail
      refine (halves_any _ _).mono ?_
      rintro e v0 ⟨rfl, rfl⟩
      rw [show hiOf 1 = 2 from rfl, show loOf 1 = 3 from rfl, show okOf 1 = true from rfl]
      go_wp2_with fail
      refine (row_any r _).mono ?_
      rintro e u1 ⟨rfl, g1⟩
      have B1n0x1 := has_grown g1 (has_past (has_alloc _ _ _) _)
      have B1n1x1 := has_grown g1 (has_alloc _ _ _)
      simp only [World.size_alloc] at B1n1x1
      obtain ⟨zB1n0x1, cB1n0x1⟩ := id B1n0x1
      obtain ⟨zB1n1x1, cB1n1x1⟩ := id B1n1x1
      have G1 := hid (grown_trans (((Grown.refl w).alloc _ _).alloc _ _) g1)
      go_wp2_with fail
      refine (split_any _ _ v0 v1).mono ?_
      rintro e v0 ⟨rfl, rfl⟩
      go_wp2_with fail
      refine (withRow_any r r.b r.c (v / 256) (v % 256) r.h r.l r.f r.a _).mono ?_
      rintro e u2 ⟨rfl, g2⟩
      have B1n0x2 := has_grown g2 (has_past B1n0x1 _)
      have B1n1x2 := has_grown g2 (has_past B1n1x1 _)
      have B2n0x2 := has_grown g2 (has_alloc _ _ _)
      obtain ⟨zB1n0x2, cB1n0x2⟩ := id B1n0x2
      obtain ⟨zB1n1x2, cB1n1x2⟩ := id B1n1x2
      obtain ⟨zB2n0x2, cB2n0x2⟩ := id B2n0x2
      have G2 := hid (grown_trans (G1.out.alloc _ _) g2)
      have hf := fun o => grown_froz G2.out (b := w.heap.size + 1) (by omega) o
      go_wp2
      exact bodyPost_ret (v := .tuple #[.agg #[.int .u8 r.a, .int .u8 r.f, .int .u8 r.b, .int .u8 r.c, .int .u8 (v / 256), .int .u8 (v % 256), .int .u8 r.h, .int .u8 r.l, .int .u16 r.s, .int .u16 r.p], .int .i64 0]) (by simp [results, Tryd.results17, go_sem, *]) rfl ⟨rfl, (Grown.setCell (Grown.setCell (Grown.setCell (Grown.setCell (Grown.setCell (Grown.setCell (Grown.setCell (Grown.setCell (Grown.setCell (Grown.setCell G2.out (by simp <;> omega) _) (by simp <;> omega) _) (by simp <;> omega) _) (by simp <;> omega) _) (by simp <;> omega) _) (by simp <;> omega) _) (by simp <;> omega) _) (by simp <;> omega) _) (by simp <;> omega) _) (by simp <;> omega) _)⟩
    · skip
      by_cases h2 : n = 2
      · subst h2
        rw [show putP 2 v r = { r with h := v / 256, l := v % 256 } from rfl, show pairErr 2 = 0 from rfl]
        go_enter Tryd.func17, Tryd.ntmps17
        go_wp2_with fail
        refine (halves_any _ _).mono ?_
        rintro e v0 ⟨rfl, rfl⟩
        rw [show hiOf 2 = 4 from rfl, show loOf 2 = 5 from rfl, show okOf 2 = true from rfl]
        go_wp2_with fail
        refine (row_any r _).mono ?_
        rintro e u1 ⟨rfl, g1⟩
        have B1n0x1 := has_grown g1 (has_past (has_alloc _ _ _) _)
        have B1n1x1 := has_grown g1 (has_alloc _ _ _)
        simp only [World.size_alloc] at B1n1x1
        obtain ⟨zB1n0x1, cB1n0x1⟩ := id B1n0x1
        obtain ⟨zB1n1x1, cB1n1x1⟩ := id B1n1x1
        have G1 := hid (grown_trans (((Grown.refl w).alloc _ _).alloc _ _) g1)
        go_wp2_with fail
        refine (split_any _ _ v0 v1).mono ?_
        rintro e v0 ⟨rfl, rfl⟩
        go_wp2_with fail
        refine (withRow_any r r.b r.c r.d r.e (v / 256) (v % 256) r.f r.a _).mono ?_
        rintro e u2 ⟨rfl, g2⟩
        have B1n0x2 := has_grown g2 (has_past B1n0x1 _)
        have B1n1x2 := has_grown g2 (has_past B1n1x1 _)
        have B2n0x2 := has_grown g2 (has_alloc _ _ _)
        obtain ⟨zB1n0x2, cB1n0x2⟩ := id B1n0x2
        obtain ⟨zB1n1x2, cB1n1x2⟩ := id B1n1x2
        obtain ⟨zB2n0x2, cB2n0x2⟩ := id B2n0x2
        have G2 := hid (grown_trans (G1.out.alloc _ _) g2)
        have hf := fun o => grown_froz G2.out (b := w.heap.size + 1) (by omega) o
        go_wp2
        exact bodyPost_ret (v := .tuple #[.agg #[.int .u8 r.a, .int .u8 r.f, .int .u8 r.b, .int .u8 r.c, .int .u8 r.d, .int .u8 r.e, .int .u8 (v / 256), .int .u8 (v % 256), .int .u16 r.s, .int .u16 r.p], .int .i64 0]) (by simp [results, Tryd.results17, go_sem, *]) rfl ⟨rfl, (Grown.setCell (Grown.setCell (Grown.setCell (Grown.setCell (Grown.setCell (Grown.setCell (Grown.setCell (Grown.setCell (Grown.setCell (Grown.setCell G2.out (by simp <;> omega) _) (by simp <;> omega) _) (by simp <;> omega) _) (by simp <;> omega) _) (by simp <;> omega) _) (by simp <;> omega) _) (by simp <;> omega) _) (by simp <;> omega) _) (by simp <;> omega) _) (by simp <;> omega) _)⟩
      · skip
        by_cases h3 : n = 3
        · subst h3
          rw [show putP 3 v r = { r with s := v } from rfl, show pairErr 3 = 0 from rfl]
          go_enter Tryd.func17, Tryd.ntmps17
          go_wp2
          exact bodyPost_ret (v := .tuple #[.agg #[.int .u8 r.a, .int .u8 r.f, .int .u8 r.b, .int .u8 r.c, .int .u8 r.d, .int .u8 r.e, .int .u8 r.h, .int .u8 r.l, .int .u16 v, .int .u16 r.p], .int .i64 0]) (by simp [results, Tryd.results17, go_sem, *]) rfl ⟨rfl, (alloc1 _ _ _).alloc _ _⟩
        · skip
          by_cases h4 : n = 4
          · subst h4
            rw [show putP 4 v r = { r with a := v / 256, f := v % 256 / 16 * 16 } from rfl, show pairErr 4 = 0 from rfl]
            go_enter Tryd.func17, Tryd.ntmps17
            go_wp2_with fail
            refine (halves_any _ _).mono ?_
            rintro e v0 ⟨rfl, rfl⟩
            rw [show hiOf 4 = 7 from rfl, show loOf 4 = 6 from rfl, show okOf 4 = true from rfl]
            go_wp2_with fail
            refine (row_any r _).mono ?_
            rintro e u1 ⟨rfl, g1⟩
            have B1n0x1 := has_grown g1 (has_past (has_alloc _ _ _) _)
            have B1n1x1 := has_grown g1 (has_alloc _ _ _)
            simp only [World.size_alloc] at B1n1x1
            obtain ⟨zB1n0x1, cB1n0x1⟩ := id B1n0x1
            obtain ⟨zB1n1x1, cB1n1x1⟩ := id B1n1x1
            have G1 := hid (grown_trans (((Grown.refl w).alloc _ _).alloc _ _) g1)
            go_wp2_with fail
            refine (split_any _ _ v0 v1).mono ?_
            rintro e v0 ⟨rfl, rfl⟩
            go_wp2_with fail
            refine (withRow_any r r.b r.c r.d r.e r.h r.l (bits .and .u8 (v % 256) 240) (v / 256) _).mono ?_
            rintro e u2 ⟨rfl, g2⟩
            have B1n0x2 := has_grown g2 (has_past B1n0x1 _)
            have B1n1x2 := has_grown g2 (has_past B1n1x1 _)
            have B2n0x2 := has_grown g2 (has_alloc _ _ _)
            obtain ⟨zB1n0x2, cB1n0x2⟩ := id B1n0x2
            obtain ⟨zB1n1x2, cB1n1x2⟩ := id B1n1x2
            obtain ⟨zB2n0x2, cB2n0x2⟩ := id B2n0x2
            have G2 := hid (grown_trans (G1.out.alloc _ _) g2)
            have hf := fun o => grown_froz G2.out (b := w.heap.size + 1) (by omega) o
            go_wp2
            exact bodyPost_ret (v := .tuple #[.agg #[.int .u8 (v / 256), .int .u8 (bits .and .u8 (v % 256) 240), .int .u8 r.b, .int .u8 r.c, .int .u8 r.d, .int .u8 r.e, .int .u8 r.h, .int .u8 r.l, .int .u16 r.s, .int .u16 r.p], .int .i64 0]) (by simp [results, Tryd.results17, go_sem, *]) rfl ⟨by rw [E.out], (Grown.setCell (Grown.setCell (Grown.setCell (Grown.setCell (Grown.setCell (Grown.setCell (Grown.setCell (Grown.setCell (Grown.setCell (Grown.setCell G2.out (by simp <;> omega) _) (by simp <;> omega) _) (by simp <;> omega) _) (by simp <;> omega) _) (by simp <;> omega) _) (by simp <;> omega) _) (by simp <;> omega) _) (by simp <;> omega) _) (by simp <;> omega) _) (by simp <;> omega) _)⟩
          · skip
            have e1 : pairErr n = 1 := by unfold pairErr; rw [if_pos (by omega)]
            have e2 : putP n v r = zeroR := by unfold putP; simp [*]
            rw [e2, e1]
            go_enter Tryd.func17, Tryd.ntmps17
            go_wp2_with fail
            refine (halves_any _ _).mono ?_
            rintro e v0 ⟨rfl, rfl⟩
            rw [show hiOf n = 0 by simp [hiOf, *], show loOf n = 0 by simp [loOf, *], show okOf n = false by simp [okOf, *]]
            go_wp2
            exact bodyPost_ret (v := .tuple #[.agg #[.int .u8 0, .int .u8 0, .int .u8 0, .int .u8 0, .int .u8 0, .int .u8 0, .int .u8 0, .int .u8 0, .int .u16 0, .int .u16 0], .int .i64 1]) (by simp [results, Tryd.results17, go_sem, *]) rfl ⟨rfl, (alloc1 _ _ _).alloc _ _⟩
end Go.Proofs.YticamagmccapoaaDoor
