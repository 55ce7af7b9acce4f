/- The document's answers of layer 4: Flags, WithFlags, Holds, Boot. -/
import Derived.Test.YtaphcbhmkejbeaaDoorRows
import Derived.Test.YtaphcbhmkejbeaaDoorBits
import Derived.Test.YtaphcbhmkejbeaaDoorGrow
import Derived.Test.YtaphcbhmkejbeaaDoorGrow2
import Derived.Test.YtaphcbhmkejbeaaDoorRg
import Derived.Deep.QuietTactic
import Derived.BigQuiet
import Derived.Deep.RegionHeld3
import Derived.Deep.DeepCutAuto
import Derived.Test.YtaphcbhmkejbeaaDoorRegs3
import Derived.Test.YtaphcbhmkejbeaaDoorRefAlu
namespace Go.Proofs.YtaphcbhmkejbeaaDoor
open Go.RowKit
set_option linter.unusedVariables false
set_option linter.unusedSimpArgs false

set_option maxHeartbeats 8000000 in
theorem rflags_any (r : Rg) (w : World) (ok : r.ok) :
    Calls Tryd.prog 19 #[.agg #[.int .u8 r.a, .int .u8 r.f, .int .u8 r.b, .int .u8 r.c, .int .u8 r.d, .int .u8 r.e, .int .u8 r.h, .int .u8 r.l, .int .u16 r.s, .int .u16 r.p]] w fun e w' => e = .returned (.agg #[.bool (flagAt r.f 128), .bool (flagAt r.f 64), .bool (flagAt r.f 32), .bool (flagAt r.f 16)]) ∧ Grown w w' := by
  obtain ⟨⟨ha0, ha1⟩, ⟨hf0, hf1⟩, ⟨hb0, hb1⟩, ⟨hc0, hc1⟩, ⟨hd0, hd1⟩, ⟨he0, he1⟩, ⟨hh0, hh1⟩, ⟨hl0, hl1⟩, ⟨hs0, hs1⟩, ⟨hp0, hp1⟩⟩ := ok
  go_enter Tryd.func19, Tryd.ntmps19
  go_wp2_with fail
  refine (rof_any _ _ hf0 hf1).mono ?_
  rintro e u1 ⟨rfl, g1⟩
  have B1n0x1 := has_grown g1 (has_past (has_alloc _ _ _) _)
  have B1n1x1 := has_grown g1 (has_alloc _ _ _)
  simp only [World.size_alloc] at B1n1x1
  obtain ⟨zB1n0x1, cB1n0x1⟩ := id B1n0x1
  obtain ⟨zB1n1x1, cB1n1x1⟩ := id B1n1x1
  have G1 := hid (grown_trans (((Grown.refl w).alloc _ _).alloc _ _) g1)
  have hf := fun o => grown_froz G1.out (b := w.heap.size + 1) (by omega) o
  go_wp2
  exact bodyPost_ret (v := .agg #[.bool (flagAt r.f 128), .bool (flagAt r.f 64), .bool (flagAt r.f 32), .bool (flagAt r.f 16)]) (by simp [results, Tryd.results19, go_sem, *]) rfl ⟨rfl, (Grown.setCell (Grown.setCell (Grown.setCell (Grown.setCell G1.out (by simp <;> omega) _) (by simp <;> omega) _) (by simp <;> omega) _) (by simp <;> omega) _)⟩
set_option maxHeartbeats 8000000 in
theorem rwithFlags_any (r : Rg) (z n h c : Bool) (w : World) :
    Calls Tryd.prog 21 #[.agg #[.int .u8 r.a, .int .u8 r.f, .int .u8 r.b, .int .u8 r.c, .int .u8 r.d, .int .u8 r.e, .int .u8 r.h, .int .u8 r.l, .int .u16 r.s, .int .u16 r.p], .agg #[.bool z, .bool n, .bool h, .bool c]] w fun e w' => e = .returned (.agg #[.int .u8 r.a, .int .u8 (byteOf z n h c), .int .u8 r.b, .int .u8 r.c, .int .u8 r.d, .int .u8 r.e, .int .u8 r.h, .int .u8 r.l, .int .u16 r.s, .int .u16 r.p]) ∧ Grown w w' := by
  go_enter Tryd.func21, Tryd.ntmps21
  go_wp2_with fail
  refine (rbyte_any z n h c _).mono ?_
  rintro e u1 ⟨rfl, g1⟩
  have B1n0x1 := has_grown g1 (has_past (has_past (has_alloc _ _ _) _) _)
  have B1n1x1 := has_grown g1 (has_past (has_alloc _ _ _) _)
  simp only [World.size_alloc] at B1n1x1
  have B1n2x1 := has_grown g1 (has_alloc _ _ _)
  simp only [World.size_alloc] at B1n2x1
  obtain ⟨zB1n0x1, cB1n0x1⟩ := id B1n0x1
  obtain ⟨zB1n1x1, cB1n1x1⟩ := id B1n1x1
  obtain ⟨zB1n2x1, cB1n2x1⟩ := id B1n2x1
  have G1 := hid (grown_trans ((((Grown.refl w).alloc _ _).alloc _ _).alloc _ _) g1)
  have hf := fun o => grown_froz G1.out (b := w.heap.size) (by omega) o
  have hf2 := fun o => grown_froz G1.out (b := w.heap.size + 1 + 1) (by omega) o
  go_wp2
  exact bodyPost_ret (v := .agg #[.int .u8 r.a, .int .u8 (byteOf z n h c), .int .u8 r.b, .int .u8 r.c, .int .u8 r.d, .int .u8 r.e, .int .u8 r.h, .int .u8 r.l, .int .u16 r.s, .int .u16 r.p]) (by simp [results, Tryd.results21, go_sem, *]) rfl ⟨rfl, (Grown.setCell (Grown.setCell (Grown.setCell (Grown.setCell (Grown.setCell (Grown.setCell (Grown.setCell (Grown.setCell (Grown.setCell (Grown.setCell (Grown.setCell G1.out (by simp <;> omega) _) (by simp <;> omega) _) (by simp <;> omega) _) (by simp <;> omega) _) (by simp <;> omega) _) (by simp <;> omega) _) (by simp <;> omega) _) (by simp <;> omega) _) (by simp <;> omega) _) (by simp <;> omega) _) (by simp <;> omega) _)⟩
set_option maxHeartbeats 8000000 in
theorem rholds_any (r : Rg) (n : Int) (w : World) (ok : r.ok) :
    Calls Tryd.prog 23 #[.agg #[.int .u8 r.a, .int .u8 r.f, .int .u8 r.b, .int .u8 r.c, .int .u8 r.d, .int .u8 r.e, .int .u8 r.h, .int .u8 r.l, .int .u16 r.s, .int .u16 r.p], .int .i64 n] w fun e w' => e = .returned (.bool (holdsOf n r)) ∧ Grown w w' := by
  by_cases h0 : n = 0
  · subst h0
    rw [show holdsOf 0 r = (!(flagAt r.f 128)) from rfl]
    go_enter Tryd.func23, Tryd.ntmps23
    go_wp2_with fail
    refine (rflags_any r _ ok).mono ?_
    rintro e u1 ⟨rfl, g1⟩
    have G1 := hid (grown_trans (alloc1 _ _ _) g1)
    go_wp2
    go_ret
    exact ⟨rfl, G1.out.alloc _ _⟩
  · skip
    by_cases h1 : n = 1
    · subst h1
      rw [show holdsOf 1 r = (flagAt r.f 128) from rfl]
      go_enter Tryd.func23, Tryd.ntmps23
      go_wp2_with fail
      refine (rflags_any r _ ok).mono ?_
      rintro e u1 ⟨rfl, g1⟩
      have G1 := hid (grown_trans (alloc1 _ _ _) g1)
      go_wp2
      go_ret
      exact ⟨rfl, G1.out.alloc _ _⟩
    · skip
      by_cases h2 : n = 2
      · subst h2
        rw [show holdsOf 2 r = (!(flagAt r.f 16)) from rfl]
        go_enter Tryd.func23, Tryd.ntmps23
        go_wp2_with fail
        refine (rflags_any r _ ok).mono ?_
        rintro e u1 ⟨rfl, g1⟩
        have G1 := hid (grown_trans (alloc1 _ _ _) g1)
        go_wp2
        go_ret
        exact ⟨rfl, G1.out.alloc _ _⟩
      · skip
        by_cases h3 : n = 3
        · subst h3
          rw [show holdsOf 3 r = (flagAt r.f 16) from rfl]
          go_enter Tryd.func23, Tryd.ntmps23
          go_wp2_with fail
          refine (rflags_any r _ ok).mono ?_
          rintro e u1 ⟨rfl, g1⟩
          have G1 := hid (grown_trans (alloc1 _ _ _) g1)
          go_wp2
          go_ret
          exact ⟨rfl, G1.out.alloc _ _⟩
        · skip
          by_cases h4 : n = 4
          · subst h4
            rw [show holdsOf 4 r = (true) from rfl]
            go_enter Tryd.func23, Tryd.ntmps23
            go_wp2_with fail
            refine (rflags_any r _ ok).mono ?_
            rintro e u1 ⟨rfl, g1⟩
            have G1 := hid (grown_trans (alloc1 _ _ _) g1)
            go_wp2
            go_ret
            exact ⟨rfl, G1.out.alloc _ _⟩
          · skip
            rw [show holdsOf n r = false by simp [holdsOf, *]]
            go_enter Tryd.func23, Tryd.ntmps23
            go_wp2_with fail
            refine (rflags_any r _ ok).mono ?_
            rintro e u1 ⟨rfl, g1⟩
            have G1 := hid (grown_trans (alloc1 _ _ _) g1)
            go_wp2
            go_ret
            exact ⟨rfl, G1.out.alloc _ _⟩
theorem rboot_any (w : World) :
    Calls Tryd.prog 27 #[] w fun e w' => e = .returned (.agg #[.int .u8 1, .int .u8 176, .int .u8 0, .int .u8 19, .int .u8 0, .int .u8 216, .int .u8 1, .int .u8 77, .int .u16 65534, .int .u16 256]) ∧ Grown w w' := by
  go_enter Tryd.func27, Tryd.ntmps27
  go_wp2
  exact bodyPost_ret (v := .agg #[.int .u8 1, .int .u8 176, .int .u8 0, .int .u8 19, .int .u8 0, .int .u8 216, .int .u8 1, .int .u8 77, .int .u16 65534, .int .u16 256]) (by simp [results, Tryd.results27, go_sem]) rfl ⟨rfl, alloc1 _ _ _⟩
end Go.Proofs.YtaphcbhmkejbeaaDoor
