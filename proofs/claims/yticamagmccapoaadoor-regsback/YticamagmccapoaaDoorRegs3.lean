/- Pair, Flags, WithFlags, Holds, Boot of layer 4. -/
import Derived.Test.YticamagmccapoaaDoorRows
import Derived.Test.YticamagmccapoaaDoorBits
import Derived.Test.YticamagmccapoaaDoorGrow
import Derived.Test.YticamagmccapoaaDoorGrow2
import Derived.Test.YticamagmccapoaaDoorRg
import Derived.Deep.QuietTactic
import Derived.BigQuiet
import Derived.Deep.RegionHeld3
import Derived.Deep.DeepCutAuto
import Derived.Test.YticamagmccapoaaDoorRegs1
import Derived.Test.YticamagmccapoaaDoorWord2
import Derived.Test.YticamagmccapoaaDoorAlu
namespace Go.Proofs.YticamagmccapoaaDoor
open Go.RowKit
set_option linter.unusedVariables false
set_option linter.unusedSimpArgs false

theorem halves_any (n : Int) (w : World) :
    Calls Tryd.prog 29 #[.int .i64 n] w fun e w' => e = .returned (.tuple #[.int .i64 (hiOf n), .int .i64 (loOf n), .bool (okOf n)]) ∧ w' = w := by
  by_cases h0 : n = 0
  · subst h0
    rw [show hiOf 0 = 0 from rfl, show loOf 0 = 1 from rfl, show okOf 0 = true from rfl]
    go_enter Tryd.func29, Tryd.ntmps29
    go_wp2
    exact bodyPost_ret (v := .tuple #[.int .i64 0, .int .i64 1, .bool true]) (by simp [results, Tryd.results29, go_sem]) rfl ⟨rfl, rfl⟩
  · skip
    by_cases h1 : n = 1
    · subst h1
      rw [show hiOf 1 = 2 from rfl, show loOf 1 = 3 from rfl, show okOf 1 = true from rfl]
      go_enter Tryd.func29, Tryd.ntmps29
      go_wp2
      exact bodyPost_ret (v := .tuple #[.int .i64 2, .int .i64 3, .bool true]) (by simp [results, Tryd.results29, go_sem]) rfl ⟨rfl, rfl⟩
    · skip
      by_cases h2 : n = 2
      · subst h2
        rw [show hiOf 2 = 4 from rfl, show loOf 2 = 5 from rfl, show okOf 2 = true from rfl]
        go_enter Tryd.func29, Tryd.ntmps29
        go_wp2
        exact bodyPost_ret (v := .tuple #[.int .i64 4, .int .i64 5, .bool true]) (by simp [results, Tryd.results29, go_sem]) rfl ⟨rfl, rfl⟩
      · skip
        by_cases h4 : n = 4
        · subst h4
          rw [show hiOf 4 = 7 from rfl, show loOf 4 = 6 from rfl, show okOf 4 = true from rfl]
          go_enter Tryd.func29, Tryd.ntmps29
          go_wp2
          exact bodyPost_ret (v := .tuple #[.int .i64 7, .int .i64 6, .bool true]) (by simp [results, Tryd.results29, go_sem]) rfl ⟨rfl, rfl⟩
        · skip
          rw [show hiOf n = 0 by simp [hiOf, *], show loOf n = 0 by simp [loOf, *], show okOf n = false by simp [okOf, *]]
          go_enter Tryd.func29, Tryd.ntmps29
          go_wp2
          exact bodyPost_ret (v := .tuple #[.int .i64 0, .int .i64 0, .bool false]) (by simp [results, Tryd.results29, go_sem]) rfl ⟨rfl, rfl⟩
set_option maxHeartbeats 8000000 in
theorem pair_any (r : Rg) (n : Int) (w : World) (ok : r.ok) :
    Calls Tryd.prog 14 #[.agg #[.int .u8 r.a, .int .u8 r.f, .int .u8 r.b, .int .u8 r.c, .int .u8 r.d, .int .u8 r.e, .int .u8 r.h, .int .u8 r.l, .int .u16 r.s, .int .u16 r.p], .int .i64 n] w fun e w' => e = .returned (.tuple #[.int .u16 (pairOf n r), .int .i64 (pairErr n)]) ∧ Grown w w' := by
  obtain ⟨⟨ha0, ha1⟩, ⟨hf0, hf1⟩, ⟨hb0, hb1⟩, ⟨hc0, hc1⟩, ⟨hd0, hd1⟩, ⟨he0, he1⟩, ⟨hh0, hh1⟩, ⟨hl0, hl1⟩, ⟨hs0, hs1⟩, ⟨hp0, hp1⟩⟩ := ok
  by_cases h0 : n = 0
  · subst h0
    rw [show pairOf 0 r = r.b * 256 + r.c from rfl, show pairErr 0 = 0 from rfl]
    go_enter Tryd.func14, Tryd.ntmps14
    go_wp2_with fail
    refine (halves_any _ _).mono ?_
    rintro e v0 ⟨rfl, rfl⟩
    rw [show hiOf 0 = 0 from rfl, show loOf 0 = 1 from rfl, show okOf 0 = true from rfl]
    go_wp2_with fail
    refine (row_any r _).mono ?_
    rintro e u1 ⟨rfl, g1⟩
    have G1 := hid (grown_trans (alloc1 _ _ _) g1)
    go_wp2
    go_quiet ((go_at_call 30; exact Calls.quiet_of_same (join_any _ _ _ hb0 hb1 hc0 hc1)))
    go_wp2
    go_ret2
    exact ⟨rfl, drewN1 (G1.out.alloc _ _)⟩
  · skip
    by_cases h1 : n = 1
    · subst h1
      rw [show pairOf 1 r = r.d * 256 + r.e from rfl, show pairErr 1 = 0 from rfl]
      go_enter Tryd.func14, Tryd.ntmps14
      go_wp2_with fail
      refine (halves_any _ _).mono ?_
      rintro e v0 ⟨rfl, rfl⟩
      rw [show hiOf 1 = 2 from rfl, show loOf 1 = 3 from rfl, show okOf 1 = true from rfl]
      go_wp2_with fail
      refine (row_any r _).mono ?_
      rintro e u1 ⟨rfl, g1⟩
      have G1 := hid (grown_trans (alloc1 _ _ _) g1)
      go_wp2
      go_quiet ((go_at_call 30; exact Calls.quiet_of_same (join_any _ _ _ hd0 hd1 he0 he1)))
      go_wp2
      go_ret2
      exact ⟨rfl, drewN1 (G1.out.alloc _ _)⟩
    · skip
      by_cases h2 : n = 2
      · subst h2
        rw [show pairOf 2 r = r.h * 256 + r.l from rfl, show pairErr 2 = 0 from rfl]
        go_enter Tryd.func14, Tryd.ntmps14
        go_wp2_with fail
        refine (halves_any _ _).mono ?_
        rintro e v0 ⟨rfl, rfl⟩
        rw [show hiOf 2 = 4 from rfl, show loOf 2 = 5 from rfl, show okOf 2 = true from rfl]
        go_wp2_with fail
        refine (row_any r _).mono ?_
        rintro e u1 ⟨rfl, g1⟩
        have G1 := hid (grown_trans (alloc1 _ _ _) g1)
        go_wp2
        go_quiet ((go_at_call 30; exact Calls.quiet_of_same (join_any _ _ _ hh0 hh1 hl0 hl1)))
        go_wp2
        go_ret2
        exact ⟨rfl, drewN1 (G1.out.alloc _ _)⟩
      · skip
        by_cases h3 : n = 3
        · subst h3
          rw [show pairOf 3 r = r.s from rfl, show pairErr 3 = 0 from rfl]
          go_enter Tryd.func14, Tryd.ntmps14
          go_wp2
          go_ret2
          exact ⟨rfl, alloc1 _ _ _⟩
        · skip
          by_cases h4 : n = 4
          · subst h4
            rw [show pairOf 4 r = r.a * 256 + r.f from rfl, show pairErr 4 = 0 from rfl]
            go_enter Tryd.func14, Tryd.ntmps14
            go_wp2_with fail
            refine (halves_any _ _).mono ?_
            rintro e v0 ⟨rfl, rfl⟩
            rw [show hiOf 4 = 7 from rfl, show loOf 4 = 6 from rfl, show okOf 4 = true from rfl]
            go_wp2_with fail
            refine (row_any r _).mono ?_
            rintro e u1 ⟨rfl, g1⟩
            have G1 := hid (grown_trans (alloc1 _ _ _) g1)
            go_wp2
            go_quiet ((go_at_call 30; exact Calls.quiet_of_same (join_any _ _ _ ha0 ha1 hf0 hf1)))
            go_wp2
            go_ret2
            exact ⟨rfl, drewN1 (G1.out.alloc _ _)⟩
          · skip
            have e1 : pairErr n = 1 := by unfold pairErr; rw [if_pos (by omega)]
            have e2 : pairOf n r = 0 := by unfold pairOf; simp [*]
            rw [e2, e1]
            go_enter Tryd.func14, Tryd.ntmps14
            go_wp2_with fail
            refine (halves_any _ _).mono ?_
            rintro e v0 ⟨rfl, rfl⟩
            rw [show hiOf n = 0 by simp [hiOf, *], show loOf n = 0 by simp [loOf, *], show okOf n = false by simp [okOf, *]]
            go_wp2
            go_ret2
            exact ⟨rfl, alloc1 _ _ _⟩
def holdsOf (n : Int) (r : Rg) : Bool := if n = 0 then !(flagAt r.f 128) else if n = 1 then flagAt r.f 128 else if n = 2 then !(flagAt r.f 16) else if n = 3 then flagAt r.f 16 else if n = 4 then true else false
set_option maxHeartbeats 8000000 in
theorem flags_any (r : Rg) (w : World) (ok : r.ok) :
    Calls Tryd.prog 11 #[.agg #[.int .u8 r.a, .int .u8 r.f, .int .u8 r.b, .int .u8 r.c, .int .u8 r.d, .int .u8 r.e, .int .u8 r.h, .int .u8 r.l, .int .u16 r.s, .int .u16 r.p]] w fun e w' => e = .returned (.agg #[.bool (flagAt r.f 128), .bool (flagAt r.f 64), .bool (flagAt r.f 32), .bool (flagAt r.f 16)]) ∧ Grown w w' := by
  obtain ⟨⟨ha0, ha1⟩, ⟨hf0, hf1⟩, ⟨hb0, hb1⟩, ⟨hc0, hc1⟩, ⟨hd0, hd1⟩, ⟨he0, he1⟩, ⟨hh0, hh1⟩, ⟨hl0, hl1⟩, ⟨hs0, hs1⟩, ⟨hp0, hp1⟩⟩ := ok
  go_enter Tryd.func11, Tryd.ntmps11
  go_wp2_with fail
  refine (of_any _ _ hf0 hf1).mono ?_
  rintro e u1 ⟨rfl, g1⟩
  have B1n0x1 := has_grown g1 (has_past (has_alloc _ _ _) _)
  have B1n1x1 := has_grown g1 (has_alloc _ _ _)
  simp only [World.size_alloc] at B1n1x1
  obtain ⟨zB1n0x1, cB1n0x1⟩ := id B1n0x1
  obtain ⟨zB1n1x1, cB1n1x1⟩ := id B1n1x1
  have G1 := hid (grown_trans (((Grown.refl w).alloc _ _).alloc _ _) g1)
  have hf := fun o => grown_froz G1.out (b := w.heap.size + 1) (by omega) o
  go_wp2
  exact bodyPost_ret (v := .agg #[.bool (flagAt r.f 128), .bool (flagAt r.f 64), .bool (flagAt r.f 32), .bool (flagAt r.f 16)]) (by simp [results, Tryd.results11, go_sem, *]) rfl ⟨rfl, (Grown.setCell (Grown.setCell (Grown.setCell (Grown.setCell G1.out (by simp <;> omega) _) (by simp <;> omega) _) (by simp <;> omega) _) (by simp <;> omega) _)⟩
set_option maxHeartbeats 8000000 in
theorem withFlags_any (r : Rg) (z n h c : Bool) (w : World) :
    Calls Tryd.prog 10 #[.agg #[.int .u8 r.a, .int .u8 r.f, .int .u8 r.b, .int .u8 r.c, .int .u8 r.d, .int .u8 r.e, .int .u8 r.h, .int .u8 r.l, .int .u16 r.s, .int .u16 r.p], .agg #[.bool z, .bool n, .bool h, .bool c]] w fun e w' => e = .returned (.agg #[.int .u8 r.a, .int .u8 (byteOf z n h c), .int .u8 r.b, .int .u8 r.c, .int .u8 r.d, .int .u8 r.e, .int .u8 r.h, .int .u8 r.l, .int .u16 r.s, .int .u16 r.p]) ∧ Grown w w' := by
  go_enter Tryd.func10, Tryd.ntmps10
  go_wp2_with fail
  refine (byte_any z n h c _).mono ?_
  rintro e u1 ⟨rfl, g1⟩
  have B1n0x1 := has_grown g1 (has_past (has_past (has_alloc _ _ _) _) _)
  have B1n1x1 := has_grown g1 (has_past (has_alloc _ _ _) _)
  simp only [World.size_alloc] at B1n1x1
  have B1n2x1 := has_grown g1 (has_alloc _ _ _)
  simp only [World.size_alloc] at B1n2x1
  obtain ⟨zB1n0x1, cB1n0x1⟩ := id B1n0x1
  obtain ⟨zB1n1x1, cB1n1x1⟩ := id B1n1x1
  obtain ⟨zB1n2x1, cB1n2x1⟩ := id B1n2x1
  have G1 := hid (grown_trans ((((Grown.refl w).alloc _ _).alloc _ _).alloc _ _) g1)
  have hf := fun o => grown_froz G1.out (b := w.heap.size) (by omega) o
  have hf2 := fun o => grown_froz G1.out (b := w.heap.size + 1 + 1) (by omega) o
  go_wp2
  exact bodyPost_ret (v := .agg #[.int .u8 r.a, .int .u8 (byteOf z n h c), .int .u8 r.b, .int .u8 r.c, .int .u8 r.d, .int .u8 r.e, .int .u8 r.h, .int .u8 r.l, .int .u16 r.s, .int .u16 r.p]) (by simp [results, Tryd.results10, go_sem, *]) rfl ⟨rfl, (Grown.setCell (Grown.setCell (Grown.setCell (Grown.setCell (Grown.setCell (Grown.setCell (Grown.setCell (Grown.setCell (Grown.setCell (Grown.setCell (Grown.setCell G1.out (by simp <;> omega) _) (by simp <;> omega) _) (by simp <;> omega) _) (by simp <;> omega) _) (by simp <;> omega) _) (by simp <;> omega) _) (by simp <;> omega) _) (by simp <;> omega) _) (by simp <;> omega) _) (by simp <;> omega) _) (by simp <;> omega) _)⟩
set_option maxHeartbeats 8000000 in
theorem holds_any (r : Rg) (n : Int) (w : World) (ok : r.ok) :
    Calls Tryd.prog 16 #[.agg #[.int .u8 r.a, .int .u8 r.f, .int .u8 r.b, .int .u8 r.c, .int .u8 r.d, .int .u8 r.e, .int .u8 r.h, .int .u8 r.l, .int .u16 r.s, .int .u16 r.p], .int .i64 n] w fun e w' => e = .returned (.bool (holdsOf n r)) ∧ Grown w w' := by
  by_cases h0 : n = 0
  · subst h0
    rw [show holdsOf 0 r = (!(flagAt r.f 128)) from rfl]
    go_enter Tryd.func16, Tryd.ntmps16
    go_wp2_with fail
    refine (flags_any r _ ok).mono ?_
    rintro e u1 ⟨rfl, g1⟩
    have G1 := hid (grown_trans (alloc1 _ _ _) g1)
    go_wp2
    go_ret
    exact ⟨rfl, G1.out.alloc _ _⟩
  · skip
    by_cases h1 : n = 1
    · subst h1
      rw [show holdsOf 1 r = (flagAt r.f 128) from rfl]
      go_enter Tryd.func16, Tryd.ntmps16
      go_wp2_with fail
      refine (flags_any r _ ok).mono ?_
      rintro e u1 ⟨rfl, g1⟩
      have G1 := hid (grown_trans (alloc1 _ _ _) g1)
      go_wp2
      go_ret
      exact ⟨rfl, G1.out.alloc _ _⟩
    · skip
      by_cases h2 : n = 2
      · subst h2
        rw [show holdsOf 2 r = (!(flagAt r.f 16)) from rfl]
        go_enter Tryd.func16, Tryd.ntmps16
        go_wp2_with fail
        refine (flags_any r _ ok).mono ?_
        rintro e u1 ⟨rfl, g1⟩
        have G1 := hid (grown_trans (alloc1 _ _ _) g1)
        go_wp2
        go_ret
        exact ⟨rfl, G1.out.alloc _ _⟩
      · skip
        by_cases h3 : n = 3
        · subst h3
          rw [show holdsOf 3 r = (flagAt r.f 16) from rfl]
          go_enter Tryd.func16, Tryd.ntmps16
          go_wp2_with fail
          refine (flags_any r _ ok).mono ?_
          rintro e u1 ⟨rfl, g1⟩
          have G1 := hid (grown_trans (alloc1 _ _ _) g1)
          go_wp2
          go_ret
          exact ⟨rfl, G1.out.alloc _ _⟩
        · skip
          by_cases h4 : n = 4
          · subst h4
            rw [show holdsOf 4 r = (true) from rfl]
            go_enter Tryd.func16, Tryd.ntmps16
            go_wp2_with fail
            refine (flags_any r _ ok).mono ?_
            rintro e u1 ⟨rfl, g1⟩
            have G1 := hid (grown_trans (alloc1 _ _ _) g1)
            go_wp2
            go_ret
            exact ⟨rfl, G1.out.alloc _ _⟩
          · skip
            rw [show holdsOf n r = false by simp [holdsOf, *]]
            go_enter Tryd.func16, Tryd.ntmps16
            go_wp2_with fail
            refine (flags_any r _ ok).mono ?_
            rintro e u1 ⟨rfl, g1⟩
            have G1 := hid (grown_trans (alloc1 _ _ _) g1)
            go_wp2
            go_ret
            exact ⟨ret_bool (by simp [*]), G1.out.alloc _ _⟩
theorem boot_any (w : World) :
    Calls Tryd.prog 13 #[] w fun e w' => e = .returned (.agg #[.int .u8 1, .int .u8 176, .int .u8 0, .int .u8 19, .int .u8 0, .int .u8 216, .int .u8 1, .int .u8 77, .int .u16 65534, .int .u16 256]) ∧ Grown w w' := by
  go_enter Tryd.func13, Tryd.ntmps13
  go_wp2
  exact bodyPost_ret (v := .agg #[.int .u8 1, .int .u8 176, .int .u8 0, .int .u8 19, .int .u8 0, .int .u8 216, .int .u8 1, .int .u8 77, .int .u16 65534, .int .u16 256]) (by simp [results, Tryd.results13, go_sem]) rfl ⟨rfl, alloc1 _ _ _⟩
end Go.Proofs.YticamagmccapoaaDoor
