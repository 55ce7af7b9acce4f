/- What the document's answers of layer 12 come to. -/
import Derived.Test.YtblagmninenapaaSr12
import Derived.Test.YtblagmninenapaaK8
import Derived.Test.YtblagmninenapaaBk
import Derived.Test.YtblagmninenapaaChecked
import Derived.Handy
import Derived.Deep.RegionHeld3
namespace Go.Proofs.Ytblagmninenapaa
open Go.RowKit
set_option linter.unusedVariables false
set_option linter.unusedSimpArgs false

abbrev srV (s : Sr) : Value := .agg #[.int .u8 s.data, .int .u8 s.ctl, .int .u8 s.left, .int .u8 s.ph]
set_option maxRecDepth 100000 in
set_option maxHeartbeats 4000000 in
theorem rst12_a (s : Sr) (b edge : Bool) (w : World) (I : SrIn s) (h : goesS s = false) (q : s.ctl < 128) : Calls Try.prog 11 #[srV s, .bool b, .bool edge] w fun e w' => e = .returned (.tuple #[srV (stepS s b edge), .bool (outS s), .bool (askS s edge)]) ∧ Kept w w' := by
  obtain ⟨e1, e2⟩ := idle_step s b edge h
  rw [e1, e2]
  clear e1 e2
  unfold outS
  obtain ⟨sd, sc, sl, sp⟩ := s
  have d0 := I.d0
  have d1 := I.d1
  have c0 := I.c0
  have c1 := I.c1
  have l0 := I.l0
  have l1 := I.l1
  have p0 := I.p0
  have p1 := I.p1
  simp only at d0 d1 c0 c1 l0 l1 p0 p1
  simp only at *
  clear h
  have g : decide (sc < 128) = true := decide_eq_true q
  clear I
  go_enter Try.func11, Try.ntmps11
  go_wp2
  exact bodyPost_ret (v := .tuple #[srV ⟨sd, sc, sl, sp⟩, .bool (decide (128 ≤ sd)), .bool false]) (by simp [results, Try.results11, go_sem]) rfl ⟨rfl, by repeat (first | with_reducible exact Kept.refl _ | with_reducible refine Kept.alloc ?_ _ | with_reducible refine Kept.drew ?_ | (with_reducible refine Kept.setCell8 ?_ ?_ _ _; rotate_left; (first | exact Nat.le_refl _ | omega | (simp; done) | (simp; omega))))⟩
set_option maxRecDepth 100000 in
set_option maxHeartbeats 4000000 in
theorem rst12_b (s : Sr) (b edge : Bool) (w : World) (I : SrIn s) (h : goesS s = false) (q : ¬ s.ctl < 128) (z : s.left = 0) : Calls Try.prog 11 #[srV s, .bool b, .bool edge] w fun e w' => e = .returned (.tuple #[srV (stepS s b edge), .bool (outS s), .bool (askS s edge)]) ∧ Kept w w' := by
  obtain ⟨e1, e2⟩ := idle_step s b edge h
  rw [e1, e2]
  clear e1 e2
  unfold outS
  obtain ⟨sd, sc, sl, sp⟩ := s
  have d0 := I.d0
  have d1 := I.d1
  have c0 := I.c0
  have c1 := I.c1
  have l0 := I.l0
  have l1 := I.l1
  have p0 := I.p0
  have p1 := I.p1
  simp only at d0 d1 c0 c1 l0 l1 p0 p1
  simp only at *
  clear h
  have g : decide (sc < 128) = false := decide_eq_false q
  subst z
  clear I
  go_enter Try.func11, Try.ntmps11
  go_wp2
  exact bodyPost_ret (v := .tuple #[srV ⟨sd, sc, 0, sp⟩, .bool (decide (128 ≤ sd)), .bool false]) (by simp [results, Try.results11, go_sem]) rfl ⟨rfl, by repeat (first | with_reducible exact Kept.refl _ | with_reducible refine Kept.alloc ?_ _ | with_reducible refine Kept.drew ?_ | (with_reducible refine Kept.setCell8 ?_ ?_ _ _; rotate_left; (first | exact Nat.le_refl _ | omega | (simp; done) | (simp; omega))))⟩
set_option maxRecDepth 100000 in
set_option maxHeartbeats 4000000 in
theorem rst12_c (s : Sr) (b edge : Bool) (w : World) (I : SrIn s) (h : goesS s = true) (ho : s.ctl % 2 = 1) (hp : s.ph < 127) : Calls Try.prog 11 #[srV s, .bool b, .bool edge] w fun e w' => e = .returned (.tuple #[srV (stepS s b edge), .bool (outS s), .bool (askS s edge)]) ∧ Kept w w' := by
  obtain ⟨g1, g2⟩ := (goes_iff s).1 h
  have E : stepS s b edge = ⟨s.data, s.ctl, s.left, s.ph + 1⟩ := by
    unfold stepS
    rw [if_pos h, if_pos ho]; unfold ownS; rw [if_pos hp]
  have A : askS s edge = false := by
    unfold askS
    rw [h, if_pos ho, decide_eq_false (show ¬ 127 ≤ s.ph by omega), Bool.true_and, Bool.false_and]
  rw [E, A]
  clear E A h
  unfold outS
  obtain ⟨sd, sc, sl, sp⟩ := s
  have d0 := I.d0
  have d1 := I.d1
  have c0 := I.c0
  have c1 := I.c1
  have l0 := I.l0
  have l1 := I.l1
  have p0 := I.p0
  have p1 := I.p1
  simp only at d0 d1 c0 c1 l0 l1 p0 p1
  simp only at *
  have k1 : decide (sc < 128) = false := decide_eq_false (by omega)
  have k2 : (sl == 0) = false := by simpa using g2
  have m1 : Int.tmod sc 2 = 1 := by rw [Int.tmod_eq_emod_of_nonneg c0]; exact ho
  have m2 : decide (128 ≤ sp + 1) = false := decide_eq_false (by omega)
  have m3 : IntKind.u8.wrap (sp + 1) = sp + 1 := by rw [IntKind.wrap_u8]; omega
  clear I
  go_enter Try.func11, Try.ntmps11
  go_wp2
  exact bodyPost_ret (v := .tuple #[srV ⟨sd, sc, sl, (sp + 1)⟩, .bool (decide (128 ≤ sd)), .bool false]) (by simp [results, Try.results11, go_sem]) rfl ⟨rfl, by repeat (first | with_reducible exact Kept.refl _ | with_reducible refine Kept.alloc ?_ _ | with_reducible refine Kept.drew ?_ | (with_reducible refine Kept.setCell8 ?_ ?_ _ _; rotate_left; (first | exact Nat.le_refl _ | omega | (simp; done) | (simp; omega))))⟩
set_option maxRecDepth 100000 in
set_option maxHeartbeats 4000000 in
theorem rst12_w (s : Sr) (b edge : Bool) (w : World) (I : SrIn s) (h : goesS s = true) (ho : ¬ s.ctl % 2 = 1) (he : edge = false) : Calls Try.prog 11 #[srV s, .bool b, .bool edge] w fun e w' => e = .returned (.tuple #[srV (stepS s b edge), .bool (outS s), .bool (askS s edge)]) ∧ Kept w w' := by
  obtain ⟨g1, g2⟩ := (goes_iff s).1 h
  have E : stepS s b edge = s := by
    unfold stepS
    rw [if_pos h, if_neg ho, if_neg (by rw [he]; decide)]
  have A : askS s edge = false := by
    unfold askS
    rw [h, if_neg ho, he, Bool.true_and, Bool.false_and]
  rw [E, A]
  clear E A h
  unfold outS
  obtain ⟨sd, sc, sl, sp⟩ := s
  have d0 := I.d0
  have d1 := I.d1
  have c0 := I.c0
  have c1 := I.c1
  have l0 := I.l0
  have l1 := I.l1
  have p0 := I.p0
  have p1 := I.p1
  simp only at d0 d1 c0 c1 l0 l1 p0 p1
  simp only at *
  have k1 : decide (sc < 128) = false := decide_eq_false (by omega)
  have k2 : (sl == 0) = false := by simpa using g2
  have m0 : Int.tmod sc 2 = 0 := by rw [Int.tmod_eq_emod_of_nonneg c0]; omega
  subst he
  clear I
  go_enter Try.func11, Try.ntmps11
  go_wp2
  exact bodyPost_ret (v := .tuple #[srV ⟨sd, sc, sl, sp⟩, .bool (decide (128 ≤ sd)), .bool false]) (by simp [results, Try.results11, go_sem]) rfl ⟨rfl, by repeat (first | with_reducible exact Kept.refl _ | with_reducible refine Kept.alloc ?_ _ | with_reducible refine Kept.drew ?_ | (with_reducible refine Kept.setCell8 ?_ ?_ _ _; rotate_left; (first | exact Nat.le_refl _ | omega | (simp; done) | (simp; omega))))⟩
set_option maxRecDepth 100000 in
set_option maxHeartbeats 4000000 in
theorem rst12_o1z (s : Sr) (b edge : Bool) (w : World) (I : SrIn s) (h : goesS s = true) (ho : s.ctl % 2 = 1) (hp : ¬ s.ph < 127) (hb : b = true) (hl : s.left = 1) : Calls Try.prog 11 #[srV s, .bool b, .bool edge] w fun e w' => e = .returned (.tuple #[srV (stepS s b edge), .bool (outS s), .bool (askS s edge)]) ∧ Kept w w' := by
  obtain ⟨g1, g2⟩ := (goes_iff s).1 h
  have E : stepS s b edge = ⟨(s.data * 2 % 256 + 1), s.ctl - 128, s.left - 1, 0⟩ := by
    unfold stepS
    rw [if_pos h, if_pos ho]; unfold ownS; rw [if_neg hp]
    unfold shiftS; rw [if_pos (show s.left = 1 from hl), hb]; simp only [oneS, if_true]
  have A : askS s edge = true := by
    unfold askS
    rw [h, if_pos ho, decide_eq_true (show 127 ≤ s.ph by omega), Bool.true_and, Bool.true_and]
    rw [hl]; rfl
  rw [E, A]
  clear E A h
  unfold outS
  obtain ⟨sd, sc, sl, sp⟩ := s
  have d0 := I.d0
  have d1 := I.d1
  have c0 := I.c0
  have c1 := I.c1
  have l0 := I.l0
  have l1 := I.l1
  have p0 := I.p0
  have p1 := I.p1
  simp only at d0 d1 c0 c1 l0 l1 p0 p1
  simp only at *
  have k1 : decide (sc < 128) = false := decide_eq_false (by omega)
  have k2 : (sl == 0) = false := by simpa using g2
  have m1 : Int.tmod sc 2 = 1 := by rw [Int.tmod_eq_emod_of_nonneg c0]; exact ho
  have m2 : decide (128 ≤ sp + 1) = true := decide_eq_true (by omega)
  subst hb
  have t1 : Int.tmod (sd * 2) 256 = sd * 2 % 256 := Int.tmod_eq_emod_of_nonneg (by omega)
  have t2 : IntKind.u8.wrap (sd * 2 % 256 + 1) = (sd * 2 % 256 + 1) := by rw [IntKind.wrap_u8]; omega
  subst hl
  have t3 : IntKind.u8.wrap (sc - 128) = sc - 128 := by rw [IntKind.wrap_u8]; omega
  clear I
  go_enter Try.func11, Try.ntmps11
  go_wp2
  exact bodyPost_ret (v := .tuple #[srV ⟨(sd * 2 % 256 + 1), (sc - 128), 0, 0⟩, .bool (decide (128 ≤ sd)), .bool true]) (by simp [results, Try.results11, go_sem]) rfl ⟨rfl, by repeat (first | with_reducible exact Kept.refl _ | with_reducible refine Kept.alloc ?_ _ | with_reducible refine Kept.drew ?_ | (with_reducible refine Kept.setCell8 ?_ ?_ _ _; rotate_left; (first | exact Nat.le_refl _ | omega | (simp; done) | (simp; omega))))⟩
set_option maxRecDepth 100000 in
set_option maxHeartbeats 4000000 in
theorem rst12_o1n (s : Sr) (b edge : Bool) (w : World) (I : SrIn s) (h : goesS s = true) (ho : s.ctl % 2 = 1) (hp : ¬ s.ph < 127) (hb : b = true) (hl : s.left ≠ 1) : Calls Try.prog 11 #[srV s, .bool b, .bool edge] w fun e w' => e = .returned (.tuple #[srV (stepS s b edge), .bool (outS s), .bool (askS s edge)]) ∧ Kept w w' := by
  obtain ⟨g1, g2⟩ := (goes_iff s).1 h
  have E : stepS s b edge = ⟨(s.data * 2 % 256 + 1), s.ctl, s.left - 1, 0⟩ := by
    unfold stepS
    rw [if_pos h, if_pos ho]; unfold ownS; rw [if_neg hp]
    unfold shiftS; rw [if_neg (show ¬ s.left = 1 from hl), hb]; simp only [oneS, if_true]
  have A : askS s edge = false := by
    unfold askS
    rw [h, if_pos ho, decide_eq_true (show 127 ≤ s.ph by omega), Bool.true_and, Bool.true_and]
    simpa using hl
  rw [E, A]
  clear E A h
  unfold outS
  obtain ⟨sd, sc, sl, sp⟩ := s
  have d0 := I.d0
  have d1 := I.d1
  have c0 := I.c0
  have c1 := I.c1
  have l0 := I.l0
  have l1 := I.l1
  have p0 := I.p0
  have p1 := I.p1
  simp only at d0 d1 c0 c1 l0 l1 p0 p1
  simp only at *
  have k1 : decide (sc < 128) = false := decide_eq_false (by omega)
  have k2 : (sl == 0) = false := by simpa using g2
  have m1 : Int.tmod sc 2 = 1 := by rw [Int.tmod_eq_emod_of_nonneg c0]; exact ho
  have m2 : decide (128 ≤ sp + 1) = true := decide_eq_true (by omega)
  subst hb
  have t1 : Int.tmod (sd * 2) 256 = sd * 2 % 256 := Int.tmod_eq_emod_of_nonneg (by omega)
  have t2 : IntKind.u8.wrap (sd * 2 % 256 + 1) = (sd * 2 % 256 + 1) := by rw [IntKind.wrap_u8]; omega
  have t3 : IntKind.u8.wrap (sl - 1) = sl - 1 := by rw [IntKind.wrap_u8]; omega
  have t4 : decide (0 < sl - 1) = true := decide_eq_true (by omega)
  clear I
  go_enter Try.func11, Try.ntmps11
  go_wp2
  exact bodyPost_ret (v := .tuple #[srV ⟨(sd * 2 % 256 + 1), sc, (sl - 1), 0⟩, .bool (decide (128 ≤ sd)), .bool false]) (by simp [results, Try.results11, go_sem]) rfl ⟨rfl, by repeat (first | with_reducible exact Kept.refl _ | with_reducible refine Kept.alloc ?_ _ | with_reducible refine Kept.drew ?_ | (with_reducible refine Kept.setCell8 ?_ ?_ _ _; rotate_left; (first | exact Nat.le_refl _ | omega | (simp; done) | (simp; omega))))⟩
set_option maxRecDepth 100000 in
set_option maxHeartbeats 4000000 in
theorem rst12_o0z (s : Sr) (b edge : Bool) (w : World) (I : SrIn s) (h : goesS s = true) (ho : s.ctl % 2 = 1) (hp : ¬ s.ph < 127) (hb : b = false) (hl : s.left = 1) : Calls Try.prog 11 #[srV s, .bool b, .bool edge] w fun e w' => e = .returned (.tuple #[srV (stepS s b edge), .bool (outS s), .bool (askS s edge)]) ∧ Kept w w' := by
  obtain ⟨g1, g2⟩ := (goes_iff s).1 h
  have E : stepS s b edge = ⟨(s.data * 2 % 256), s.ctl - 128, s.left - 1, 0⟩ := by
    unfold stepS
    rw [if_pos h, if_pos ho]; unfold ownS; rw [if_neg hp]
    unfold shiftS; rw [if_pos (show s.left = 1 from hl), hb]; simp only [oneS, if_true, Bool.false_eq_true, if_false, Int.add_zero]
  have A : askS s edge = true := by
    unfold askS
    rw [h, if_pos ho, decide_eq_true (show 127 ≤ s.ph by omega), Bool.true_and, Bool.true_and]
    rw [hl]; rfl
  rw [E, A]
  clear E A h
  unfold outS
  obtain ⟨sd, sc, sl, sp⟩ := s
  have d0 := I.d0
  have d1 := I.d1
  have c0 := I.c0
  have c1 := I.c1
  have l0 := I.l0
  have l1 := I.l1
  have p0 := I.p0
  have p1 := I.p1
  simp only at d0 d1 c0 c1 l0 l1 p0 p1
  simp only at *
  have k1 : decide (sc < 128) = false := decide_eq_false (by omega)
  have k2 : (sl == 0) = false := by simpa using g2
  have m1 : Int.tmod sc 2 = 1 := by rw [Int.tmod_eq_emod_of_nonneg c0]; exact ho
  have m2 : decide (128 ≤ sp + 1) = true := decide_eq_true (by omega)
  subst hb
  have t1 : Int.tmod (sd * 2) 256 = sd * 2 % 256 := Int.tmod_eq_emod_of_nonneg (by omega)
  have t2 : IntKind.u8.wrap (sd * 2 % 256) = (sd * 2 % 256) := by rw [IntKind.wrap_u8]; omega
  subst hl
  have t3 : IntKind.u8.wrap (sc - 128) = sc - 128 := by rw [IntKind.wrap_u8]; omega
  clear I
  go_enter Try.func11, Try.ntmps11
  go_wp2
  exact bodyPost_ret (v := .tuple #[srV ⟨(sd * 2 % 256), (sc - 128), 0, 0⟩, .bool (decide (128 ≤ sd)), .bool true]) (by simp [results, Try.results11, go_sem]) rfl ⟨rfl, by repeat (first | with_reducible exact Kept.refl _ | with_reducible refine Kept.alloc ?_ _ | with_reducible refine Kept.drew ?_ | (with_reducible refine Kept.setCell8 ?_ ?_ _ _; rotate_left; (first | exact Nat.le_refl _ | omega | (simp; done) | (simp; omega))))⟩
set_option maxRecDepth 100000 in
set_option maxHeartbeats 4000000 in
theorem rst12_o0n (s : Sr) (b edge : Bool) (w : World) (I : SrIn s) (h : goesS s = true) (ho : s.ctl % 2 = 1) (hp : ¬ s.ph < 127) (hb : b = false) (hl : s.left ≠ 1) : Calls Try.prog 11 #[srV s, .bool b, .bool edge] w fun e w' => e = .returned (.tuple #[srV (stepS s b edge), .bool (outS s), .bool (askS s edge)]) ∧ Kept w w' := by
  obtain ⟨g1, g2⟩ := (goes_iff s).1 h
  have E : stepS s b edge = ⟨(s.data * 2 % 256), s.ctl, s.left - 1, 0⟩ := by
    unfold stepS
    rw [if_pos h, if_pos ho]; unfold ownS; rw [if_neg hp]
    unfold shiftS; rw [if_neg (show ¬ s.left = 1 from hl), hb]; simp only [oneS, if_true, Bool.false_eq_true, if_false, Int.add_zero]
  have A : askS s edge = false := by
    unfold askS
    rw [h, if_pos ho, decide_eq_true (show 127 ≤ s.ph by omega), Bool.true_and, Bool.true_and]
    simpa using hl
  rw [E, A]
  clear E A h
  unfold outS
  obtain ⟨sd, sc, sl, sp⟩ := s
  have d0 := I.d0
  have d1 := I.d1
  have c0 := I.c0
  have c1 := I.c1
  have l0 := I.l0
  have l1 := I.l1
  have p0 := I.p0
  have p1 := I.p1
  simp only at d0 d1 c0 c1 l0 l1 p0 p1
  simp only at *
  have k1 : decide (sc < 128) = false := decide_eq_false (by omega)
  have k2 : (sl == 0) = false := by simpa using g2
  have m1 : Int.tmod sc 2 = 1 := by rw [Int.tmod_eq_emod_of_nonneg c0]; exact ho
  have m2 : decide (128 ≤ sp + 1) = true := decide_eq_true (by omega)
  subst hb
  have t1 : Int.tmod (sd * 2) 256 = sd * 2 % 256 := Int.tmod_eq_emod_of_nonneg (by omega)
  have t2 : IntKind.u8.wrap (sd * 2 % 256) = (sd * 2 % 256) := by rw [IntKind.wrap_u8]; omega
  have t3 : IntKind.u8.wrap (sl - 1) = sl - 1 := by rw [IntKind.wrap_u8]; omega
  have t4 : decide (0 < sl - 1) = true := decide_eq_true (by omega)
  clear I
  go_enter Try.func11, Try.ntmps11
  go_wp2
  exact bodyPost_ret (v := .tuple #[srV ⟨(sd * 2 % 256), sc, (sl - 1), 0⟩, .bool (decide (128 ≤ sd)), .bool false]) (by simp [results, Try.results11, go_sem]) rfl ⟨rfl, by repeat (first | with_reducible exact Kept.refl _ | with_reducible refine Kept.alloc ?_ _ | with_reducible refine Kept.drew ?_ | (with_reducible refine Kept.setCell8 ?_ ?_ _ _; rotate_left; (first | exact Nat.le_refl _ | omega | (simp; done) | (simp; omega))))⟩
set_option maxRecDepth 100000 in
set_option maxHeartbeats 4000000 in
theorem rst12_f1z (s : Sr) (b edge : Bool) (w : World) (I : SrIn s) (h : goesS s = true) (ho : ¬ s.ctl % 2 = 1) (he : edge = true) (hb : b = true) (hl : s.left = 1) : Calls Try.prog 11 #[srV s, .bool b, .bool edge] w fun e w' => e = .returned (.tuple #[srV (stepS s b edge), .bool (outS s), .bool (askS s edge)]) ∧ Kept w w' := by
  obtain ⟨g1, g2⟩ := (goes_iff s).1 h
  have E : stepS s b edge = ⟨(s.data * 2 % 256 + 1), s.ctl - 128, s.left - 1, s.ph⟩ := by
    unfold stepS
    rw [if_pos h, if_neg ho, if_pos he]
    unfold shiftS; rw [if_pos hl, hb]; simp only [oneS, if_true]
  have A : askS s edge = true := by
    unfold askS
    rw [h, if_neg ho, he, Bool.true_and, Bool.true_and]
    rw [hl]; rfl
  rw [E, A]
  clear E A h
  unfold outS
  obtain ⟨sd, sc, sl, sp⟩ := s
  have d0 := I.d0
  have d1 := I.d1
  have c0 := I.c0
  have c1 := I.c1
  have l0 := I.l0
  have l1 := I.l1
  have p0 := I.p0
  have p1 := I.p1
  simp only at d0 d1 c0 c1 l0 l1 p0 p1
  simp only at *
  have k1 : decide (sc < 128) = false := decide_eq_false (by omega)
  have k2 : (sl == 0) = false := by simpa using g2
  have m0 : Int.tmod sc 2 = 0 := by rw [Int.tmod_eq_emod_of_nonneg c0]; omega
  subst he
  subst hb
  have t1 : Int.tmod (sd * 2) 256 = sd * 2 % 256 := Int.tmod_eq_emod_of_nonneg (by omega)
  have t2 : IntKind.u8.wrap (sd * 2 % 256 + 1) = (sd * 2 % 256 + 1) := by rw [IntKind.wrap_u8]; omega
  subst hl
  have t3 : IntKind.u8.wrap (sc - 128) = sc - 128 := by rw [IntKind.wrap_u8]; omega
  clear I
  go_enter Try.func11, Try.ntmps11
  go_wp2
  exact bodyPost_ret (v := .tuple #[srV ⟨(sd * 2 % 256 + 1), (sc - 128), 0, sp⟩, .bool (decide (128 ≤ sd)), .bool true]) (by simp [results, Try.results11, go_sem]) rfl ⟨rfl, by repeat (first | with_reducible exact Kept.refl _ | with_reducible refine Kept.alloc ?_ _ | with_reducible refine Kept.drew ?_ | (with_reducible refine Kept.setCell8 ?_ ?_ _ _; rotate_left; (first | exact Nat.le_refl _ | omega | (simp; done) | (simp; omega))))⟩
set_option maxRecDepth 100000 in
set_option maxHeartbeats 4000000 in
theorem rst12_f1n (s : Sr) (b edge : Bool) (w : World) (I : SrIn s) (h : goesS s = true) (ho : ¬ s.ctl % 2 = 1) (he : edge = true) (hb : b = true) (hl : s.left ≠ 1) : Calls Try.prog 11 #[srV s, .bool b, .bool edge] w fun e w' => e = .returned (.tuple #[srV (stepS s b edge), .bool (outS s), .bool (askS s edge)]) ∧ Kept w w' := by
  obtain ⟨g1, g2⟩ := (goes_iff s).1 h
  have E : stepS s b edge = ⟨(s.data * 2 % 256 + 1), s.ctl, s.left - 1, s.ph⟩ := by
    unfold stepS
    rw [if_pos h, if_neg ho, if_pos he]
    unfold shiftS; rw [if_neg hl, hb]; simp only [oneS, if_true]
  have A : askS s edge = false := by
    unfold askS
    rw [h, if_neg ho, he, Bool.true_and, Bool.true_and]
    simpa using hl
  rw [E, A]
  clear E A h
  unfold outS
  obtain ⟨sd, sc, sl, sp⟩ := s
  have d0 := I.d0
  have d1 := I.d1
  have c0 := I.c0
  have c1 := I.c1
  have l0 := I.l0
  have l1 := I.l1
  have p0 := I.p0
  have p1 := I.p1
  simp only at d0 d1 c0 c1 l0 l1 p0 p1
  simp only at *
  have k1 : decide (sc < 128) = false := decide_eq_false (by omega)
  have k2 : (sl == 0) = false := by simpa using g2
  have m0 : Int.tmod sc 2 = 0 := by rw [Int.tmod_eq_emod_of_nonneg c0]; omega
  subst he
  subst hb
  have t1 : Int.tmod (sd * 2) 256 = sd * 2 % 256 := Int.tmod_eq_emod_of_nonneg (by omega)
  have t2 : IntKind.u8.wrap (sd * 2 % 256 + 1) = (sd * 2 % 256 + 1) := by rw [IntKind.wrap_u8]; omega
  have t3 : IntKind.u8.wrap (sl - 1) = sl - 1 := by rw [IntKind.wrap_u8]; omega
  have t4 : decide (0 < sl - 1) = true := decide_eq_true (by omega)
  clear I
  go_enter Try.func11, Try.ntmps11
  go_wp2
  exact bodyPost_ret (v := .tuple #[srV ⟨(sd * 2 % 256 + 1), sc, (sl - 1), sp⟩, .bool (decide (128 ≤ sd)), .bool false]) (by simp [results, Try.results11, go_sem]) rfl ⟨rfl, by repeat (first | with_reducible exact Kept.refl _ | with_reducible refine Kept.alloc ?_ _ | with_reducible refine Kept.drew ?_ | (with_reducible refine Kept.setCell8 ?_ ?_ _ _; rotate_left; (first | exact Nat.le_refl _ | omega | (simp; done) | (simp; omega))))⟩
set_option maxRecDepth 100000 in
set_option maxHeartbeats 4000000 in
theorem rst12_f0z (s : Sr) (b edge : Bool) (w : World) (I : SrIn s) (h : goesS s = true) (ho : ¬ s.ctl % 2 = 1) (he : edge = true) (hb : b = false) (hl : s.left = 1) : Calls Try.prog 11 #[srV s, .bool b, .bool edge] w fun e w' => e = .returned (.tuple #[srV (stepS s b edge), .bool (outS s), .bool (askS s edge)]) ∧ Kept w w' := by
  obtain ⟨g1, g2⟩ := (goes_iff s).1 h
  have E : stepS s b edge = ⟨(s.data * 2 % 256), s.ctl - 128, s.left - 1, s.ph⟩ := by
    unfold stepS
    rw [if_pos h, if_neg ho, if_pos he]
    unfold shiftS; rw [if_pos hl, hb]; simp only [oneS, if_true, Bool.false_eq_true, if_false, Int.add_zero]
  have A : askS s edge = true := by
    unfold askS
    rw [h, if_neg ho, he, Bool.true_and, Bool.true_and]
    rw [hl]; rfl
  rw [E, A]
  clear E A h
  unfold outS
  obtain ⟨sd, sc, sl, sp⟩ := s
  have d0 := I.d0
  have d1 := I.d1
  have c0 := I.c0
  have c1 := I.c1
  have l0 := I.l0
  have l1 := I.l1
  have p0 := I.p0
  have p1 := I.p1
  simp only at d0 d1 c0 c1 l0 l1 p0 p1
  simp only at *
  have k1 : decide (sc < 128) = false := decide_eq_false (by omega)
  have k2 : (sl == 0) = false := by simpa using g2
  have m0 : Int.tmod sc 2 = 0 := by rw [Int.tmod_eq_emod_of_nonneg c0]; omega
  subst he
  subst hb
  have t1 : Int.tmod (sd * 2) 256 = sd * 2 % 256 := Int.tmod_eq_emod_of_nonneg (by omega)
  have t2 : IntKind.u8.wrap (sd * 2 % 256) = (sd * 2 % 256) := by rw [IntKind.wrap_u8]; omega
  subst hl
  have t3 : IntKind.u8.wrap (sc - 128) = sc - 128 := by rw [IntKind.wrap_u8]; omega
  clear I
  go_enter Try.func11, Try.ntmps11
  go_wp2
  exact bodyPost_ret (v := .tuple #[srV ⟨(sd * 2 % 256), (sc - 128), 0, sp⟩, .bool (decide (128 ≤ sd)), .bool true]) (by simp [results, Try.results11, go_sem]) rfl ⟨rfl, by repeat (first | with_reducible exact Kept.refl _ | with_reducible refine Kept.alloc ?_ _ | with_reducible refine Kept.drew ?_ | (with_reducible refine Kept.setCell8 ?_ ?_ _ _; rotate_left; (first | exact Nat.le_refl _ | omega | (simp; done) | (simp; omega))))⟩
set_option maxRecDepth 100000 in
set_option maxHeartbeats 4000000 in
theorem rst12_f0n (s : Sr) (b edge : Bool) (w : World) (I : SrIn s) (h : goesS s = true) (ho : ¬ s.ctl % 2 = 1) (he : edge = true) (hb : b = false) (hl : s.left ≠ 1) : Calls Try.prog 11 #[srV s, .bool b, .bool edge] w fun e w' => e = .returned (.tuple #[srV (stepS s b edge), .bool (outS s), .bool (askS s edge)]) ∧ Kept w w' := by
  obtain ⟨g1, g2⟩ := (goes_iff s).1 h
  have E : stepS s b edge = ⟨(s.data * 2 % 256), s.ctl, s.left - 1, s.ph⟩ := by
    unfold stepS
    rw [if_pos h, if_neg ho, if_pos he]
    unfold shiftS; rw [if_neg hl, hb]; simp only [oneS, if_true, Bool.false_eq_true, if_false, Int.add_zero]
  have A : askS s edge = false := by
    unfold askS
    rw [h, if_neg ho, he, Bool.true_and, Bool.true_and]
    simpa using hl
  rw [E, A]
  clear E A h
  unfold outS
  obtain ⟨sd, sc, sl, sp⟩ := s
  have d0 := I.d0
  have d1 := I.d1
  have c0 := I.c0
  have c1 := I.c1
  have l0 := I.l0
  have l1 := I.l1
  have p0 := I.p0
  have p1 := I.p1
  simp only at d0 d1 c0 c1 l0 l1 p0 p1
  simp only at *
  have k1 : decide (sc < 128) = false := decide_eq_false (by omega)
  have k2 : (sl == 0) = false := by simpa using g2
  have m0 : Int.tmod sc 2 = 0 := by rw [Int.tmod_eq_emod_of_nonneg c0]; omega
  subst he
  subst hb
  have t1 : Int.tmod (sd * 2) 256 = sd * 2 % 256 := Int.tmod_eq_emod_of_nonneg (by omega)
  have t2 : IntKind.u8.wrap (sd * 2 % 256) = (sd * 2 % 256) := by rw [IntKind.wrap_u8]; omega
  have t3 : IntKind.u8.wrap (sl - 1) = sl - 1 := by rw [IntKind.wrap_u8]; omega
  have t4 : decide (0 < sl - 1) = true := decide_eq_true (by omega)
  clear I
  go_enter Try.func11, Try.ntmps11
  go_wp2
  exact bodyPost_ret (v := .tuple #[srV ⟨(sd * 2 % 256), sc, (sl - 1), sp⟩, .bool (decide (128 ≤ sd)), .bool false]) (by simp [results, Try.results11, go_sem]) rfl ⟨rfl, by repeat (first | with_reducible exact Kept.refl _ | with_reducible refine Kept.alloc ?_ _ | with_reducible refine Kept.drew ?_ | (with_reducible refine Kept.setCell8 ?_ ?_ _ _; rotate_left; (first | exact Nat.le_refl _ | omega | (simp; done) | (simp; omega))))⟩
theorem rstep12 (s : Sr) (b edge : Bool) (w : World) (I : SrIn s) : Calls Try.prog 11 #[srV s, .bool b, .bool edge] w fun e w' => e = .returned (.tuple #[srV (stepS s b edge), .bool (outS s), .bool (askS s edge)]) ∧ Kept w w' := by
  cases h : goesS s
  · by_cases q : s.ctl < 128
    · exact rst12_a s b edge w I h q
    · refine rst12_b s b edge w I h q ?_
      by_cases z : s.left = 0
      · exact z
      · have := (goes_iff s).2 ⟨by omega, z⟩
        rw [h] at this
        cases this
  · by_cases ho : s.ctl % 2 = 1
    · by_cases hp : s.ph < 127
      · exact rst12_c s b edge w I h ho hp
      · cases hb : b <;> by_cases hl : s.left = 1
        · exact rst12_o0z s _ edge w I h ho hp rfl hl
        · exact rst12_o0n s _ edge w I h ho hp rfl hl
        · exact rst12_o1z s _ edge w I h ho hp rfl hl
        · exact rst12_o1n s _ edge w I h ho hp rfl hl
    · cases he : edge
      · exact rst12_w s b _ w I h ho rfl
      · cases hb : b <;> by_cases hl : s.left = 1
        · exact rst12_f0z s _ _ w I h ho rfl rfl hl
        · exact rst12_f0n s _ _ w I h ho rfl rfl hl
        · exact rst12_f1z s _ _ w I h ho rfl rfl hl
        · exact rst12_f1n s _ _ w I h ho rfl rfl hl
set_option maxRecDepth 100000 in
set_option maxHeartbeats 4000000 in
theorem rread12 (s : Sr) (a : Int) (w : World) (I : SrIn s) (a0 : 0 ≤ a) (a1 : a ≤ 65535) : Calls Try.prog 13 #[srV s, .int .u16 a] w fun e w' => e = .returned (.int .u8 (readS s a)) ∧ Kept w w' := by
  obtain ⟨sd, sc, sl, sp⟩ := s
  have d0 := I.d0
  have d1 := I.d1
  have c0 := I.c0
  have c1 := I.c1
  have l0 := I.l0
  have l1 := I.l1
  have p0 := I.p0
  have p1 := I.p1
  simp only at d0 d1 c0 c1 l0 l1 p0 p1
  have e1 : Int.tdiv sc 128 = sc / 128 := Int.tdiv_eq_ediv_of_nonneg c0
  have e2 : Int.tmod sc 2 = sc % 2 := Int.tmod_eq_emod_of_nonneg c0
  have e3 : IntKind.u8.wrap (sc / 128 * 128) = sc / 128 * 128 := by rw [IntKind.wrap_u8]; omega
  have e4 : IntKind.u8.wrap (sc / 128 * 128 + 126) = sc / 128 * 128 + 126 := by rw [IntKind.wrap_u8]; omega
  have e5 : IntKind.u8.wrap (sc / 128 * 128 + 126 + sc % 2) = sc / 128 * 128 + 126 + sc % 2 := by rw [IntKind.wrap_u8]; omega
  clear I
  by_cases q0 : a = 65281
  · subst q0
    have E := hid (show readS ⟨sd, sc, sl, sp⟩ 65281 = sd from rfl)
    go_enter Try.func13, Try.ntmps13
    go_wp2
    go_ret
    exact ⟨by rw [E.out]; rfl, (Kept.refl w).alloc _⟩
  by_cases q1 : a = 65282
  · subst q1
    have E := hid (show readS ⟨sd, sc, sl, sp⟩ 65282 = sc / 128 * 128 + 126 + sc % 2 from rfl)
    go_enter Try.func13, Try.ntmps13
    go_wp2
    go_ret
    exact ⟨by rw [E.out]; rfl, (Kept.refl w).alloc _⟩
  have E := hid (show readS ⟨sd, sc, sl, sp⟩ a = 255 by unfold readS; rw [if_neg q0, if_neg q1])
  have g0 : (a == 65281) = false := by simpa using q0
  have g1 : (a == 65282) = false := by simpa using q1
  go_enter Try.func13, Try.ntmps13
  go_wp2
  go_ret
  exact ⟨by rw [E.out]; rfl, (Kept.refl w).alloc _⟩
set_option maxRecDepth 100000 in
set_option maxHeartbeats 4000000 in
theorem rwr12_a (s : Sr) (a v : Int) (w : World) (I : SrIn s) (a0 : 0 ≤ a) (a1 : a ≤ 65535) (v0 : 0 ≤ v) (v1 : v ≤ 255) (ha : a = 65281) : Calls Try.prog 15 #[srV s, .int .u16 a, .int .u8 v] w fun e w' => e = .returned (srV (writeS s a v)) ∧ Kept w w' := by
  subst ha
  have E : writeS s 65281 v = ⟨v, s.ctl, s.left, s.ph⟩ := rfl
  rw [E]
  clear E
  obtain ⟨sd, sc, sl, sp⟩ := s
  have d0 := I.d0
  have d1 := I.d1
  have c0 := I.c0
  have c1 := I.c1
  have l0 := I.l0
  have l1 := I.l1
  have p0 := I.p0
  have p1 := I.p1
  simp only at d0 d1 c0 c1 l0 l1 p0 p1
  try simp only at *
  
  clear I
  go_enter Try.func15, Try.ntmps15
  go_wp2
  exact bodyPost_ret (v := srV ⟨v, sc, sl, sp⟩) (by simp [results, Try.results15, go_sem]) rfl ⟨rfl, by repeat (first | with_reducible exact Kept.refl _ | with_reducible refine Kept.alloc ?_ _ | with_reducible refine Kept.drew ?_ | (with_reducible refine Kept.setCell8 ?_ ?_ _ _; rotate_left; (first | exact Nat.le_refl _ | omega | (simp; done) | (simp; omega))))⟩
set_option maxRecDepth 100000 in
set_option maxHeartbeats 4000000 in
theorem rwr12_b (s : Sr) (a v : Int) (w : World) (I : SrIn s) (a0 : 0 ≤ a) (a1 : a ≤ 65535) (v0 : 0 ≤ v) (v1 : v ≤ 255) (ha : a = 65282) (hv : 128 ≤ v) : Calls Try.prog 15 #[srV s, .int .u16 a, .int .u8 v] w fun e w' => e = .returned (srV (writeS s a v)) ∧ Kept w w' := by
  subst ha
  have E : writeS s 65282 v = ⟨s.data, v / 128 * 128 + v % 2, 8, 0⟩ := by
    show (⟨s.data, v / 128 * 128 + v % 2, if 128 ≤ v then 8 else 0, 0⟩ : Sr) = _
    rw [if_pos hv]
  rw [E]
  clear E
  obtain ⟨sd, sc, sl, sp⟩ := s
  have d0 := I.d0
  have d1 := I.d1
  have c0 := I.c0
  have c1 := I.c1
  have l0 := I.l0
  have l1 := I.l1
  have p0 := I.p0
  have p1 := I.p1
  simp only at d0 d1 c0 c1 l0 l1 p0 p1
  try simp only at *
  have e1 : Int.tdiv v 128 = v / 128 := Int.tdiv_eq_ediv_of_nonneg v0
  have e2 : Int.tmod v 2 = v % 2 := Int.tmod_eq_emod_of_nonneg v0
  have e3 : IntKind.u8.wrap (v / 128 * 128) = v / 128 * 128 := by rw [IntKind.wrap_u8]; omega
  have e4 : IntKind.u8.wrap (v / 128 * 128 + v % 2) = v / 128 * 128 + v % 2 := by rw [IntKind.wrap_u8]; omega
  have e5 : decide (128 ≤ v) = true := decide_eq_true hv
  clear I
  go_enter Try.func15, Try.ntmps15
  go_wp2
  exact bodyPost_ret (v := srV ⟨sd, (v / 128 * 128 + v % 2), 8, 0⟩) (by simp [results, Try.results15, go_sem]) rfl ⟨rfl, by repeat (first | with_reducible exact Kept.refl _ | with_reducible refine Kept.alloc ?_ _ | with_reducible refine Kept.drew ?_ | (with_reducible refine Kept.setCell8 ?_ ?_ _ _; rotate_left; (first | exact Nat.le_refl _ | omega | (simp; done) | (simp; omega))))⟩
set_option maxRecDepth 100000 in
set_option maxHeartbeats 4000000 in
theorem rwr12_c (s : Sr) (a v : Int) (w : World) (I : SrIn s) (a0 : 0 ≤ a) (a1 : a ≤ 65535) (v0 : 0 ≤ v) (v1 : v ≤ 255) (ha : a = 65282) (hv : ¬ 128 ≤ v) : Calls Try.prog 15 #[srV s, .int .u16 a, .int .u8 v] w fun e w' => e = .returned (srV (writeS s a v)) ∧ Kept w w' := by
  subst ha
  have E : writeS s 65282 v = ⟨s.data, v / 128 * 128 + v % 2, 0, 0⟩ := by
    show (⟨s.data, v / 128 * 128 + v % 2, if 128 ≤ v then 8 else 0, 0⟩ : Sr) = _
    rw [if_neg hv]
  rw [E]
  clear E
  obtain ⟨sd, sc, sl, sp⟩ := s
  have d0 := I.d0
  have d1 := I.d1
  have c0 := I.c0
  have c1 := I.c1
  have l0 := I.l0
  have l1 := I.l1
  have p0 := I.p0
  have p1 := I.p1
  simp only at d0 d1 c0 c1 l0 l1 p0 p1
  try simp only at *
  have e1 : Int.tdiv v 128 = v / 128 := Int.tdiv_eq_ediv_of_nonneg v0
  have e2 : Int.tmod v 2 = v % 2 := Int.tmod_eq_emod_of_nonneg v0
  have e3 : IntKind.u8.wrap (v / 128 * 128) = v / 128 * 128 := by rw [IntKind.wrap_u8]; omega
  have e4 : IntKind.u8.wrap (v / 128 * 128 + v % 2) = v / 128 * 128 + v % 2 := by rw [IntKind.wrap_u8]; omega
  have e5 : decide (128 ≤ v) = false := decide_eq_false hv
  clear I
  go_enter Try.func15, Try.ntmps15
  go_wp2
  exact bodyPost_ret (v := srV ⟨sd, (v / 128 * 128 + v % 2), 0, 0⟩) (by simp [results, Try.results15, go_sem]) rfl ⟨rfl, by repeat (first | with_reducible exact Kept.refl _ | with_reducible refine Kept.alloc ?_ _ | with_reducible refine Kept.drew ?_ | (with_reducible refine Kept.setCell8 ?_ ?_ _ _; rotate_left; (first | exact Nat.le_refl _ | omega | (simp; done) | (simp; omega))))⟩
set_option maxRecDepth 100000 in
set_option maxHeartbeats 4000000 in
theorem rwr12_d (s : Sr) (a v : Int) (w : World) (I : SrIn s) (a0 : 0 ≤ a) (a1 : a ≤ 65535) (v0 : 0 ≤ v) (v1 : v ≤ 255) (q0 : a ≠ 65281) (q1 : a ≠ 65282) : Calls Try.prog 15 #[srV s, .int .u16 a, .int .u8 v] w fun e w' => e = .returned (srV (writeS s a v)) ∧ Kept w w' := by
  have E : writeS s a v = s := by unfold writeS; rw [if_neg q0, if_neg q1]
  rw [E]
  clear E
  obtain ⟨sd, sc, sl, sp⟩ := s
  have d0 := I.d0
  have d1 := I.d1
  have c0 := I.c0
  have c1 := I.c1
  have l0 := I.l0
  have l1 := I.l1
  have p0 := I.p0
  have p1 := I.p1
  simp only at d0 d1 c0 c1 l0 l1 p0 p1
  try simp only at *
  have g0 : (a == 65281) = false := by simpa using q0
  have g1 : (a == 65282) = false := by simpa using q1
  clear q0 q1
  clear I
  go_enter Try.func15, Try.ntmps15
  go_wp2
  exact bodyPost_ret (v := srV ⟨sd, sc, sl, sp⟩) (by simp [results, Try.results15, go_sem]) rfl ⟨rfl, by repeat (first | with_reducible exact Kept.refl _ | with_reducible refine Kept.alloc ?_ _ | with_reducible refine Kept.drew ?_ | (with_reducible refine Kept.setCell8 ?_ ?_ _ _; rotate_left; (first | exact Nat.le_refl _ | omega | (simp; done) | (simp; omega))))⟩
theorem rwrite12 (s : Sr) (a v : Int) (w : World) (I : SrIn s) (a0 : 0 ≤ a) (a1 : a ≤ 65535) (v0 : 0 ≤ v) (v1 : v ≤ 255) : Calls Try.prog 15 #[srV s, .int .u16 a, .int .u8 v] w fun e w' => e = .returned (srV (writeS s a v)) ∧ Kept w w' := by
  by_cases q0 : a = 65281
  · exact rwr12_a s a v w I a0 a1 v0 v1 q0
  by_cases q1 : a = 65282
  · by_cases hv : 128 ≤ v
    · exact rwr12_b s a v w I a0 a1 v0 v1 q1 hv
    · exact rwr12_c s a v w I a0 a1 v0 v1 q1 hv
  · exact rwr12_d s a v w I a0 a1 v0 v1 q0 q1
end Go.Proofs.Ytblagmninenapaa
