/- What the calls of layer 5 come to, over this seat's translation: the lot of an opcode, with the prefix and without. -/
import Derived.Test.YtbflhpffojlpgaaDoorOp2
import Derived.Test.YtbflhpffojlpgaaDoorOp3
namespace Go.Proofs.YtbflhpffojlpgaaDoor
open Go.RowKit
set_option linter.unusedVariables false
set_option linter.unusedSimpArgs false

theorem load6_fin : ∀ a : Fin 256, (decide (64 ≤ (a.val : Int)) && decide ((a.val : Int) < 128) && (a.val : Int) != 118 && ((a.val : Int) / 8 % 8 == 6 || (a.val : Int) % 8 == 6)) = true → ((decOf (a.val : Int)).same ⟨7, (a.val : Int) / 8 % 8, (a.val : Int) % 8, 1, 2, 2⟩) = true := by decide +kernel
theorem load6 (a : Int) (h0 : 0 ≤ a) (h1 : a ≤ 255) (h : (decide (64 ≤ a) && decide (a < 128) && a != 118 && (a / 8 % 8 == 6 || a % 8 == 6)) = true) : decOf a = ⟨7, a / 8 % 8, a % 8, 1, 2, 2⟩ :=
  (same_iff _ _).1 (fin8 (p := fun a => (decide (64 ≤ a) && decide (a < 128) && a != 118 && (a / 8 % 8 == 6 || a % 8 == 6)) = true → ((decOf a).same ⟨7, a / 8 % 8, a % 8, 1, 2, 2⟩) = true) load6_fin a h0 h1 h)
theorem load1_fin : ∀ a : Fin 256, (decide (64 ≤ (a.val : Int)) && decide ((a.val : Int) < 128) && (a.val : Int) != 118 && !((a.val : Int) / 8 % 8 == 6) && !((a.val : Int) % 8 == 6)) = true → ((decOf (a.val : Int)).same ⟨7, (a.val : Int) / 8 % 8, (a.val : Int) % 8, 1, 1, 1⟩) = true := by decide +kernel
theorem load1 (a : Int) (h0 : 0 ≤ a) (h1 : a ≤ 255) (h : (decide (64 ≤ a) && decide (a < 128) && a != 118 && !(a / 8 % 8 == 6) && !(a % 8 == 6)) = true) : decOf a = ⟨7, a / 8 % 8, a % 8, 1, 1, 1⟩ :=
  (same_iff _ _).1 (fin8 (p := fun a => (decide (64 ≤ a) && decide (a < 128) && a != 118 && !(a / 8 % 8 == 6) && !(a % 8 == 6)) = true → ((decOf a).same ⟨7, a / 8 % 8, a % 8, 1, 1, 1⟩) = true) load1_fin a h0 h1 h)
theorem op6_fin : ∀ a : Fin 256, (decide (128 ≤ (a.val : Int)) && decide ((a.val : Int) < 192) && (a.val : Int) % 8 == 6) = true → ((decOf (a.val : Int)).same ⟨23, (a.val : Int) / 8 % 8, (a.val : Int) % 8, 1, 2, 2⟩) = true := by decide +kernel
theorem op6 (a : Int) (h0 : 0 ≤ a) (h1 : a ≤ 255) (h : (decide (128 ≤ a) && decide (a < 192) && a % 8 == 6) = true) : decOf a = ⟨23, a / 8 % 8, a % 8, 1, 2, 2⟩ :=
  (same_iff _ _).1 (fin8 (p := fun a => (decide (128 ≤ a) && decide (a < 192) && a % 8 == 6) = true → ((decOf a).same ⟨23, a / 8 % 8, a % 8, 1, 2, 2⟩) = true) op6_fin a h0 h1 h)
theorem op1_fin : ∀ a : Fin 256, (decide (128 ≤ (a.val : Int)) && decide ((a.val : Int) < 192) && !((a.val : Int) % 8 == 6)) = true → ((decOf (a.val : Int)).same ⟨23, (a.val : Int) / 8 % 8, (a.val : Int) % 8, 1, 1, 1⟩) = true := by decide +kernel
theorem op1 (a : Int) (h0 : 0 ≤ a) (h1 : a ≤ 255) (h : (decide (128 ≤ a) && decide (a < 192) && !(a % 8 == 6)) = true) : decOf a = ⟨23, a / 8 % 8, a % 8, 1, 1, 1⟩ :=
  (same_iff _ _).1 (fin8 (p := fun a => (decide (128 ≤ a) && decide (a < 192) && !(a % 8 == 6)) = true → ((decOf a).same ⟨23, a / 8 % 8, a % 8, 1, 1, 1⟩) = true) op1_fin a h0 h1 h)
theorem cb0y_fin : ∀ a : Fin 256, ((a.val : Int) / 64 == 0 && (a.val : Int) % 8 == 6) = true → ((cbOf (a.val : Int)).same ⟨43, (a.val : Int) / 8 % 8, (a.val : Int) % 8, 2, 4, 4⟩) = true := by decide +kernel
theorem cb0y (a : Int) (h0 : 0 ≤ a) (h1 : a ≤ 255) (h : (a / 64 == 0 && a % 8 == 6) = true) : cbOf a = ⟨43, a / 8 % 8, a % 8, 2, 4, 4⟩ :=
  (same_iff _ _).1 (fin8 (p := fun a => (a / 64 == 0 && a % 8 == 6) = true → ((cbOf a).same ⟨43, a / 8 % 8, a % 8, 2, 4, 4⟩) = true) cb0y_fin a h0 h1 h)
theorem cb0n_fin : ∀ a : Fin 256, ((a.val : Int) / 64 == 0 && !((a.val : Int) % 8 == 6)) = true → ((cbOf (a.val : Int)).same ⟨43, (a.val : Int) / 8 % 8, (a.val : Int) % 8, 2, 2, 2⟩) = true := by decide +kernel
theorem cb0n (a : Int) (h0 : 0 ≤ a) (h1 : a ≤ 255) (h : (a / 64 == 0 && !(a % 8 == 6)) = true) : cbOf a = ⟨43, a / 8 % 8, a % 8, 2, 2, 2⟩ :=
  (same_iff _ _).1 (fin8 (p := fun a => (a / 64 == 0 && !(a % 8 == 6)) = true → ((cbOf a).same ⟨43, a / 8 % 8, a % 8, 2, 2, 2⟩) = true) cb0n_fin a h0 h1 h)
theorem cb1y_fin : ∀ a : Fin 256, ((a.val : Int) / 64 == 1 && (a.val : Int) % 8 == 6) = true → ((cbOf (a.val : Int)).same ⟨44, (a.val : Int) / 8 % 8, (a.val : Int) % 8, 2, 3, 3⟩) = true := by decide +kernel
theorem cb1y (a : Int) (h0 : 0 ≤ a) (h1 : a ≤ 255) (h : (a / 64 == 1 && a % 8 == 6) = true) : cbOf a = ⟨44, a / 8 % 8, a % 8, 2, 3, 3⟩ :=
  (same_iff _ _).1 (fin8 (p := fun a => (a / 64 == 1 && a % 8 == 6) = true → ((cbOf a).same ⟨44, a / 8 % 8, a % 8, 2, 3, 3⟩) = true) cb1y_fin a h0 h1 h)
theorem cb1n_fin : ∀ a : Fin 256, ((a.val : Int) / 64 == 1 && !((a.val : Int) % 8 == 6)) = true → ((cbOf (a.val : Int)).same ⟨44, (a.val : Int) / 8 % 8, (a.val : Int) % 8, 2, 2, 2⟩) = true := by decide +kernel
theorem cb1n (a : Int) (h0 : 0 ≤ a) (h1 : a ≤ 255) (h : (a / 64 == 1 && !(a % 8 == 6)) = true) : cbOf a = ⟨44, a / 8 % 8, a % 8, 2, 2, 2⟩ :=
  (same_iff _ _).1 (fin8 (p := fun a => (a / 64 == 1 && !(a % 8 == 6)) = true → ((cbOf a).same ⟨44, a / 8 % 8, a % 8, 2, 2, 2⟩) = true) cb1n_fin a h0 h1 h)
theorem cb2y_fin : ∀ a : Fin 256, ((a.val : Int) / 64 == 2 && (a.val : Int) % 8 == 6) = true → ((cbOf (a.val : Int)).same ⟨45, (a.val : Int) / 8 % 8, (a.val : Int) % 8, 2, 4, 4⟩) = true := by decide +kernel
theorem cb2y (a : Int) (h0 : 0 ≤ a) (h1 : a ≤ 255) (h : (a / 64 == 2 && a % 8 == 6) = true) : cbOf a = ⟨45, a / 8 % 8, a % 8, 2, 4, 4⟩ :=
  (same_iff _ _).1 (fin8 (p := fun a => (a / 64 == 2 && a % 8 == 6) = true → ((cbOf a).same ⟨45, a / 8 % 8, a % 8, 2, 4, 4⟩) = true) cb2y_fin a h0 h1 h)
theorem cb2n_fin : ∀ a : Fin 256, ((a.val : Int) / 64 == 2 && !((a.val : Int) % 8 == 6)) = true → ((cbOf (a.val : Int)).same ⟨45, (a.val : Int) / 8 % 8, (a.val : Int) % 8, 2, 2, 2⟩) = true := by decide +kernel
theorem cb2n (a : Int) (h0 : 0 ≤ a) (h1 : a ≤ 255) (h : (a / 64 == 2 && !(a % 8 == 6)) = true) : cbOf a = ⟨45, a / 8 % 8, a % 8, 2, 2, 2⟩ :=
  (same_iff _ _).1 (fin8 (p := fun a => (a / 64 == 2 && !(a % 8 == 6)) = true → ((cbOf a).same ⟨45, a / 8 % 8, a % 8, 2, 2, 2⟩) = true) cb2n_fin a h0 h1 h)
theorem cb3y_fin : ∀ a : Fin 256, ((a.val : Int) / 64 == 3 && (a.val : Int) % 8 == 6) = true → ((cbOf (a.val : Int)).same ⟨46, (a.val : Int) / 8 % 8, (a.val : Int) % 8, 2, 4, 4⟩) = true := by decide +kernel
theorem cb3y (a : Int) (h0 : 0 ≤ a) (h1 : a ≤ 255) (h : (a / 64 == 3 && a % 8 == 6) = true) : cbOf a = ⟨46, a / 8 % 8, a % 8, 2, 4, 4⟩ :=
  (same_iff _ _).1 (fin8 (p := fun a => (a / 64 == 3 && a % 8 == 6) = true → ((cbOf a).same ⟨46, a / 8 % 8, a % 8, 2, 4, 4⟩) = true) cb3y_fin a h0 h1 h)
theorem cb3n_fin : ∀ a : Fin 256, ((a.val : Int) / 64 == 3 && !((a.val : Int) % 8 == 6)) = true → ((cbOf (a.val : Int)).same ⟨46, (a.val : Int) / 8 % 8, (a.val : Int) % 8, 2, 2, 2⟩) = true := by decide +kernel
theorem cb3n (a : Int) (h0 : 0 ≤ a) (h1 : a ≤ 255) (h : (a / 64 == 3 && !(a % 8 == 6)) = true) : cbOf a = ⟨46, a / 8 % 8, a % 8, 2, 2, 2⟩ :=
  (same_iff _ _).1 (fin8 (p := fun a => (a / 64 == 3 && !(a % 8 == 6)) = true → ((cbOf a).same ⟨46, a / 8 % 8, a % 8, 2, 2, 2⟩) = true) cb3n_fin a h0 h1 h)
theorem rk_fin : ∀ k : Fin 48, ((rk k.val 0 = 255 ∨ rk k.val 0 = 231 ∨ rk k.val 0 = 207 ∨ rk k.val 0 = 199) ∧ (0 ≤ rk k.val 2 ∧ rk k.val 2 ≤ 255) ∧ (0 ≤ rk k.val 3 ∧ rk k.val 3 ≤ 255) ∧ (0 ≤ rk k.val 4 ∧ rk k.val 4 ≤ 255) ∧ (0 ≤ rk k.val 5 ∧ rk k.val 5 ≤ 255)) := by decide +kernel
theorem row_fin : ∀ a : Fin 256, ∀ k : Fin 48, ((a.val : Int) / 64 != 1 && (a.val : Int) / 64 != 2 && fitR (a.val : Int) k.val && noneTo (a.val : Int) k.val) = true → ((decOf (a.val : Int)).same ⟨rk k.val 2, (rk k.val 6 + bits .andNot .u8 (a.val : Int) (rk k.val 0) / shD (rk k.val 0)) % 256, 0, rk k.val 3, rk k.val 4, rk k.val 5⟩) = true := by decide +kernel
theorem ill_fin : ∀ a : Fin 256, ((a.val : Int) / 64 != 1 && (a.val : Int) / 64 != 2 && noneTo (a.val : Int) 48) = true → ((decOf (a.val : Int)).same ⟨5, (0 + bits .andNot .u8 (a.val : Int) 255 / shD 255) % 256, 0, 1, 1, 1⟩) = true := by decide +kernel
theorem load_any (op : Int) (w : World) (h0 : 0 ≤ op) (h1 : op ≤ 255) (q0 : 64 ≤ op) (q1 : op < 128) : Calls Tryd.prog 27 #[.int .u8 op] w fun e w' => e = .returned (.agg #[.int .i64 (decOf op).kind, .int .i64 (decOf op).x, .int .i64 (decOf op).y, .int .i64 (decOf op).bytes, .int .i64 (decOf op).cycles, .int .i64 (decOf op).taken]) ∧ Grown w w' := by
  by_cases hh : op = 118
  · subst hh
    have E := hid (show decOf 118 = ⟨2, 0, 0, 1, 1, 1⟩ from rfl)
    go_enter Tryd.func27, Tryd.ntmps27
    go_wp2_with (first | (go_at_call 31; refine (letters_any _ _ h0 h1).mono ?_; rintro e w' ⟨rfl, rfl⟩))
    refine (steady_any _ _ _ _ _ _).mono ?_
    rintro e u1 ⟨rfl, g1⟩
    obtain ⟨zA, cA⟩ := has_grown g1 (has_alloc w _ _)
    have fA := fun o => grown_froz (grown_trans (alloc1 w _ _) g1) (Nat.le_refl w.heap.size) o
    have GG := hid (grown_trans (alloc1 w _ _) g1)
    have a0 := cA 0
    have a1 := cA 1
    have a2 := cA 2
    have a3 := cA 3
    have a4 := cA 4
    have a5 := cA 5
    simp at a0 a1 a2 a3 a4 a5
    clear cA
    go_wp2
    exact bodyPost_ret (v := .agg #[.int .i64 2, .int .i64 0, .int .i64 0, .int .i64 1, .int .i64 1, .int .i64 1]) (by simp [results, Tryd.results27, go_sem, a0, a1, a2, a3, a4, a5, zA]) rfl ⟨by rw [E.out], (((((GG.out.setCell (Nat.le_refl _) _).setCell (Nat.le_refl _) _).setCell (Nat.le_refl _) _).setCell (Nat.le_refl _) _).setCell (Nat.le_refl _) _).setCell (Nat.le_refl _) _⟩
  by_cases hx : op / 8 % 8 = 6
  · have E := hid (load6 op h0 h1 (by simp [q0, q1, hh, hx]))
    have bx : (op / 8 % 8 == 6) = true := by simp [hx]
    have b118 : (op == 118) = false := by simp [hh]
    clear hx
    go_enter Tryd.func27, Tryd.ntmps27
    go_wp2_with (first | (go_at_call 31; refine (letters_any _ _ h0 h1).mono ?_; rintro e w' ⟨rfl, rfl⟩))
    refine (steady_any _ _ _ _ _ _).mono ?_
    rintro e u1 ⟨rfl, g1⟩
    obtain ⟨zA, cA⟩ := has_grown g1 (has_alloc w _ _)
    have fA := fun o => grown_froz (grown_trans (alloc1 w _ _) g1) (Nat.le_refl w.heap.size) o
    have GG := hid (grown_trans (alloc1 w _ _) g1)
    have a0 := cA 0
    have a1 := cA 1
    have a2 := cA 2
    have a3 := cA 3
    have a4 := cA 4
    have a5 := cA 5
    simp at a0 a1 a2 a3 a4 a5
    clear cA
    go_wp2
    exact bodyPost_ret (v := .agg #[.int .i64 7, .int .i64 (op / 8 % 8), .int .i64 (op % 8), .int .i64 1, .int .i64 2, .int .i64 2]) (by simp [results, Tryd.results27, go_sem, a0, a1, a2, a3, a4, a5, zA]) rfl ⟨by rw [E.out], (((((GG.out.setCell (Nat.le_refl _) _).setCell (Nat.le_refl _) _).setCell (Nat.le_refl _) _).setCell (Nat.le_refl _) _).setCell (Nat.le_refl _) _).setCell (Nat.le_refl _) _⟩
  by_cases hy : op % 8 = 6
  · have E := hid (load6 op h0 h1 (by simp [q0, q1, hh, hy]))
    have bx : (op / 8 % 8 == 6) = false := by simp [hx]
    have bY : (op % 8 == 6) = true := by simp [hy]
    have b118 : (op == 118) = false := by simp [hh]
    clear hy
    go_enter Tryd.func27, Tryd.ntmps27
    go_wp2_with (first | (go_at_call 31; refine (letters_any _ _ h0 h1).mono ?_; rintro e w' ⟨rfl, rfl⟩))
    refine (steady_any _ _ _ _ _ _).mono ?_
    rintro e u1 ⟨rfl, g1⟩
    obtain ⟨zA, cA⟩ := has_grown g1 (has_alloc w _ _)
    have fA := fun o => grown_froz (grown_trans (alloc1 w _ _) g1) (Nat.le_refl w.heap.size) o
    have GG := hid (grown_trans (alloc1 w _ _) g1)
    have a0 := cA 0
    have a1 := cA 1
    have a2 := cA 2
    have a3 := cA 3
    have a4 := cA 4
    have a5 := cA 5
    simp at a0 a1 a2 a3 a4 a5
    clear cA
    go_wp2
    exact bodyPost_ret (v := .agg #[.int .i64 7, .int .i64 (op / 8 % 8), .int .i64 (op % 8), .int .i64 1, .int .i64 2, .int .i64 2]) (by simp [results, Tryd.results27, go_sem, a0, a1, a2, a3, a4, a5, zA]) rfl ⟨by rw [E.out], (((((GG.out.setCell (Nat.le_refl _) _).setCell (Nat.le_refl _) _).setCell (Nat.le_refl _) _).setCell (Nat.le_refl _) _).setCell (Nat.le_refl _) _).setCell (Nat.le_refl _) _⟩
  · have E := hid (load1 op h0 h1 (by simp [q0, q1, hh, hx, hy]))
    have bx : (op / 8 % 8 == 6) = false := by simp [hx]
    have bY : (op % 8 == 6) = false := by simp [hy]
    have b118 : (op == 118) = false := by simp [hh]
    go_enter Tryd.func27, Tryd.ntmps27
    go_wp2_with (first | (go_at_call 31; refine (letters_any _ _ h0 h1).mono ?_; rintro e w' ⟨rfl, rfl⟩))
    refine (steady_any _ _ _ _ _ _).mono ?_
    rintro e u1 ⟨rfl, g1⟩
    obtain ⟨zA, cA⟩ := has_grown g1 (has_alloc w _ _)
    have fA := fun o => grown_froz (grown_trans (alloc1 w _ _) g1) (Nat.le_refl w.heap.size) o
    have GG := hid (grown_trans (alloc1 w _ _) g1)
    have a0 := cA 0
    have a1 := cA 1
    have a2 := cA 2
    have a3 := cA 3
    have a4 := cA 4
    have a5 := cA 5
    simp at a0 a1 a2 a3 a4 a5
    clear cA
    go_wp2
    exact bodyPost_ret (v := .agg #[.int .i64 7, .int .i64 (op / 8 % 8), .int .i64 (op % 8), .int .i64 1, .int .i64 1, .int .i64 1]) (by simp [results, Tryd.results27, go_sem, a0, a1, a2, a3, a4, a5, zA]) rfl ⟨by rw [E.out], (((((GG.out.setCell (Nat.le_refl _) _).setCell (Nat.le_refl _) _).setCell (Nat.le_refl _) _).setCell (Nat.le_refl _) _).setCell (Nat.le_refl _) _).setCell (Nat.le_refl _) _⟩
theorem operation_any (op : Int) (w : World) (h0 : 0 ≤ op) (h1 : op ≤ 255) (q0 : 128 ≤ op) (q1 : op < 192) : Calls Tryd.prog 28 #[.int .u8 op] w fun e w' => e = .returned (.agg #[.int .i64 (decOf op).kind, .int .i64 (decOf op).x, .int .i64 (decOf op).y, .int .i64 (decOf op).bytes, .int .i64 (decOf op).cycles, .int .i64 (decOf op).taken]) ∧ Grown w w' := by
  by_cases hy : op % 8 = 6
  · have E := hid (op6 op h0 h1 (by simp [q0, q1, hy]))
    have bY : (op % 8 == 6) = true := by simp [hy]
    clear hy
    go_enter Tryd.func28, Tryd.ntmps28
    go_wp2_with (first | (go_at_call 31; refine (letters_any _ _ h0 h1).mono ?_; rintro e w' ⟨rfl, rfl⟩))
    refine (steady_any _ _ _ _ _ _).mono ?_
    rintro e u1 ⟨rfl, g1⟩
    obtain ⟨zA, cA⟩ := has_grown g1 (has_alloc w _ _)
    have fA := fun o => grown_froz (grown_trans (alloc1 w _ _) g1) (Nat.le_refl w.heap.size) o
    have GG := hid (grown_trans (alloc1 w _ _) g1)
    have a0 := cA 0
    have a1 := cA 1
    have a2 := cA 2
    have a3 := cA 3
    have a4 := cA 4
    have a5 := cA 5
    simp at a0 a1 a2 a3 a4 a5
    clear cA
    go_wp2
    exact bodyPost_ret (v := .agg #[.int .i64 23, .int .i64 (op / 8 % 8), .int .i64 (op % 8), .int .i64 1, .int .i64 2, .int .i64 2]) (by simp [results, Tryd.results28, go_sem, a0, a1, a2, a3, a4, a5, zA]) rfl ⟨by rw [E.out], (((((GG.out.setCell (Nat.le_refl _) _).setCell (Nat.le_refl _) _).setCell (Nat.le_refl _) _).setCell (Nat.le_refl _) _).setCell (Nat.le_refl _) _).setCell (Nat.le_refl _) _⟩
  · have E := hid (op1 op h0 h1 (by simp [q0, q1, hy]))
    have bY : (op % 8 == 6) = false := by simp [hy]
    go_enter Tryd.func28, Tryd.ntmps28
    go_wp2_with (first | (go_at_call 31; refine (letters_any _ _ h0 h1).mono ?_; rintro e w' ⟨rfl, rfl⟩))
    refine (steady_any _ _ _ _ _ _).mono ?_
    rintro e u1 ⟨rfl, g1⟩
    obtain ⟨zA, cA⟩ := has_grown g1 (has_alloc w _ _)
    have fA := fun o => grown_froz (grown_trans (alloc1 w _ _) g1) (Nat.le_refl w.heap.size) o
    have GG := hid (grown_trans (alloc1 w _ _) g1)
    have a0 := cA 0
    have a1 := cA 1
    have a2 := cA 2
    have a3 := cA 3
    have a4 := cA 4
    have a5 := cA 5
    simp at a0 a1 a2 a3 a4 a5
    clear cA
    go_wp2
    exact bodyPost_ret (v := .agg #[.int .i64 23, .int .i64 (op / 8 % 8), .int .i64 (op % 8), .int .i64 1, .int .i64 1, .int .i64 1]) (by simp [results, Tryd.results28, go_sem, a0, a1, a2, a3, a4, a5, zA]) rfl ⟨by rw [E.out], (((((GG.out.setCell (Nat.le_refl _) _).setCell (Nat.le_refl _) _).setCell (Nat.le_refl _) _).setCell (Nat.le_refl _) _).setCell (Nat.le_refl _) _).setCell (Nat.le_refl _) _⟩
end Go.Proofs.YtbflhpffojlpgaaDoor
