/- What follows for layer 8: registers keep their widths. -/
import Derived.Test.YtoehmmieceobeaaMp8
namespace Go.Proofs.Ytoehmmieceobeaa
open Go.RowKit
set_option linter.unusedVariables false
set_option linter.unusedSimpArgs false

structure KeepI (k : Int) (m : Mp) : Prop where
  kind : m.kind = k
  inn : MpIn m
  high : m.high ≤ 3
  ram : m.ram ≤ 15
  one : k = 1 → m.low ≤ 31
  three : k = 3 → m.low ≤ 127
  five : k = 5 → m.high ≤ 1
  none : k = 0 → m = mp0
theorem keep_new (k : Int) (h : newOk k = true) : KeepI k (newM k) := by
  have hk : k = 0 ∨ k = 1 ∨ k = 3 ∨ k = 5 := by unfold newOk at h; simp at h; omega
  refine ⟨rfl, ⟨by show _ ≤ k; omega, by show k ≤ _; omega, Int.le_refl 0, (by decide : (0 : Int) ≤ 255), Int.le_refl 0, (by decide : (0 : Int) ≤ 255), Int.le_refl 0, (by decide : (0 : Int) ≤ 255)⟩, (by decide : (0 : Int) ≤ 3), (by decide : (0 : Int) ≤ 15), fun _ => (by decide : (0 : Int) ≤ 31), fun _ => (by decide : (0 : Int) ≤ 127), fun _ => (by decide : (0 : Int) ≤ 1), fun e => by subst e; rfl⟩
theorem keep_write (k : Int) (m : Mp) (a v : Int) (h : KeepI k m) (v0 : 0 ≤ v) (v1 : v ≤ 255) : KeepI k (writeM m a v) := by
  have I := write_in m a v h.inn v0 v1
  obtain ⟨hk, hi, hh, hr, h1, h3, h5, h0⟩ := h
  unfold writeM writeZ at I ⊢
  generalize zone a = z at I ⊢
  by_cases k1 : m.kind = 1
  · rw [if_pos k1] at I ⊢
    have hl := h1 (by omega)
    match z, I with
    | 0, I => exact ⟨hk, I, hh, hr, h1, h3, h5, fun e => by omega⟩
    | 1, I => exact ⟨hk, I, hh, hr, fun _ => (by show v % 32 ≤ 31; omega), fun e => by omega, h5, fun e => by omega⟩
    | 2, I => exact ⟨hk, I, hh, hr, fun _ => (by show v % 32 ≤ 31; omega), fun e => by omega, h5, fun e => by omega⟩
    | 3, I => exact ⟨hk, I, (by show v % 4 ≤ 3; omega), hr, h1, h3, fun e => by omega, fun e => by omega⟩
    | 4, I => exact ⟨hk, I, hh, hr, h1, h3, h5, fun e => by omega⟩
    | z + 5, I => exact ⟨hk, I, hh, hr, h1, h3, h5, h0⟩
  · rw [if_neg k1] at I ⊢
    by_cases k3 : m.kind = 3
    · rw [if_pos k3] at I ⊢
      match z, I with
      | 0, I => exact ⟨hk, I, hh, hr, h1, h3, h5, fun e => by omega⟩
      | 1, I => exact ⟨hk, I, hh, hr, fun e => by omega, fun _ => (by show v % 128 ≤ 127; omega), h5, fun e => by omega⟩
      | 2, I => exact ⟨hk, I, hh, hr, fun e => by omega, fun _ => (by show v % 128 ≤ 127; omega), h5, fun e => by omega⟩
      | 3, I => exact ⟨hk, I, hh, (by show v % 16 ≤ 15; omega), h1, h3, h5, fun e => by omega⟩
      | z + 4, I => exact ⟨hk, I, hh, hr, h1, h3, h5, h0⟩
    · rw [if_neg k3] at I ⊢
      by_cases k5 : m.kind = 5
      · rw [if_pos k5] at I ⊢
        match z, I with
        | 0, I => exact ⟨hk, I, hh, hr, h1, h3, h5, fun e => by omega⟩
        | 1, I => exact ⟨hk, I, hh, hr, fun e => by omega, fun e => by omega, h5, fun e => by omega⟩
        | 2, I => exact ⟨hk, I, (by show v % 2 ≤ 3; omega), hr, h1, h3, fun _ => (by show v % 2 ≤ 1; omega), fun e => by omega⟩
        | 3, I => exact ⟨hk, I, hh, (by show v % 16 ≤ 15; omega), h1, h3, h5, fun e => by omega⟩
        | z + 4, I => exact ⟨hk, I, hh, hr, h1, h3, h5, h0⟩
      · rw [if_neg k5] at I ⊢
        exact ⟨hk, I, hh, hr, h1, h3, h5, h0⟩
def mostK (k : Int) : Int := if k = 5 then 511 else if k = 0 then 1 else 127
theorem keep_bank (k : Int) (m : Mp) (hk : k = 0 ∨ k = 1 ∨ k = 3 ∨ k = 5) (h : KeepI k m) : bankM m 16384 ≤ mostK k ∧ bankM m 0 ≤ 96 ∧ (k ≠ 5 → 1 ≤ bankM m 32767) := by
  obtain ⟨hm, hi, hh, hr, h1, h3, h5, h0⟩ := h
  have e1 := hi.l0; have e2 := hi.l1; have e3 := hi.h0
  have o := one_bd m.low e1 e2
  have o2 : m.low ≤ 31 → one m.low ≤ 31 := fun q => by unfold one; split <;> omega
  have o3 : m.low ≤ 127 → one m.low ≤ 127 := fun q => by unfold one; split <;> omega
  unfold bankM bankLo bankHi mostK
  rw [hm]
  rcases hk with rfl | rfl | rfl | rfl
  · simp
  · have := o2 (h1 rfl)
    simp
    refine ⟨by omega, ?_, by omega⟩
    split <;> omega
  · have := o3 (h3 rfl)
    simp
    omega
  · have := h5 rfl
    simp
    omega
end Go.Proofs.Ytoehmmieceobeaa
