/- What follows for layer 8: places lie within. -/
import Derived.Test.YtoehmmieceobeabMp8
namespace Go.Proofs.Ytoehmmieceobeab
open Go.RowKit
set_option linter.unusedVariables false
set_option linter.unusedSimpArgs false

theorem rom_yes (m : Mp) (a s : Int) (M : MpIn m) (a0 : 0 ≤ a) (hs : 1 ≤ s) (ha : a ≤ 32767) : 0 ≤ romM m a s ∧ romM m a s < s := by
  unfold romM
  rw [if_neg (by omega)]
  exact ⟨Int.emod_nonneg _ (by omega), Int.emod_lt_of_pos _ (by omega)⟩
theorem rom_no (m : Mp) (a s : Int) (h : s < 1 ∨ 32767 < a) : romM m a s = -1 := by unfold romM; rw [if_pos h]
theorem ram_or (m : Mp) (a s : Int) (M : MpIn m) (a0 : 0 ≤ a) : ramM m a s = -1 ∨ (0 ≤ ramM m a s ∧ ramM m a s < s ∧ 40960 ≤ a ∧ a ≤ 49151 ∧ regM m a = 0) := by
  by_cases c : s < 1 ∨ inWin a = false ∨ ramNo m = true
  · left; unfold ramM; rw [if_pos c]
  · right
    have B := ramB_bd m M
    rw [not_or, not_or] at c
    obtain ⟨c1, c2, c3⟩ := c
    have w : 40960 ≤ a ∧ a ≤ 49151 := by
      have : inWin a = true := by simpa using c2
      unfold inWin at this
      simpa using this
    have e : ramM m a s = (8192 * ramB m + a - 40960) % s := by unfold ramM; rw [if_neg (by rw [not_or, not_or]; exact ⟨c1, c2, c3⟩)]
    rw [e]
    refine ⟨Int.emod_nonneg _ (by omega), Int.emod_lt_of_pos _ (by omega), w.1, w.2, ?_⟩
    unfold regM
    rw [if_neg]
    rintro ⟨k3, o, _, r8, _⟩
    apply c3
    unfold ramNo
    rw [if_neg (by omega), if_pos k3, o]
    simp
    omega
theorem reg_bd (m : Mp) (a : Int) (M : MpIn m) : 0 ≤ regM m a ∧ regM m a ≤ 255 := by
  have := M.r0; have := M.r1
  unfold regM
  split <;> omega
theorem pow_fin : ∀ n : Fin 10, 1 ≤ (2 : Int) ^ n.val ∧ (2 : Int) ^ n.val ≤ 512 := by decide
theorem sh_all (n : Nat) (b : Int) (h : (2 : Int) ^ n = b) (b0 : 1 ≤ b) (b1 : b ≤ 512) : wrap64 (1 * 2 ^ n) = b ∧ wrap64 (2 ^ n) = b ∧ IntKind.i64.wrap (1 * 2 ^ n) = b ∧ IntKind.i64.wrap (2 ^ n) = b := by
  rw [h, Int.one_mul]
  clear h
  have e1 : wrap64 b = b := by unfold wrap64; omega
  have e2 : IntKind.i64.wrap b = b := by rw [IntKind.wrap_i64]; omega
  exact ⟨e1, e1, e2, e2⟩
theorem rom_bank (m : Mp) (a b : Int) (M : MpIn m) (a0 : 0 ≤ a) (ha : a ≤ 32767) (hb : 1 ≤ b) : romM m a (b * 16384) / 16384 = bankM m a % b ∧ romM m a (b * 16384) % 16384 = a % 16384 := by
  have B := bank_bd m a M
  unfold romM
  rw [if_neg (by omega)]
  generalize bankM m a = k at *
  have e : (16384 * k + a % 16384) % (b * 16384) = 16384 * (k % b) + a % 16384 := by
    have h1 : 16384 * k + a % 16384 = (16384 * (k % b) + a % 16384) + (b * 16384) * (k / b) := by
      have : k % b + b * (k / b) = k := by rw [Int.emod_def, Int.sub_add_cancel]
      have h2 : 16384 * k = 16384 * (k % b) + 16384 * (b * (k / b)) := by rw [← Int.mul_add, this]
      rw [h2, Int.mul_comm b 16384, Int.mul_assoc 16384 b]
      omega
    rw [h1, Int.add_mul_emod_self_left]
    have q0 := Int.emod_nonneg k (show b ≠ 0 by omega)
    have q1 := Int.emod_lt_of_pos k (show 0 < b by omega)
    refine Int.emod_eq_of_lt (by omega) (by omega)
  rw [e]
  have q0 := Int.emod_nonneg k (show b ≠ 0 by omega)
  generalize k % b = q at *
  constructor <;> omega
end Go.Proofs.Ytoehmmieceobeab
