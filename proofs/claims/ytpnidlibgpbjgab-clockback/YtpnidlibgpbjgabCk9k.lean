/- What follows for layer 9: a day later; what is written is read; clocks out of their bytes. -/
import Derived.Test.YtpnidlibgpbjgabCk9
namespace Go.Proofs.Ytpnidlibgpbjgab
open Go.RowKit
set_option linter.unusedVariables false
set_option linter.unusedSimpArgs false

structure CkDay (c : Ck) : Prop where
  s0 : 0 ≤ c.sec
  s1 : c.sec ≤ 59
  m0 : 0 ≤ c.min
  m1 : c.min ≤ 59
  h0 : 0 ≤ c.hour
  h1 : c.hour ≤ 23
  d0 : 0 ≤ c.day
  d1 : c.day ≤ 511
  go : c.halt = false
def allS (c : Ck) : Int := c.sec + 60 * c.min + 3600 * c.hour + 86400 * c.day
theorem CkDay.ok {c : Ck} (h : CkDay c) : CkOk c := by
  obtain ⟨a, b, c, d, e, f, g, i, j⟩ := h
  exact ⟨a, by omega, c, by omega, e, by omega, g, i⟩
theorem day_inj {a b : Ck} (ha : CkDay a) (hb : CkDay b) (h : allS a = allS b) (hc : a.carry = b.carry) : a = b := by
  obtain ⟨s, m, hh, d, ht, cy⟩ := a
  obtain ⟨s', m', hh', d', ht', cy'⟩ := b
  obtain ⟨a1, a2, a3, a4, a5, a6, a7, a8, a9⟩ := ha
  obtain ⟨b1, b2, b3, b4, b5, b6, b7, b8, b9⟩ := hb
  simp only [allS] at *
  subst a9 b9 hc
  have e1 : d = d' := by omega
  subst e1
  have e2 : hh = hh' := by omega
  subst e2
  have e3 : m = m' := by omega
  subst e3
  have e4 : s = s' := by omega
  subst e4
  rfl
theorem tick_day {c : Ck} (h : CkDay c) : CkDay (tickN c) ∧ ((allS c < 44236799 ∧ allS (tickN c) = allS c + 1 ∧ (tickN c).carry = c.carry) ∨ (allS c = 44236799 ∧ allS (tickN c) = 0 ∧ (tickN c).carry = true)) := by
  obtain ⟨s, m, hh, d, ht, cy⟩ := c
  obtain ⟨a1, a2, a3, a4, a5, a6, a7, a8, a9⟩ := h
  simp only at a1 a2 a3 a4 a5 a6 a7 a8 a9
  subst a9
  unfold tickN allS
  simp only [Bool.false_eq_true, if_false]
  by_cases q1 : s ≠ 59
  · rw [if_pos q1]
    exact ⟨⟨by show 0 ≤ _ % 64; omega, by show _ % 64 ≤ 59; omega, a3, a4, a5, a6, a7, a8, rfl⟩, .inl ⟨by (try simp only); omega, by (try simp only); omega, rfl⟩⟩
  rw [if_neg q1]
  by_cases q2 : m ≠ 59
  · rw [if_pos q2]
    exact ⟨⟨Int.le_refl 0, (by decide : (0 : Int) ≤ 59), by show 0 ≤ _ % 64; omega, by show _ % 64 ≤ 59; omega, a5, a6, a7, a8, rfl⟩, .inl ⟨by (try simp only); omega, by (try simp only); omega, rfl⟩⟩
  rw [if_neg q2]
  by_cases q3 : hh ≠ 23
  · rw [if_pos q3]
    exact ⟨⟨Int.le_refl 0, (by decide : (0 : Int) ≤ 59), Int.le_refl 0, (by decide : (0 : Int) ≤ 59), by show 0 ≤ _ % 32; omega, by show _ % 32 ≤ 23; omega, a7, a8, rfl⟩, .inl ⟨by (try simp only); omega, by (try simp only); omega, rfl⟩⟩
  rw [if_neg q3]
  by_cases q4 : d ≠ 511
  · rw [if_pos q4]
    exact ⟨⟨Int.le_refl 0, (by decide : (0 : Int) ≤ 59), Int.le_refl 0, (by decide : (0 : Int) ≤ 59), Int.le_refl 0, (by decide : (0 : Int) ≤ 23), by show 0 ≤ d + 1; omega, by show d + 1 ≤ 511; omega, rfl⟩, .inl ⟨by (try simp only); omega, by (try simp only); omega, rfl⟩⟩
  rw [if_neg q4]
  exact ⟨⟨Int.le_refl 0, (by decide : (0 : Int) ≤ 59), Int.le_refl 0, (by decide : (0 : Int) ≤ 59), Int.le_refl 0, (by decide : (0 : Int) ≤ 23), Int.le_refl 0, (by decide : (0 : Int) ≤ 511), rfl⟩, .inr ⟨by (try simp only); omega, by (try simp only); omega, rfl⟩⟩
theorem run_day {c : Ck} (h : CkDay c) (n : Nat) (hn : n ≤ 86400) : CkDay (runN n c) ∧ ((allS c + n < 44236800 ∧ allS (runN n c) = allS c + n ∧ (runN n c).carry = c.carry) ∨ (44236800 ≤ allS c + n ∧ allS (runN n c) = allS c + n - 44236800 ∧ (runN n c).carry = true)) := by
  have b0 : 0 ≤ allS c ∧ allS c ≤ 44236799 := by
    obtain ⟨a1, a2, a3, a4, a5, a6, a7, a8, a9⟩ := h
    unfold allS
    constructor <;> omega
  induction n with
  | zero => exact ⟨h, .inl ⟨by show allS c + ((0 : Nat) : Int) < _; omega, by show allS c = allS c + ((0 : Nat) : Int); omega, rfl⟩⟩
  | succ n ih =>
    obtain ⟨i1, i2⟩ := ih (by omega)
    obtain ⟨t1, t2⟩ := tick_day i1
    refine ⟨t1, ?_⟩
    show (_ ∧ allS (tickN (runN n c)) = _ ∧ (tickN (runN n c)).carry = _) ∨ (_ ∧ allS (tickN (runN n c)) = _ ∧ (tickN (runN n c)).carry = _)
    rcases i2 with ⟨p1, p2, p3⟩ | ⟨p1, p2, p3⟩
    · rcases t2 with ⟨u1, u2, u3⟩ | ⟨u1, u2, u3⟩
      · exact .inl ⟨by omega, by omega, u3.trans p3⟩
      · exact .inr ⟨by omega, by omega, u3⟩
    · rcases t2 with ⟨u1, u2, u3⟩ | ⟨u1, u2, u3⟩
      · exact .inr ⟨by omega, by omega, u3.trans p3⟩
      · omega
theorem next_day (s m h d : Int) (H : CkDay ⟨s, m, h, d, false, false⟩) : runN 86400 ⟨s, m, h, d, false, false⟩ = ⟨s, m, h, (d + 1) % 512, false, d == 511⟩ := by
  obtain ⟨r1, r2⟩ := run_day H 86400 (Nat.le_refl _)
  have G : CkDay ⟨s, m, h, (d + 1) % 512, false, d == 511⟩ := by
    obtain ⟨a1, a2, a3, a4, a5, a6, a7, a8, a9⟩ := H
    exact ⟨a1, a2, a3, a4, a5, a6, by show 0 ≤ _ % 512; omega, by show _ % 512 ≤ 511; omega, rfl⟩
  obtain ⟨a1, a2, a3, a4, a5, a6, a7, a8, a9⟩ := H
  simp only [allS] at a1 a2 a3 a4 a5 a6 a7 a8 r2
  refine day_inj r1 G ?_ ?_
  · simp only [allS]
    rcases r2 with ⟨p1, p2, p3⟩ | ⟨p1, p2, p3⟩ <;> omega
  · rcases r2 with ⟨p1, p2, p3⟩ | ⟨p1, p2, p3⟩
    · rw [p3]
      show false = (d == 511)
      have : d ≠ 511 := by omega
      simp [this]
    · rw [p3]
      show true = (d == 511)
      have : d = 511 := by omega
      simp [this]
theorem run_halt {c : Ck} (h : c.halt = true) (n : Nat) : runN n c = c := by
  induction n with
  | zero => rfl
  | succ n ih => show tickN (runN n c) = c; rw [ih]; unfold tickN; rw [if_pos h]
theorem one_back (w : Ck) (h : CkOk w) : (⟨readV w 8, readV w 9, readV w 10, readV w 12 % 2 * 256 + readV w 11, readV w 12 / 64 % 2 == 1, decide (128 ≤ readV w 12)⟩ : Ck) = w ∧ readV w 8 ≤ 63 ∧ readV w 9 ≤ 63 ∧ readV w 10 ≤ 31 ∧ readV w 12 % 64 ≤ 1 ∧ 0 ≤ readV w 12 ∧ readV w 12 ≤ 255 ∧ 0 ≤ readV w 11 ∧ readV w 11 ≤ 255 := by
  obtain ⟨s, m, hh, d, ht, cy⟩ := w
  obtain ⟨a1, a2, a3, a4, a5, a6, a7, a8⟩ := h
  simp only at a1 a2 a3 a4 a5 a6 a7 a8
  have e8 : readV ⟨s, m, hh, d, ht, cy⟩ 8 = s := rfl
  have e9 : readV ⟨s, m, hh, d, ht, cy⟩ 9 = m := rfl
  have e10 : readV ⟨s, m, hh, d, ht, cy⟩ 10 = hh := rfl
  have e11 : readV ⟨s, m, hh, d, ht, cy⟩ 11 = d % 256 := rfl
  have e12 : readV ⟨s, m, hh, d, ht, cy⟩ 12 = d / 256 + bit ht 64 + bit cy 128 := rfl
  rw [e8, e9, e10, e11, e12]
  cases ht <;> cases cy <;> simp only [bit, if_true, if_false, Bool.false_eq_true, Ck.mk.injEq] <;> refine ⟨⟨trivial, trivial, trivial, by omega, ?_, ?_⟩, by omega, by omega, by omega, by omega, by omega, by omega, by omega, by omega⟩ <;> first | (simp; omega) | (simp only [decide_eq_true_eq, decide_eq_false_iff_not, beq_eq_false_iff_ne, ne_eq, beq_iff_eq]; omega)
theorem or_fin9 : ∀ v : Fin 256, bits .or .u8 ((v.val : Int) % 64) (v.val : Int) = (v.val : Int) ∧ bits .or .u8 ((v.val : Int) % 32) (v.val : Int) = (v.val : Int) ∧ bits .or .u8 (v.val : Int) (v.val : Int) = (v.val : Int) ∧ bits .or .u8 ((v.val : Int) % 2 + bit ((v.val : Int) / 64 % 2 == 1) 64 + bit (decide (128 ≤ (v.val : Int))) 128) (v.val : Int) = (v.val : Int) := by decide +kernel
theorem or_any9 (v : Int) (v0 : 0 ≤ v) (v1 : v ≤ 255) : bits .or .u8 (v % 64) v = v ∧ bits .or .u8 (v % 32) v = v ∧ bits .or .u8 v v = v ∧ bits .or .u8 (v % 2 + bit (v / 64 % 2 == 1) 64 + bit (decide (128 ≤ v)) 128) v = v :=
  fin8 (p := fun v => bits .or .u8 (v % 64) v = v ∧ bits .or .u8 (v % 32) v = v ∧ bits .or .u8 v v = v ∧ bits .or .u8 (v % 2 + bit (v / 64 % 2 == 1) 64 + bit (decide (128 ≤ v)) 128) v = v) or_fin9 v v0 v1
theorem write_ok (w : Ck) (k v : Int) (h : CkOk w) (hk : 8 ≤ k ∧ k ≤ 12) (v0 : 0 ≤ v) (v1 : v ≤ 255) : CkOk (writeN w k v) := by
  obtain ⟨s, m, hh, d, ht, cy⟩ := w
  obtain ⟨a1, a2, a3, a4, a5, a6, a7, a8⟩ := h
  simp only at a1 a2 a3 a4 a5 a6 a7 a8
  have : k = 8 ∨ k = 9 ∨ k = 10 ∨ k = 11 ∨ k = 12 := by omega
  rcases this with rfl | rfl | rfl | rfl | rfl
  · exact ⟨by show 0 ≤ v % 64; omega, by show v % 64 ≤ 63; omega, a3, a4, a5, a6, a7, a8⟩
  · exact ⟨a1, a2, by show 0 ≤ v % 64; omega, by show v % 64 ≤ 63; omega, a5, a6, a7, a8⟩
  · exact ⟨a1, a2, a3, a4, by show 0 ≤ v % 32; omega, by show v % 32 ≤ 31; omega, a7, a8⟩
  · exact ⟨a1, a2, a3, a4, a5, a6, by show 0 ≤ d / 256 * 256 + v; omega, by show d / 256 * 256 + v ≤ 511; omega⟩
  · exact ⟨a1, a2, a3, a4, a5, a6, by show 0 ≤ d % 256 + v % 2 * 256; omega, by show d % 256 + v % 2 * 256 ≤ 511; omega⟩
theorem read_write (w : Ck) (k i v : Int) (h : CkOk w) (hk : 8 ≤ k ∧ k ≤ 12) (hi : 8 ≤ i ∧ i ≤ 12) (v0 : 0 ≤ v) (v1 : v ≤ 255) : (i ≠ k → readV (writeN w k v) i = readV w i) ∧ (i = k → bits .or .u8 (readV (writeN w k v) i) v = v) := by
  obtain ⟨s, m, hh, d, ht, cy⟩ := w
  obtain ⟨a1, a2, a3, a4, a5, a6, a7, a8⟩ := h
  simp only at a1 a2 a3 a4 a5 a6 a7 a8
  obtain ⟨o1, o2, o3, o4⟩ := or_any9 v v0 v1
  have e11 : (d / 256 * 256 + v) % 256 = v := by omega
  have e12 : (d / 256 * 256 + v) / 256 = d / 256 := by omega
  have f11 : (d % 256 + v % 2 * 256) % 256 = d % 256 := by omega
  have f12 : (d % 256 + v % 2 * 256) / 256 = v % 2 := by omega
  have hk2 : k = 8 ∨ k = 9 ∨ k = 10 ∨ k = 11 ∨ k = 12 := by omega
  have hi2 : i = 8 ∨ i = 9 ∨ i = 10 ∨ i = 11 ∨ i = 12 := by omega
  rcases hk2 with rfl | rfl | rfl | rfl | rfl <;> rcases hi2 with rfl | rfl | rfl | rfl | rfl <;> refine ⟨fun q => ?_, fun q => ?_⟩ <;> first
    | exact absurd rfl q
    | (exfalso; omega)
    | rfl
    | exact o1
    | exact o2
    | (show bits .or .u8 ((d / 256 * 256 + v) % 256) v = v; rw [e11]; exact o3)
    | (show (d / 256 * 256 + v) / 256 + bit ht 64 + bit cy 128 = d / 256 + bit ht 64 + bit cy 128; rw [e12])
    | (show (d % 256 + v % 2 * 256) % 256 = d % 256; exact f11)
    | (show bits .or .u8 ((d % 256 + v % 2 * 256) / 256 + bit (v / 64 % 2 == 1) 64 + bit (decide (128 ≤ v)) 128) v = v; rw [f12]; exact o4)
theorem write_read (w : Ck) (k : Int) (h : CkOk w) (hk : 8 ≤ k ∧ k ≤ 12) : writeN w k (readV w k) = w := by
  obtain ⟨s, m, hh, d, ht, cy⟩ := w
  obtain ⟨b1, _⟩ := one_back ⟨s, m, hh, d, ht, cy⟩ h
  obtain ⟨a1, a2, a3, a4, a5, a6, a7, a8⟩ := h
  simp only at a1 a2 a3 a4 a5 a6 a7 a8
  have hk2 : k = 8 ∨ k = 9 ∨ k = 10 ∨ k = 11 ∨ k = 12 := by omega
  rcases hk2 with rfl | rfl | rfl | rfl | rfl
  · show (⟨s % 64, m, hh, d, ht, cy⟩ : Ck) = _; rw [show s % 64 = s by omega]
  · show (⟨s, m % 64, hh, d, ht, cy⟩ : Ck) = _; rw [show m % 64 = m by omega]
  · show (⟨s, m, hh % 32, d, ht, cy⟩ : Ck) = _; rw [show hh % 32 = hh by omega]
  · show (⟨s, m, hh, d / 256 * 256 + d % 256, ht, cy⟩ : Ck) = _; rw [show d / 256 * 256 + d % 256 = d by omega]
  · have e := b1
    have q4 := congrArg Ck.day e
    have q5 := congrArg Ck.halt e
    have q6 := congrArg Ck.carry e
    simp only at q4 q5 q6
    show (⟨s, m, hh, d % 256 + readV ⟨s, m, hh, d, ht, cy⟩ 12 % 2 * 256, readV ⟨s, m, hh, d, ht, cy⟩ 12 / 64 % 2 == 1, decide (128 ≤ readV ⟨s, m, hh, d, ht, cy⟩ 12)⟩ : Ck) = _
    rw [q5, q6]
    have e11 : readV ⟨s, m, hh, d, ht, cy⟩ 11 = d % 256 := rfl
    rw [e11] at q4
    rw [show d % 256 + readV ⟨s, m, hh, d, ht, cy⟩ 12 % 2 * 256 = d by omega]
end Go.Proofs.Ytpnidlibgpbjgab
