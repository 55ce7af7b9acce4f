/- Plain numbers of layer 19: a transfer as a record, and what follows. -/
import Derived.Test.YtoohpdnmdnjpaaaBits
namespace Go.Proofs.Ytoohpdnmdnjpaaa
open Go.RowKit
set_option linter.unusedVariables false
set_option linter.unusedSimpArgs false

structure Dm where
  on : Bool
  page : Int
  pos : Int
  wait : Int
  next : Int
structure DmIn (s : Dm) : Prop where
  p0 : 0 ≤ s.page
  p1 : s.page ≤ 255
  a0 : 0 ≤ s.pos
  a1 : s.pos ≤ 255
  w0 : 0 ≤ s.wait
  w1 : s.wait ≤ 255
  n0 : 0 ≤ s.next
  n1 : s.next ≤ 255
def plcD (a : Int) : Int := if 159 < a then 159 else a
def srcD (p a : Int) : Int := if 224 ≤ p then 256 * p + a - 8192 else 256 * p + a
def furD (s : Dm) : Dm := if 159 ≤ s.pos then ⟨false, s.page, 0, s.wait, s.next⟩ else ⟨s.on, s.page, s.pos + 1, s.wait, s.next⟩
def goD (s : Dm) : Dm := if s.on = true then furD s else s
def nearD (s : Dm) : Dm := if s.wait = 1 then ⟨true, s.next, 0, 0, s.next⟩ else ⟨s.on, s.page, s.pos, s.wait - 1, s.next⟩
def comeD (s : Dm) : Dm := if s.wait = 0 then s else nearD s
def stepD (s : Dm) : Dm := comeD (goD s)
def fromD (s : Dm) : Int := if s.on = true then srcD s.page (plcD s.pos) else 0
def toD (s : Dm) : Int := if s.on = true then plcD s.pos else 0
def askD (s : Dm) (v : Int) : Dm := ⟨s.on, s.page, s.pos, 2, v⟩
theorem plc_in {a : Int} (h0 : 0 ≤ a) : 0 ≤ plcD a ∧ plcD a ≤ 159 := by unfold plcD; split <;> omega
theorem plc_lt {a : Int} (h : a ≤ 159) : plcD a = a := by unfold plcD; rw [if_neg (by omega)]
theorem src_in {p a : Int} (p0 : 0 ≤ p) (p1 : p ≤ 255) (a0 : 0 ≤ a) (a1 : a ≤ 255) : 0 ≤ srcD p a ∧ srcD p a < 57344 := by unfold srcD; split <;> omega
theorem fur_in {s : Dm} (h : DmIn s) : DmIn (furD s) := by
  obtain ⟨p0, p1, a0, a1, w0, w1, n0, n1⟩ := h
  unfold furD
  split
  · exact ⟨p0, p1, Int.le_refl 0, (by decide : (0 : Int) ≤ 255), w0, w1, n0, n1⟩
  · exact ⟨p0, p1, (by show 0 ≤ s.pos + 1; omega), (by show s.pos + 1 ≤ 255; omega), w0, w1, n0, n1⟩
theorem go_in {s : Dm} (h : DmIn s) : DmIn (goD s) := by
  unfold goD
  split
  · exact fur_in h
  · exact h
theorem near_in {s : Dm} (h : DmIn s) (q : s.wait ≠ 0) : DmIn (nearD s) := by
  obtain ⟨p0, p1, a0, a1, w0, w1, n0, n1⟩ := h
  unfold nearD
  split
  · exact ⟨n0, n1, Int.le_refl 0, (by decide : (0 : Int) ≤ 255), Int.le_refl 0, (by decide : (0 : Int) ≤ 255), n0, n1⟩
  · exact ⟨p0, p1, a0, a1, (by show 0 ≤ s.wait - 1; omega), (by show s.wait - 1 ≤ 255; omega), n0, n1⟩
theorem come_in {s : Dm} (h : DmIn s) : DmIn (comeD s) := by
  unfold comeD
  split
  · exact h
  · rename_i q
    exact near_in h q
theorem step_inD {s : Dm} (h : DmIn s) : DmIn (stepD s) := come_in (go_in h)
theorem ask_inD {s : Dm} (h : DmIn s) {v : Int} (v0 : 0 ≤ v) (v1 : v ≤ 255) : DmIn (askD s v) := ⟨h.p0, h.p1, h.a0, h.a1, (by show (0 : Int) ≤ 2; decide), (by show (2 : Int) ≤ 255; decide), v0, v1⟩
theorem go_wait (s : Dm) : (goD s).wait = s.wait := by
  unfold goD furD
  split
  · split <;> rfl
  · rfl
theorem zero_inD : DmIn ⟨false, 0, 0, 0, 0⟩ := ⟨by decide, by decide, by decide, by decide, by decide, by decide, by decide, by decide⟩
/-- The transfer of the page v, behind j cycles since it was asked for. -/
def whE (v : Int) (j : Nat) : Dm := if j < 2 then ⟨false, 0, 0, 2 - (j : Int), v⟩ else if j < 162 then ⟨true, v, (j : Int) - 2, 0, v⟩ else ⟨false, v, 0, 0, v⟩
theorem wh_in (v : Int) (v0 : 0 ≤ v) (v1 : v ≤ 255) (j : Nat) : DmIn (whE v j) := by
  unfold whE
  split
  · exact ⟨Int.le_refl 0, (by decide : (0 : Int) ≤ 255), Int.le_refl 0, (by decide : (0 : Int) ≤ 255), (by show 0 ≤ 2 - (j : Int); omega), (by show 2 - (j : Int) ≤ 255; omega), v0, v1⟩
  · split
    · exact ⟨v0, v1, (by show 0 ≤ (j : Int) - 2; omega), (by show (j : Int) - 2 ≤ 255; omega), Int.le_refl 0, (by decide : (0 : Int) ≤ 255), v0, v1⟩
    · exact ⟨v0, v1, Int.le_refl 0, (by decide : (0 : Int) ≤ 255), Int.le_refl 0, (by decide : (0 : Int) ≤ 255), v0, v1⟩
theorem wh_0 (v : Int) : askD ⟨false, 0, 0, 0, 0⟩ v = whE v 0 := rfl
theorem wh_low (v : Int) (j : Nat) (h : j < 2) : whE v j = ⟨false, 0, 0, 2 - (j : Int), v⟩ := by unfold whE; rw [if_pos h]
theorem wh_mid (v : Int) (j : Nat) (h : 2 ≤ j) (h2 : j < 162) : whE v j = ⟨true, v, (j : Int) - 2, 0, v⟩ := by unfold whE; rw [if_neg (by omega), if_pos h2]
theorem wh_end (v : Int) (j : Nat) (h : 162 ≤ j) : whE v j = ⟨false, v, 0, 0, v⟩ := by unfold whE; rw [if_neg (by omega), if_neg (by omega)]
theorem wh_next (v : Int) (j : Nat) : stepD (whE v j) = whE v (j + 1) := by
  by_cases h0 : j = 0
  · subst h0; rfl
  by_cases h1 : j = 1
  · subst h1; rfl
  by_cases h2 : j < 162
  · rw [wh_mid v j (by omega) h2]
    by_cases h3 : j = 161
    · subst h3; rfl
    · rw [wh_mid v (j + 1) (by omega) (by omega)]
      unfold stepD goD furD comeD
      rw [if_pos rfl, if_neg (show ¬ 159 ≤ (j : Int) - 2 by omega), if_pos rfl]
      congr 1
      push_cast
      omega
  · rw [wh_end v j (by omega), wh_end v (j + 1) (by omega)]
    rfl
def inW (j : Nat) : Bool := decide (2 ≤ j ∧ j < 162)
theorem wh_on (v : Int) (j : Nat) : (whE v j).on = inW j := by
  unfold inW
  by_cases h0 : j < 2
  · rw [wh_low v j h0]; exact (decide_eq_false (by omega)).symm
  by_cases h1 : j < 162
  · rw [wh_mid v j (by omega) h1]; exact (decide_eq_true (by omega)).symm
  · rw [wh_end v j (by omega)]; exact (decide_eq_false (by omega)).symm
/-- What a cycle tells while a transfer goes on. -/
theorem wh_to (v : Int) (j : Nat) (h : 2 ≤ j) (h2 : j < 162) : toD (whE v j) = (j : Int) - 2 ∧ fromD (whE v j) = srcD v ((j : Int) - 2) := by
  rw [wh_mid v j h h2]
  have e : plcD ((j : Int) - 2) = (j : Int) - 2 := plc_lt (by omega)
  exact ⟨e, congrArg (srcD v) e⟩
theorem wh_no (v : Int) (j : Nat) (h : ¬ (2 ≤ j ∧ j < 162)) : toD (whE v j) = 0 ∧ fromD (whE v j) = 0 := by
  by_cases h0 : j < 2
  · rw [wh_low v j h0]; exact ⟨rfl, rfl⟩
  · rw [wh_end v j (by omega)]; exact ⟨rfl, rfl⟩
/-- Behind k cycles of the page v the page x was asked for, and i cycles more have gone by. -/
def agE (v x : Int) (k i : Nat) : Dm := if i < 2 then (if k < 2 then ⟨false, 0, 0, 2 - (i : Int), x⟩ else ⟨true, v, (k : Int) - 2 + (i : Int), 2 - (i : Int), x⟩) else whE x i
theorem ag_lowA (v x : Int) (k i : Nat) (h : i < 2) (hk : k < 2) : agE v x k i = ⟨false, 0, 0, 2 - (i : Int), x⟩ := by unfold agE; rw [if_pos h, if_pos hk]
theorem ag_lowB (v x : Int) (k i : Nat) (h : i < 2) (hk : 2 ≤ k) : agE v x k i = ⟨true, v, (k : Int) - 2 + (i : Int), 2 - (i : Int), x⟩ := by unfold agE; rw [if_pos h, if_neg (by omega)]
theorem ag_high (v x : Int) (k i : Nat) (h : 2 ≤ i) : agE v x k i = whE x i := by unfold agE; rw [if_neg (by omega)]
theorem ag_0 (v x : Int) (k : Nat) (h1 : 1 ≤ k) (h2 : k ≤ 150) : askD (whE v k) x = agE v x k 0 := by
  by_cases h : k < 2
  · rw [wh_low v k h, ag_lowA v x k 0 (by decide) h]; rfl
  · rw [wh_mid v k (by omega) (by omega), ag_lowB v x k 0 (by decide) (by omega)]
    show (⟨true, v, (k : Int) - 2, 2, x⟩ : Dm) = _
    congr 1
    omega
theorem ag_in (v x : Int) (v0 : 0 ≤ v) (v1 : v ≤ 255) (x0 : 0 ≤ x) (x1 : x ≤ 255) (k i : Nat) (h2 : k ≤ 150) : DmIn (agE v x k i) := by
  unfold agE
  split
  · split
    · exact ⟨Int.le_refl 0, (by decide : (0 : Int) ≤ 255), Int.le_refl 0, (by decide : (0 : Int) ≤ 255), (by show 0 ≤ 2 - (i : Int); omega), (by show 2 - (i : Int) ≤ 255; omega), x0, x1⟩
    · exact ⟨v0, v1, (by show 0 ≤ (k : Int) - 2 + (i : Int); omega), (by show (k : Int) - 2 + (i : Int) ≤ 255; omega), (by show 0 ≤ 2 - (i : Int); omega), (by show 2 - (i : Int) ≤ 255; omega), x0, x1⟩
  · exact wh_in x x0 x1 i
theorem ag_next (v x : Int) (k i : Nat) (h2 : k ≤ 150) : stepD (agE v x k i) = agE v x k (i + 1) := by
  by_cases h : 2 ≤ i
  · rw [ag_high v x k i h, ag_high v x k (i + 1) (by omega)]
    exact wh_next x i
  have hi : i = 0 ∨ i = 1 := by omega
  by_cases hk : k < 2
  · rw [ag_lowA v x k i (by omega) hk]
    rcases hi with rfl | rfl
    · rw [ag_lowA v x k 1 (by decide) hk]; rfl
    · rw [ag_high v x k 2 (by decide), wh_mid x 2 (by decide) (by decide)]; rfl
  · rw [ag_lowB v x k i (by omega) (by omega)]
    unfold stepD goD furD
    rw [if_pos rfl, if_neg (show ¬ 159 ≤ (k : Int) - 2 + (i : Int) by omega)]
    rcases hi with rfl | rfl
    · rw [ag_lowB v x k 1 (by decide) (by omega)]
      show (⟨true, v, (k : Int) - 2 + 0 + 1, 1, x⟩ : Dm) = ⟨true, v, (k : Int) - 2 + 1, 1, x⟩
      congr 1
      omega
    · rw [ag_high v x k 2 (by decide), wh_mid x 2 (by decide) (by decide)]; rfl
theorem ag_lowto (v x : Int) (k i : Nat) (h : i < 2) (hk : 2 ≤ k) (h2 : k ≤ 150) : (agE v x k i).on = true ∧ toD (agE v x k i) = (k : Int) - 2 + (i : Int) ∧ fromD (agE v x k i) = srcD v ((k : Int) - 2 + (i : Int)) := by
  rw [ag_lowB v x k i h hk]
  have e : plcD ((k : Int) - 2 + (i : Int)) = (k : Int) - 2 + (i : Int) := plc_lt (by omega)
  exact ⟨rfl, e, congrArg (srcD v) e⟩
theorem ag_lowno (v x : Int) (k i : Nat) (h : i < 2) (hk : k < 2) : (agE v x k i).on = false ∧ toD (agE v x k i) = 0 ∧ fromD (agE v x k i) = 0 := by
  rw [ag_lowA v x k i h hk]
  exact ⟨rfl, rfl, rfl⟩
theorem ag_to (v x : Int) (k i : Nat) (h : 2 ≤ i) (h2 : i < 162) : (agE v x k i).on = true ∧ toD (agE v x k i) = (i : Int) - 2 ∧ fromD (agE v x k i) = srcD x ((i : Int) - 2) := by
  rw [ag_high v x k i h]
  refine ⟨?_, wh_to x i h h2⟩
  rw [wh_mid x i h h2]
theorem ag_end (v x : Int) (k : Nat) : agE v x k 162 = ⟨false, x, 0, 0, x⟩ := by
  rw [ag_high v x k 162 (by decide), wh_end x 162 (by decide)]
end Go.Proofs.Ytoohpdnmdnjpaaa
