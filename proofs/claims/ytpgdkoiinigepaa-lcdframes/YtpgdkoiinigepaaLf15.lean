/- Plain numbers of layer 15: the picture behind j dots; a line's modes counted; rises. -/
import Derived.Test.YtpgdkoiinigepaaLc15
namespace Go.Proofs.Ytpgdkoiinigepaa
open Go.RowKit
set_option linter.unusedVariables false
set_option linter.unusedSimpArgs false

/-- The picture stands where it stands j dots behind its beginning. -/
structure AtF (j : Nat) (l : Lc) : Prop where
  on : l.on = true
  line : l.line = ((j / 456 % 154 : Nat) : Int)
  dot : l.dot = ((j % 456 : Nat) : Int)
  inn : LcIn l
theorem step_line (l : Lc) (x : Int) (h : l.on = true) : (stepL l x).line = (onL l).line := by
  unfold stepL; rw [if_pos h]; exact ex_line _ _
theorem step_dot (l : Lc) (x : Int) (h : l.on = true) : (stepL l x).dot = (onL l).dot := by
  unfold stepL; rw [if_pos h]; exact ex_dot _ _
theorem step_on (l : Lc) (x : Int) : (stepL l x).on = l.on := by
  unfold stepL
  split
  · exact (ex_on _ _).trans (on_on l)
  · rfl
theorem on_at (j : Nat) (l : Lc) (hj : j < 70224) (h : AtF j l) : (onL l).line = (((j + 1) / 456 % 154 : Nat) : Int) ∧ (onL l).dot = (((j + 1) % 456 : Nat) : Int) := by
  have h1 := h.line
  have h2 := h.dot
  unfold onL
  by_cases q : j % 456 < 455
  · rw [if_pos (by omega)]
    refine ⟨?_, ?_⟩
    · show l.line = _; rw [h1]; omega
    · show l.dot + 1 = _; rw [h2]; omega
  · rw [if_neg (by omega)]
    by_cases r : j / 456 < 153
    · rw [if_pos (by omega)]
      refine ⟨?_, ?_⟩
      · show l.line + 1 = _; rw [h1]; omega
      · show (0 : Int) = _; omega
    · rw [if_neg (by omega)]
      refine ⟨?_, ?_⟩
      · show (0 : Int) = _; omega
      · show (0 : Int) = _; omega
theorem at_next (j : Nat) (l : Lc) (x : Int) (hj : j < 70224) (h : AtF j l) (hx : 0 ≤ x) : AtF (j + 1) (stepL l x) := by
  obtain ⟨e1, e2⟩ := on_at j l hj h
  exact ⟨(step_on l x).trans h.on, (step_line l x h.on).trans e1, (step_dot l x h.on).trans e2, step_in h.inn x hx⟩
def fN (j : Nat) : Int := if 65664 ≤ j then 1 else 0
def dN (j : Nat) : Int := if j < 65664 then (((j + 376) / 456 : Nat) : Int) else 144
theorem at_frame (j : Nat) (l : Lc) (hj : j < 70224) (h : AtF j l) : stepF l = decide (j = 65663) := by
  obtain ⟨e1, e2⟩ := on_at j l hj h
  unfold stepF frameL
  rw [h.on, e1, e2, Bool.true_and]
  by_cases q : j = 65663
  · subst q; rfl
  · rw [decide_eq_false q]
    by_cases r : (j + 1) % 456 = 0
    · rw [show ((((j + 1) / 456 % 154 : Nat) : Int) == 144) = false by simp; omega, Bool.false_and]
    · rw [show ((((j + 1) % 456 : Nat) : Int) == 0) = false by simp; omega, Bool.and_false]
theorem at_draw (j : Nat) (l : Lc) (hj : j < 70224) (h : AtF j l) : stepD l = decide (j % 456 = 79 ∧ j < 65664) := by
  obtain ⟨e1, e2⟩ := on_at j l hj h
  unfold stepD drawL
  rw [h.on, e1, e2, Bool.true_and]
  by_cases q : j % 456 = 79 ∧ j < 65664
  · rw [decide_eq_true q, decide_eq_true (by omega), Bool.true_and]; simp; omega
  · rw [decide_eq_false q]
    by_cases r : j % 456 = 79
    · rw [decide_eq_false (by omega), Bool.false_and]
    · rw [show ((((j + 1) % 456 : Nat) : Int) == 80) = false by simp; omega, Bool.and_false]
theorem fN_0 : fN 0 = 0 := rfl
theorem dN_0 : dN 0 = 0 := rfl
theorem fN_end : fN 70224 = 1 := rfl
theorem dN_end : dN 70224 = 144 := rfl
theorem fN_at (j : Nat) (h : j = 65663) : fN (j + 1) = fN j + 1 := by subst h; rfl
theorem fN_no (j : Nat) (h : j ≠ 65663) : fN (j + 1) = fN j := by
  unfold fN
  by_cases q : 65664 ≤ j
  · rw [if_pos q, if_pos (by omega)]
  · rw [if_neg q, if_neg (by omega)]
theorem dN_at (j : Nat) (h : j % 456 = 79 ∧ j < 65664) : dN (j + 1) = dN j + 1 := by
  unfold dN
  rw [if_pos h.2]
  by_cases q : j + 1 < 65664
  · rw [if_pos q]; omega
  · omega
theorem dN_no (j : Nat) (h : ¬ (j % 456 = 79 ∧ j < 65664)) : dN (j + 1) = dN j := by
  unfold dN
  by_cases q : j < 65664
  · rw [if_pos q]
    by_cases r : j + 1 < 65664
    · rw [if_pos r]; omega
    · rw [if_neg r]; omega
  · rw [if_neg q, if_neg (by omega)]
theorem fN_in (j : Nat) : 0 ≤ fN j ∧ fN j ≤ 1 := by unfold fN; split <;> decide
theorem dN_in (j : Nat) : 0 ≤ dN j ∧ dN j ≤ 144 := by unfold dN; split <;> omega
theorem at_mode3 (j : Nat) (l : Lc) (h : AtF (j + 1) l) (q : j % 456 = 79 ∧ j < 65664) : modeL l = 3 := by
  have h1 := h.line
  have h2 := h.dot
  have h3 := h.inn.e0
  unfold modeL
  rw [if_pos h.on, if_neg (by omega), if_neg (by omega), if_pos (by omega)]
theorem at_end (l : Lc) (h : AtF 70224 l) : l.line = 0 ∧ l.dot = 0 ∧ modeL l = 2 := by
  have h1 : l.line = 0 := h.line
  have h2 : l.dot = 0 := h.dot
  refine ⟨h1, h2, ?_⟩
  unfold modeL
  rw [if_pos h.on, h1, h2]
  rfl
theorem at_begin (l : Lc) (I : LcIn l) : AtF 0 (setL (bareL l true)) := ⟨rfl, rfl, rfl, set_in (bare_in I true)⟩
/-- The picture within the line behind b, j dots behind its beginning: its line's number, its dot (that of the line ahead at first), its extra dots. -/
structure AtL (b x : Int) (j : Nat) (l : Lc) : Prop where
  on : l.on = true
  line : l.line = if j = 0 then b else b + 1
  dot : l.dot = if j = 0 then 455 else (j : Int) - 1
  ext : l.extra = if 80 < j ∧ b + 1 < 144 then mostL x else 0
  inn : LcIn l
theorem lin_next (b x : Int) (j : Nat) (l : Lc) (b0 : 0 ≤ b) (b1 : b ≤ 152) (x0 : 0 ≤ x) (hj : j < 456) (h : AtL b x j l) : AtL b x (j + 1) (stepL l x) := by
  have h1 := h.line
  have h2 := h.dot
  have h3 := h.ext
  have on := (step_on l x).trans h.on
  have inn := step_in h.inn x x0
  have k1 : (onL l).line = b + 1 ∧ (onL l).dot = (j : Int) ∧ (onL l).extra = l.extra := by
    unfold onL
    by_cases q : j = 0
    · rw [if_pos q] at h1 h2
      rw [if_neg (by omega), if_pos (by omega)]
      exact ⟨by show l.line + 1 = _; omega, by show (0 : Int) = _; omega, rfl⟩
    · rw [if_neg q] at h1 h2
      rw [if_pos (by omega)]
      exact ⟨h1, by show l.dot + 1 = _; omega, rfl⟩
  refine ⟨on, ?_, ?_, ?_, inn⟩
  · rw [step_line l x h.on, k1.1, if_neg (by omega)]
  · rw [step_dot l x h.on, k1.2.1, if_neg (by omega)]; omega
  · unfold stepL
    rw [if_pos h.on]
    show (exL (onL l) x).extra = _
    unfold exL drawL
    rw [k1.1, k1.2.1]
    by_cases q : b + 1 < 144
    · by_cases r : j = 80
      · subst r
        rw [if_pos (by rw [decide_eq_true q]; rfl), if_pos ⟨by omega, q⟩]
      · rw [if_neg (by rw [show ((j : Int) == 80) = false by simp; omega, Bool.and_false]; decide), k1.2.2, h3]
        by_cases t : 80 < j
        · rw [if_pos ⟨t, q⟩, if_pos ⟨by omega, q⟩]
        · rw [if_neg (fun e => t e.1), if_neg (by omega)]
    · rw [if_neg (by rw [decide_eq_false q, Bool.false_and]; decide), k1.2.2, h3, if_neg (fun e => q e.2), if_neg (fun e => q e.2)]
/-- The mode behind j + 1 dots of such a line. -/
def lineM (b x : Int) (j : Nat) : Int := if 143 ≤ b then 1 else if j < 80 then 2 else if (j : Int) < 252 + mostL x then 3 else 0
theorem lin_mode (b x : Int) (j : Nat) (l : Lc) (b0 : 0 ≤ b) (x0 : 0 ≤ x) (h : AtL b x (j + 1) l) : modeL l = lineM b x j := by
  have h1 := h.line
  have h2 := h.dot
  have h3 := h.ext
  have m := most_in x x0
  rw [if_neg (by omega)] at h1 h2
  unfold modeL lineM
  rw [if_pos h.on]
  by_cases q : 143 ≤ b
  · rw [if_pos q, if_pos (by omega)]
  · rw [if_neg q, if_neg (by omega)]
    by_cases r : j < 80
    · rw [if_pos r, if_pos (by omega)]
    · rw [if_neg r, if_neg (by omega)]
      rw [if_pos ⟨by omega, by omega⟩] at h3
      by_cases t : (j : Int) < 252 + mostL x
      · rw [if_pos t, if_pos (by omega)]
      · rw [if_neg t, if_neg (by omega)]
theorem lin_dot (b x : Int) (j : Nat) (l : Lc) (h : AtL b x (j + 1) l) : l.dot = (j : Int) := by
  have h2 := h.dot
  rw [if_neg (by omega)] at h2
  omega
/-- How many dots of each mode there were, the last one's mode, and how often it turned, behind j dots. -/
def cnt0 (b x : Int) (j : Nat) : Int := if 143 ≤ b then 0 else if (j : Int) ≤ 252 + mostL x then 0 else (j : Int) - (252 + mostL x)
def cnt1 (b : Int) (j : Nat) : Int := if 143 ≤ b then (j : Int) else 0
def cnt2 (b : Int) (j : Nat) : Int := if 143 ≤ b then 0 else if j ≤ 80 then (j : Int) else 80
def cnt3 (b x : Int) (j : Nat) : Int := if 143 ≤ b then 0 else if j ≤ 80 then 0 else if (j : Int) ≤ 252 + mostL x then (j : Int) - 80 else 172 + mostL x
def lastM (b x : Int) (j : Nat) : Int := if j = 0 then -1 else lineM b x (j - 1)
def turnM (b x : Int) (j : Nat) : Int := if j = 0 then 0 else if 143 ≤ b then 1 else if j ≤ 80 then 1 else if (j : Int) ≤ 252 + mostL x then 2 else 3
/-- What the round j does to them. -/
theorem lin_count (b x : Int) (j : Nat) (x0 : 0 ≤ x) : cnt0 b x (j + 1) = cnt0 b x j + (if lineM b x j = 0 then 1 else 0) ∧ cnt1 b (j + 1) = cnt1 b j + (if lineM b x j = 1 then 1 else 0) ∧ cnt2 b (j + 1) = cnt2 b j + (if lineM b x j = 2 then 1 else 0) ∧ cnt3 b x (j + 1) = cnt3 b x j + (if lineM b x j = 3 then 1 else 0) := by
  have m := most_in x x0
  have k : ∀ P : Int → Prop, (143 ≤ b → P 1) → (¬ 143 ≤ b → j < 80 → P 2) → (¬ 143 ≤ b → ¬ j < 80 → (j : Int) < 252 + mostL x → P 3) → (¬ 143 ≤ b → ¬ j < 80 → ¬ (j : Int) < 252 + mostL x → P 0) → P (lineM b x j) := by
    intro P p1 p2 p3 p0
    unfold lineM
    split
    · exact p1 (by assumption)
    · split
      · exact p2 (by assumption) (by assumption)
      · split
        · exact p3 (by assumption) (by assumption) (by assumption)
        · exact p0 (by assumption) (by assumption) (by assumption)
  unfold cnt0 cnt1 cnt2 cnt3
  refine k (fun y => _ = _ + (if y = 0 then 1 else 0) ∧ _ = _ + (if y = 1 then 1 else 0) ∧ _ = _ + (if y = 2 then 1 else 0) ∧ _ = _ + (if y = 3 then 1 else 0)) ?_ ?_ ?_ ?_ <;> intros <;> simp <;> refine ⟨?_, ?_, ?_, ?_⟩ <;> (repeat' split) <;> omega
theorem lin_turn (b x : Int) (j : Nat) (x0 : 0 ≤ x) : lastM b x (j + 1) = lineM b x j ∧ turnM b x (j + 1) = turnM b x j + (if lineM b x j = lastM b x j then 0 else 1) := by
  have m := most_in x x0
  refine ⟨by unfold lastM; rw [if_neg (by omega)]; rfl, ?_⟩
  have e : ∀ p : Bool, (decide (lineM b x j = lastM b x j) = p) → (if lineM b x j = lastM b x j then (0 : Int) else 1) = if p = true then 0 else 1 := by
    intro p hp
    subst hp
    by_cases q : lineM b x j = lastM b x j
    · rw [if_pos q, if_pos (decide_eq_true q)]
    · rw [if_neg q, if_neg (by simpa using q)]
  by_cases q : 143 ≤ b
  · by_cases z : j = 0
    · subst z
      rw [e false (by unfold lineM lastM; rw [if_pos q]; rfl)]
      unfold turnM; simp [q]
    · rw [e true (by unfold lineM lastM; rw [if_neg z]; unfold lineM; rw [if_pos q, if_pos q]; rfl)]
      unfold turnM; simp [q, z]
  · by_cases z : j = 0
    · subst z
      rw [e false (by unfold lineM lastM; rw [if_neg q]; rfl)]
      unfold turnM; simp [q]
    · have h0 : lastM b x j = lineM b x (j - 1) := by unfold lastM; rw [if_neg z]
      by_cases r : j < 80
      · rw [e true (by rw [h0]; unfold lineM; rw [if_neg q, if_pos r, if_neg q, if_pos (by omega)]; rfl)]
        unfold turnM; simp only [if_neg q, if_neg z]
        rw [if_neg (by omega), if_pos (by omega), if_pos (by omega)]; rfl
      by_cases r2 : j = 80
      · rw [e false (by rw [h0]; unfold lineM; rw [if_neg q, if_neg r, if_neg q, if_pos (show j - 1 < 80 by omega)]; split <;> rfl)]
        unfold turnM; simp only [if_neg q, if_neg z]
        rw [if_neg (by omega), if_neg (by omega), if_pos (by omega), if_pos (by omega)]; rfl
      by_cases t : (j : Int) < 252 + mostL x
      · rw [e true (by rw [h0]; unfold lineM; rw [if_neg q, if_neg r, if_pos t, if_neg q, if_neg (show ¬ j - 1 < 80 by omega), if_pos (by omega)]; rfl)]
        unfold turnM; simp only [if_neg q, if_neg z]
        rw [if_neg (by omega), if_neg (by omega), if_pos (by omega), if_neg (by omega), if_pos (by omega)]; rfl
      by_cases t2 : (j : Int) = 252 + mostL x
      · rw [e false (by rw [h0]; unfold lineM; rw [if_neg q, if_neg r, if_neg t, if_neg q, if_neg (show ¬ j - 1 < 80 by omega), if_pos (by omega)]; rfl)]
        unfold turnM; simp only [if_neg q, if_neg z]
        rw [if_neg (by omega), if_neg (by omega), if_neg (by omega), if_neg (by omega), if_pos (by omega)]; rfl
      · rw [e true (by rw [h0]; unfold lineM; rw [if_neg q, if_neg r, if_neg t, if_neg q, if_neg (show ¬ j - 1 < 80 by omega), if_neg (by omega)]; rfl)]
        unfold turnM; simp only [if_neg q, if_neg z]
        rw [if_neg (by omega), if_neg (by omega), if_neg (by omega), if_neg (by omega), if_neg (by omega)]; rfl
theorem lin_mode_cases (b x : Int) (j : Nat) : lineM b x j = 0 ∨ lineM b x j = 1 ∨ lineM b x j = 2 ∨ lineM b x j = 3 := by
  unfold lineM
  split
  · exact .inr (.inl rfl)
  · split
    · exact .inr (.inr (.inl rfl))
    · split
      · exact .inr (.inr (.inr rfl))
      · exact .inl rfl
theorem lin_start (b x : Int) (b0 : 0 ≤ b) (b1 : b ≤ 152) : AtL b x 0 ⟨true, b, 455, 0, 0, false, 0⟩ :=
  ⟨rfl, rfl, rfl, by rw [if_neg (by omega)], ⟨b0, by show b ≤ 255; omega, (by decide : (0 : Int) ≤ 455), (by decide : (455 : Int) ≤ 65535), Int.le_refl 0, (by decide : (0 : Int) ≤ 255), Int.le_refl 0, (by decide : (0 : Int) ≤ 255), Int.le_refl 0, (by decide : (0 : Int) ≤ 65535)⟩⟩
theorem lin_end (b x : Int) (x0 : 0 ≤ x) (h : ¬ 143 ≤ b) : cnt0 b x 456 = 376 - (172 + mostL x) ∧ cnt1 b 456 = 0 ∧ cnt2 b 456 = 80 ∧ cnt3 b x 456 = 172 + mostL x ∧ turnM b x 456 = 3 ∧ lastM b x 456 = 0 := by
  have m := most_in x x0
  unfold cnt0 cnt1 cnt2 cnt3 turnM lastM lineM
  simp only [if_neg h]
  refine ⟨?_, by first | trivial | rfl, by first | trivial | rfl, ?_, ?_, ?_⟩
  · rw [if_neg (by omega)]; omega
  · rw [if_neg (by decide), if_neg (by omega)]
  · rw [if_neg (by decide), if_neg (by decide), if_neg (by omega)]
  · rw [if_neg (by decide), if_neg (by decide), if_neg (by omega)]
theorem lin_end1 (b : Int) (h : 143 ≤ b) : cnt1 b 456 = 456 := by unfold cnt1; rw [if_pos h]; rfl
theorem cnt_in (b x : Int) (j : Nat) (x0 : 0 ≤ x) (hj : j ≤ 456) : (0 ≤ cnt0 b x j ∧ cnt0 b x j ≤ 456) ∧ (0 ≤ cnt1 b j ∧ cnt1 b j ≤ 456) ∧ (0 ≤ cnt2 b j ∧ cnt2 b j ≤ 456) ∧ (0 ≤ cnt3 b x j ∧ cnt3 b x j ≤ 456) ∧ (0 ≤ turnM b x j ∧ turnM b x j ≤ 3) := by
  have m := most_in x x0
  unfold cnt0 cnt1 cnt2 cnt3 turnM
  refine ⟨?_, ?_, ?_, ?_, ?_⟩ <;> (repeat' split) <;> omega
/-- What a dot tells of the line of all sources. -/
theorem once_on (l : Lc) (x : Int) (h : l.on = true) : (stepL l x).high = srcL (stepL l x) ∧ stepR l x = (srcL (stepL l x) && !l.high) := by
  unfold stepR stepL
  rw [h, if_pos rfl, Bool.true_and]
  refine ⟨rfl, ?_⟩
  unfold riseL
  rw [ex_high, on_high]
  rfl
theorem once_off (l : Lc) (x : Int) (h : l.on = false) : stepL l x = l ∧ stepR l x = false ∧ stepF l = false ∧ stepD l = false := by
  unfold stepR stepF stepD stepL
  rw [h]
  exact ⟨rfl, rfl, rfl, rfl⟩
end Go.Proofs.Ytpgdkoiinigepaa
