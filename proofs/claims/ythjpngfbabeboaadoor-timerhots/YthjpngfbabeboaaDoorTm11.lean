/- Plain numbers of layer 11: a timer as a record, and what follows. -/
import Derived.Test.YthjpngfbabeboaaDoorBits
namespace Go.Proofs.YthjpngfbabeboaaDoor
open Go.RowKit
set_option linter.unusedVariables false
set_option linter.unusedSimpArgs false

structure Tm where
  div : Int
  tima : Int
  tma : Int
  tac : Int
  st : Int
def tm0 : Tm := ⟨0, 0, 0, 0, 0⟩
structure TmIn (t : Tm) : Prop where
  d0 : 0 ≤ t.div
  d1 : t.div ≤ 65535
  a0 : 0 ≤ t.tima
  a1 : t.tima ≤ 255
  m0 : 0 ≤ t.tma
  m1 : t.tma ≤ 255
  c0 : 0 ≤ t.tac
  c1 : t.tac ≤ 255
  s0 : 0 ≤ t.st
  s1 : t.st ≤ 255
/-- 2 to the chosen bit. -/
def pwT (c : Int) : Int := if c % 4 = 0 then 512 else if c % 4 = 1 then 8 else if c % 4 = 2 then 32 else 128
def onT (c : Int) : Bool := c / 4 % 2 == 1
def hotT (t : Tm) : Bool := onT t.tac && (t.div / pwT t.tac % 2 == 1)
def countT (t : Tm) : Tm := if t.tima = 255 then { t with tima := 0, st := 1 } else { t with tima := t.tima + 1 }
def firstT (t : Tm) : Tm := if t.st = 1 then { t with tima := t.tma, st := 2 } else { t with st := 0 }
def nextT (t : Tm) : Tm := { firstT t with div := (t.div + 4) % 65536 }
def stepT (t : Tm) : Tm := if hotT t = true ∧ hotT (nextT t) = false then countT (nextT t) else nextT t
def askT (t : Tm) : Bool := t.st == 1
def readT (t : Tm) (a : Int) : Int := if a = 65284 then t.div / 256 else if a = 65285 then t.tima else if a = 65286 then t.tma else if a = 65287 then 248 + t.tac % 8 else 255
def fallT (t u : Tm) : Tm := if hotT t = true ∧ hotT u = false then countT u else u
def writeT (t : Tm) (a v : Int) : Tm :=
  if a = 65284 then fallT t { t with div := 0 }
  else if a = 65285 then (if t.st = 1 then { t with tima := v, st := 0 } else if t.st = 2 then t else { t with tima := v })
  else if a = 65286 then (if t.st = 2 then { t with tma := v, tima := v } else { t with tma := v })
  else if a = 65287 then fallT t { t with tac := v % 8 } else t
theorem pw_cases (c : Int) : pwT c = 512 ∨ pwT c = 8 ∨ pwT c = 32 ∨ pwT c = 128 := by
  unfold pwT
  split
  · exact .inl rfl
  split
  · exact .inr (.inl rfl)
  split
  · exact .inr (.inr (.inl rfl))
  · exact .inr (.inr (.inr rfl))
theorem count_in {t : Tm} (h : TmIn t) : TmIn (countT t) := by
  obtain ⟨h0, h1, h2, h3, h4, h5, h6, h7, h8, h9⟩ := h
  unfold countT; split
  · exact ⟨h0, h1, Int.le_refl 0, (by decide : (0 : Int) ≤ 255), h4, h5, h6, h7, (by decide : (0 : Int) ≤ 1), (by decide : (1 : Int) ≤ 255)⟩
  · exact ⟨h0, h1, by show 0 ≤ t.tima + 1; omega, by show t.tima + 1 ≤ 255; omega, h4, h5, h6, h7, h8, h9⟩
theorem next_in {t : Tm} (h : TmIn t) : TmIn (nextT t) := by
  obtain ⟨h0, h1, h2, h3, h4, h5, h6, h7, h8, h9⟩ := h
  unfold nextT firstT; split
  · exact ⟨by show 0 ≤ (t.div + 4) % 65536; omega, by show (t.div + 4) % 65536 ≤ 65535; omega, h4, h5, h4, h5, h6, h7, (by decide : (0 : Int) ≤ 2), (by decide : (2 : Int) ≤ 255)⟩
  · exact ⟨by show 0 ≤ (t.div + 4) % 65536; omega, by show (t.div + 4) % 65536 ≤ 65535; omega, h2, h3, h4, h5, h6, h7, Int.le_refl 0, (by decide : (0 : Int) ≤ 255)⟩
theorem step_in {t : Tm} (h : TmIn t) : TmIn (stepT t) := by
  unfold stepT; split
  · exact count_in (next_in h)
  · exact next_in h
theorem count_div (t : Tm) : (countT t).div = t.div ∧ (countT t).tma = t.tma ∧ (countT t).tac = t.tac := by unfold countT; split <;> exact ⟨rfl, rfl, rfl⟩
theorem next_div (t : Tm) : (nextT t).div = (t.div + 4) % 65536 ∧ (nextT t).tma = t.tma ∧ (nextT t).tac = t.tac := by unfold nextT firstT; split <;> exact ⟨rfl, rfl, rfl⟩
theorem step_div (t : Tm) : (stepT t).div = (t.div + 4) % 65536 ∧ (stepT t).tma = t.tma ∧ (stepT t).tac = t.tac := by
  unfold stepT; split
  · obtain ⟨a, b, c⟩ := count_div (nextT t); obtain ⟨d, e, f⟩ := next_div t; exact ⟨a.trans d, b.trans e, c.trans f⟩
  · exact next_div t
def stepN (t : Tm) : Nat → Tm
  | 0 => t
  | n + 1 => stepT (stepN t n)
theorem stepN_in {t : Tm} (h : TmIn t) : ∀ n, TmIn (stepN t n)
  | 0 => h
  | n + 1 => step_in (stepN_in h n)
theorem stepN_div {t : Tm} (h : TmIn t) (n : Nat) : (stepN t n).div = (t.div + 4 * (n : Int)) % 65536 ∧ (stepN t n).tma = t.tma ∧ (stepN t n).tac = t.tac := by
  induction n with
  | zero => refine ⟨?_, rfl, rfl⟩; have := h.d0; have := h.d1; show t.div = _; omega
  | succ n ih =>
    obtain ⟨a, b, c⟩ := step_div (stepN t n)
    obtain ⟨d, e, f⟩ := ih
    refine ⟨?_, b.trans e, c.trans f⟩
    show (stepT (stepN t n)).div = _
    rw [a, d]
    omega
/-- A line that comes round: it falls just where the whole round is done. -/
theorem falls_iff (p x : Int) (hp : p = 512 ∨ p = 8 ∨ p = 32 ∨ p = 128) (hx : 0 ≤ x) : ((x % 65536) / p % 2 = 1 ∧ ¬ ((x + 4) % 65536) / p % 2 = 1) ↔ (x + 4) / (2 * p) = x / (2 * p) + 1 := by
  rcases hp with rfl | rfl | rfl | rfl <;> omega
theorem falls_not (p x : Int) (hp : p = 512 ∨ p = 8 ∨ p = 32 ∨ p = 128) (hx : 0 ≤ x) (h : ¬ (x + 4) / (2 * p) = x / (2 * p) + 1) : (x + 4) / (2 * p) = x / (2 * p) := by
  rcases hp with rfl | rfl | rfl | rfl <;> omega
/-- How often it has counted behind n cycles. -/
def goneT (t : Tm) (n : Nat) : Int := if onT t.tac then (t.div + 4 * (n : Int)) / (2 * pwT t.tac) - t.div / (2 * pwT t.tac) else 0
theorem hot_iff (t : Tm) (h : onT t.tac = true) : hotT t = true ↔ t.div / pwT t.tac % 2 = 1 := by unfold hotT; rw [h]; simp
theorem rate_step {t : Tm} (h : TmIn t) (n : Nat) (hs : (stepN t n).st = 0) (ha : (stepN t n).tima = t.tima + goneT t n) (hl : t.tima + goneT t n < 255) : (stepN t (n + 1)).st = 0 ∧ (stepN t (n + 1)).tima = t.tima + goneT t (n + 1) := by
  obtain ⟨d1, d2, d3⟩ := stepN_div h n
  have dv := h.d0
  have tn : (nextT (stepN t n)).tima = (stepN t n).tima ∧ (nextT (stepN t n)).st = 0 := by unfold nextT firstT; rw [if_neg (by rw [hs]; decide)]; exact ⟨rfl, rfl⟩
  obtain ⟨e1, e2, e3⟩ := next_div (stepN t n)
  show (stepT (stepN t n)).st = 0 ∧ (stepT (stepN t n)).tima = _
  unfold stepT
  cases ho : onT t.tac
  · have g : ∀ k, goneT t k = 0 := fun k => by unfold goneT; rw [ho]; rfl
    have hh : hotT (stepN t n) = false := by unfold hotT; rw [d3, ho]; rfl
    rw [if_neg (by rw [hh]; simp), tn.1, tn.2, ha, g, g]
    exact ⟨rfl, rfl⟩
  · have h1 : hotT (stepN t n) = true ↔ (t.div + 4 * (n : Int)) % 65536 / pwT t.tac % 2 = 1 := by rw [hot_iff _ (by rw [d3]; exact ho), d1, d3]
    have h2 : hotT (nextT (stepN t n)) = true ↔ (t.div + 4 * (n : Int) + 4) % 65536 / pwT t.tac % 2 = 1 := by
      rw [hot_iff _ (by rw [e3, d3]; exact ho), e1, e3, d3, d1]
      rw [show ((t.div + 4 * (n : Int)) % 65536 + 4) % 65536 = (t.div + 4 * (n : Int) + 4) % 65536 by omega]
    have x0 : 0 ≤ t.div + 4 * (n : Int) := by omega
    have F := falls_iff (pwT t.tac) (t.div + 4 * (n : Int)) (pw_cases _) x0
    have gn : goneT t n = (t.div + 4 * (n : Int)) / (2 * pwT t.tac) - t.div / (2 * pwT t.tac) := by unfold goneT; rw [ho]; rfl
    have gs : goneT t (n + 1) = (t.div + 4 * (n : Int) + 4) / (2 * pwT t.tac) - t.div / (2 * pwT t.tac) := by
      unfold goneT; rw [ho, if_pos rfl]
      rw [show t.div + 4 * ((n + 1 : Nat) : Int) = t.div + 4 * (n : Int) + 4 by omega]
    by_cases q : hotT (stepN t n) = true ∧ hotT (nextT (stepN t n)) = false
    · rw [if_pos q]
      have f := F.1 ⟨h1.1 q.1, fun z => by have := h2.2 z; rw [q.2] at this; cases this⟩
      unfold countT
      rw [if_neg (by rw [tn.1, ha]; omega)]
      refine ⟨tn.2, ?_⟩
      show (nextT (stepN t n)).tima + 1 = _
      rw [tn.1, ha, gn, gs, f]
      omega
    · rw [if_neg q]
      have nf : ¬ (t.div + 4 * (n : Int) + 4) / (2 * pwT t.tac) = (t.div + 4 * (n : Int)) / (2 * pwT t.tac) + 1 := fun z => by
        obtain ⟨y1, y2⟩ := F.2 z
        refine q ⟨h1.2 y1, ?_⟩
        cases hh : hotT (nextT (stepN t n))
        · rfl
        · exact absurd (h2.1 hh) y2
      have f := falls_not (pwT t.tac) _ (pw_cases _) x0 nf
      refine ⟨tn.2, ?_⟩
      rw [tn.1, ha, gn, gs, f]
/-- In how many cycles the line comes round. -/
def perT (c : Int) : Int := if c % 4 = 0 then 256 else if c % 4 = 1 then 4 else if c % 4 = 2 then 16 else 64
theorem per_pw (c : Int) : 2 * perT c = pwT c := by unfold perT pwT; repeat' split <;> omega
theorem gone_le {t : Tm} (h : TmIn t) (k n : Nat) (hn : (n : Int) ≤ k * perT t.tac) : goneT t n ≤ k ∧ 0 ≤ goneT t n := by
  unfold goneT
  split
  · have p := per_pw t.tac
    have dv := h.d0
    have hm : 4 * (n : Int) ≤ k * (2 * pwT t.tac) := by rw [← p, show (k : Int) * (2 * (2 * perT t.tac)) = 4 * (k * perT t.tac) by rw [← Int.mul_assoc, ← Int.mul_assoc, Int.mul_comm (k : Int) 2, Int.mul_comm (2 * (k : Int)) 2, ← Int.mul_assoc, Int.mul_assoc]; rfl]; omega
    rcases pw_cases t.tac with e | e | e | e <;> rw [e] at hm ⊢ <;> omega
  · exact ⟨by omega, Int.le_refl 0⟩
theorem gone_all {t : Tm} (h : TmIn t) (k : Nat) : goneT t (k * perT t.tac).toNat = if onT t.tac then (k : Int) else 0 := by
  unfold goneT
  split
  · have p := per_pw t.tac
    have dv := h.d0
    have pp : 0 ≤ perT t.tac := by
      have := per_pw t.tac
      rcases pw_cases t.tac with e | e | e | e <;> omega
    have q0 : 0 ≤ (k : Int) * perT t.tac := Int.mul_nonneg (by omega) pp
    rw [Int.toNat_of_nonneg q0]
    rcases pw_cases t.tac with e | e | e | e <;> rw [e] at p ⊢
    · rw [show perT t.tac = 256 by omega]; omega
    · rw [show perT t.tac = 4 by omega]; omega
    · rw [show perT t.tac = 16 by omega]; omega
    · rw [show perT t.tac = 64 by omega]; omega
  · rfl
theorem rate_all {t : Tm} (h : TmIn t) (hs : t.st = 0) (k : Nat) (hk : k ≤ 7) (ht : t.tima < 200) : ∀ n : Nat, (n : Int) ≤ k * perT t.tac → (stepN t n).st = 0 ∧ (stepN t n).tima = t.tima + goneT t n
  | 0, _ => ⟨hs, by
      have z : goneT t 0 = 0 := by have := gone_le h 0 0 (by simp); omega
      rw [z, Int.add_zero]; rfl⟩
  | n + 1, hn => by
    obtain ⟨a, b⟩ := rate_all h hs k hk ht n (by omega)
    have g := gone_le h k n (by omega)
    exact rate_step h n a b (by omega)
end Go.Proofs.YthjpngfbabeboaaDoor
