/- What the document's answers of layer 11 come to: power, Chosen, Hot, count. -/
import Derived.Test.YthjpngfbabeboaaDoorTm11
import Derived.Test.YthjpngfbabeboaaDoorK8
import Derived.Test.YthjpngfbabeboaaDoorChecked
import Derived.Handy
import Derived.Deep.RegionHeld3
import Derived.Deep.QuietTactic
import Derived.BigQuiet
namespace Go.Proofs.YthjpngfbabeboaaDoor
open Go.RowKit
set_option linter.unusedVariables false
set_option linter.unusedSimpArgs false

abbrev tmV (t : Tm) : Value := .agg #[.int .u16 t.div, .int .u8 t.tima, .int .u8 t.tma, .int .u8 t.tac, .int .u8 t.st]
theorem rpower11 (n : Nat) (w : World) (h : n ≤ 9) :
    Calls Tryd.prog 21 #[.int .i64 n] w fun e w' => e = .returned (.int .i64 (2 ^ n)) ∧ w' = w := by
  go_enter Tryd.func21, Tryd.ntmps21
  go_wp2
  go_loop [3, 4] (fun p i => ∃ k : Nat, k ≤ n ∧ i = .int .i64 k ∧ p = .int .i64 (2 ^ k)) (fun _ i => n - (intOf i).toNat)
  case atStart => exact ⟨0, Nat.zero_le _, rfl, rfl⟩
  case round =>
    obtain ⟨k, hk, rfl, rfl⟩ := hrel
    have hp : (1 : Int) ≤ 2 ^ k ∧ (2 : Int) ^ k ≤ 512 := by
      have e : k = 0 ∨ k = 1 ∨ k = 2 ∨ k = 3 ∨ k = 4 ∨ k = 5 ∨ k = 6 ∨ k = 7 ∨ k = 8 ∨ k = 9 := by omega
      rcases e with rfl | rfl | rfl | rfl | rfl | rfl | rfl | rfl | rfl | rfl <;> decide
    obtain ⟨hp1, hp2⟩ := hp
    have hs : Hid ((2 : Int) ^ (k + 1) = 2 ^ k * 2) := Int.pow_succ 2 k
    by_cases hlt : k < n
    · go_wp2
      go_round
      case rel => exact ⟨k + 1, by omega, by go_num, by rw [hs.out]⟩
      case measure => simp [intOf]; omega
    · go_wp2
      have hkn : k = n := by omega
      subst hkn
      go_ret
      exact ⟨rfl, rfl⟩
def bitT (c : Int) : Nat := if c % 4 = 0 then 9 else if c % 4 = 1 then 3 else if c % 4 = 2 then 5 else 7
theorem bit_pw (c : Int) : (2 : Int) ^ bitT c = pwT c := by
  unfold bitT pwT
  by_cases a : c % 4 = 0
  · rw [if_pos a, if_pos a]; rfl
  by_cases b : c % 4 = 1
  · rw [if_neg a, if_neg a, if_pos b, if_pos b]; rfl
  by_cases d : c % 4 = 2
  · rw [if_neg a, if_neg a, if_neg b, if_neg b, if_pos d, if_pos d]; rfl
  · rw [if_neg a, if_neg a, if_neg b, if_neg b, if_neg d, if_neg d]; rfl
theorem bit_le (c : Int) : bitT c ≤ 9 := by
  unfold bitT
  split
  · omega
  split
  · omega
  split <;> omega
theorem rchosen11 (c : Int) (w : World) (c0 : 0 ≤ c) (c1 : c ≤ 255) : Calls Tryd.prog 22 #[.int .u8 c] w fun e w' => e = .returned (.int .i64 (bitT c : Int)) ∧ w' = w := by
  have q : c % 4 = 0 ∨ c % 4 = 1 ∨ c % 4 = 2 ∨ c % 4 = 3 := by omega
  have tm : Int.tmod c 4 = c % 4 := Int.tmod_eq_emod_of_nonneg c0
  rcases q with q | q | q | q
  · have E := hid (show (bitT c : Int) = 9 by unfold bitT; rw [if_pos q]; rfl)
    rw [q] at tm
    go_enter Tryd.func22, Tryd.ntmps22
    go_wp2
    go_ret
    exact ⟨by rw [E.out]; rfl, rfl⟩
  · have E := hid (show (bitT c : Int) = 3 by unfold bitT; rw [if_neg (by omega), if_pos q]; rfl)
    rw [q] at tm
    go_enter Tryd.func22, Tryd.ntmps22
    go_wp2
    go_ret
    exact ⟨by rw [E.out]; rfl, rfl⟩
  · have E := hid (show (bitT c : Int) = 5 by unfold bitT; rw [if_neg (by omega), if_neg (by omega), if_pos q]; rfl)
    rw [q] at tm
    go_enter Tryd.func22, Tryd.ntmps22
    go_wp2
    go_ret
    exact ⟨by rw [E.out]; rfl, rfl⟩
  · have E := hid (show (bitT c : Int) = 7 by unfold bitT; rw [if_neg (by omega), if_neg (by omega), if_neg (by omega)]; rfl)
    rw [q] at tm
    go_enter Tryd.func22, Tryd.ntmps22
    go_wp2
    go_ret
    exact ⟨by rw [E.out]; rfl, rfl⟩
set_option maxRecDepth 100000 in
theorem rhot11 (t : Tm) (w : World) (I : TmIn t) : Calls Tryd.prog 11 #[tmV t] w fun e w' => e = .returned (.bool (hotT t)) ∧ Kept w w' := by
  obtain ⟨dv, ta, tm, tc, ts⟩ := t
  have c0 := I.c0
  have c1 := I.c1
  have d0 := I.d0
  have d1 := I.d1
  simp only at c0 c1 d0 d1
  have t1 : Int.tmod (Int.tdiv tc 4) 2 = tc / 4 % 2 := by rw [Int.tdiv_eq_ediv_of_nonneg c0, Int.tmod_eq_emod_of_nonneg (by omega)]
  by_cases ho : tc / 4 % 2 = 0
  · have E := hid (show hotT ⟨dv, ta, tm, tc, ts⟩ = false by unfold hotT onT; simp only; rw [ho]; rfl)
    clear I
    go_enter Tryd.func11, Tryd.ntmps11
    go_wp2
    go_ret
    exact ⟨by rw [E.out]; rfl, (Kept.refl w).alloc _⟩
  · have o1 : onT tc = true := by unfold onT; simp; omega
    have pc := pw_cases tc
    have C1 := hid (fun u => rchosen11 tc u c0 c1)
    have C2 := hid (fun u => rpower11 (bitT tc) u (bit_le tc))
    rw [bit_pw] at C2
    have E := hid (show hotT ⟨dv, ta, tm, tc, ts⟩ = (dv / pwT tc % 2 == 1) by unfold hotT; simp only; rw [o1, Bool.true_and])
    generalize pwT tc = p at *
    generalize bitT tc = b at *
    have p0 : 1 ≤ p := by omega
    have q1 : Int.tmod (Int.tdiv dv p) 2 = dv / p % 2 := by
      rw [Int.tdiv_eq_ediv_of_nonneg d0, Int.tmod_eq_emod_of_nonneg (Int.ediv_nonneg d0 (by omega))]
    have q2 : Int.tmod (dv / p) 2 = dv / p % 2 := Int.tmod_eq_emod_of_nonneg (Int.ediv_nonneg d0 (by omega))
    clear I
    go_enter Tryd.func11, Tryd.ntmps11
    go_wp2_with fail
    go_quiet (first | (go_at_call 22; refine Calls.quiet_of_same (C1.out _)) | (go_at_call 21; refine Calls.quiet_of_same (C2.out _)))
    all_goals
      go_wp2
      go_ret
      exact ⟨by rw [E.out]; rfl, by repeat (first | with_reducible exact Kept.refl _ | with_reducible refine Kept.alloc ?_ _ | with_reducible refine Kept.drew ?_ | with_reducible refine Kept.drewN ?_)⟩
end Go.Proofs.YthjpngfbabeboaaDoor
