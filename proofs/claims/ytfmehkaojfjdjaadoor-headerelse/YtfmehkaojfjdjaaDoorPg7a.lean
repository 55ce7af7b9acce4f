/- What the small calls of the program's layer 7 come to, those that give up too. -/
import Derived.Test.YtfmehkaojfjdjaaDoorConv7
import Derived.Test.YtfmehkaojfjdjaaDoorH7
import Derived.Deep.QuietTactic
import Derived.BigQuiet
namespace Go.Proofs.YtfmehkaojfjdjaaDoor
open Go.RowKit
set_option linter.unusedVariables false
set_option linter.unusedSimpArgs false

abbrev pan (n : Int) : List PanicEntry := [{ v := .iface 27 (.int .i64 n), recovered := false }]
theorem nine {p : Int → Prop} (h0 : p 0) (h1 : p 1) (h2 : p 2) (h3 : p 3) (h4 : p 4) (h5 : p 5) (h6 : p 6) (h7 : p 7) (h8 : p 8) (r : Int) (a : 0 ≤ r) (b : r ≤ 8) : p r := by
  have : r = 0 ∨ r = 1 ∨ r = 2 ∨ r = 3 ∨ r = 4 ∨ r = 5 ∨ r = 6 ∨ r = 7 ∨ r = 8 := by omega
  rcases this with rfl | rfl | rfl | rfl | rfl | rfl | rfl | rfl | rfl <;> assumption
theorem add_off (x : Addr) (a b : Nat) (h : 0 < a) : x.add (a + b) = ⟨x.block, x.off + a + b, none⟩ := by
  unfold Addr.add
  rw [if_neg (by omega)]
  simp only [Nat.add_assoc]
def bankOf (r : Int) : Int := mostOf r / 16384
set_option maxRecDepth 100000 in
theorem pbanks_any (r : Int) (w : World) (r0 : 0 ≤ r) (r1 : r ≤ 8) : Calls Tryd.prog 33 #[.int .u8 r] w fun e w' => e = .returned (.int .i64 (bankOf r)) ∧ w' = w := by
  refine nine (p := fun r => Calls Tryd.prog 33 #[.int .u8 r] w fun e w' => e = .returned (.int .i64 (bankOf r)) ∧ w' = w) ?_ ?_ ?_ ?_ ?_ ?_ ?_ ?_ ?_ r r0 r1
  all_goals
    go_enter Tryd.func33, Tryd.ntmps33
    go_wp2
    go_ret
    exact ⟨by first | rfl | (show Ending.returned (.int .i64 _) = .returned (.int .i64 _); rfl), rfl⟩
theorem pprint_any (b : Int) (w : World) : Calls Tryd.prog 35 #[.int .u8 b] w fun e w' => e = .returned (.bool (signB b)) ∧ w' = w := by
  unfold signB
  go_enter Tryd.func35, Tryd.ntmps35
  by_cases h : 32 ≤ b
  · have h2 : decide (32 ≤ b) = true := decide_eq_true h
    rw [h2]
    go_wp2
    go_ret
    exact ⟨by simp, rfl⟩
  · have h2 : decide (32 ≤ b) = false := decide_eq_false h
    rw [h2]
    go_wp2
    go_ret
    exact ⟨by simp, rfl⟩
set_option maxRecDepth 100000 in
theorem psum_any (z : List Int) (x : Addr) (n cap : Nat) (w : World) (hn : 336 ≤ n) (hm : n ≤ maxLen) (hcap : n ≤ cap) (hcm : cap ≤ maxLen) (hz : 336 ≤ z.length) (hb : x.block < w.heap.size) (hc : ∀ i, i < 336 → w.cell? (x.add i) = some (.int .u8 (z.getD i 0)) ∧ InByte (z.getD i 0)) :
    Calls Tryd.prog 24 #[.slice (some x) n cap] w fun e w' => e = .returned (.int .u8 (sumOf z)) ∧ w' = w := by
  have HC := hid hc
  unfold sumOf
  unfold maxLen at hm hcm
  have s1 : (333 : Int) ≤ (cap : Int) := by omega
  clear hc
  go_enter Tryd.func24, Tryd.ntmps24
  go_wp2
  go_loopw [3, 9] (fun v i wr => ∃ k : Nat, k ≤ 25 ∧ v = .int .u8 (sumTo z k) ∧ i = .int .i64 (k : Int) ∧ wr = w) (fun _ i _ => 25 - (intOf i).toNat)
  case atStart => exact ⟨0, by omega, rfl, rfl, rfl⟩
  case round =>
    obtain ⟨k, hk, rfl, rfl, rfl⟩ := hrel
    have sb := sumTo_bd z k
    by_cases hlt : k < 25
    · have hlt2 : (k : Int) < 25 := by omega
      have ck := HC.out (308 + k) (by omega)
      have E := hid (show sumTo z (k + 1) = (sumTo z k + 512 - z.getD (308 + k) 0 - 1) % 256 from rfl)
      obtain ⟨y, hy⟩ : ∃ y, z.getD (308 + k) 0 = y := ⟨_, rfl⟩
      rw [hy] at ck E
      obtain ⟨ck, y0, y1⟩ := ck
      rw [add_off x 308 k (by decide)] at ck
      generalize sumTo z k = S at *
      clear hy
      have w1 : IntKind.u8.wrap (S - IntKind.u8.wrap (y + 1)) = (S + 512 - y - 1) % 256 := by rw [IntKind.wrap_u8, IntKind.wrap_u8]; omega
      go_wp2
      go_roundw
      case rel => exact ⟨k + 1, by omega, by rw [E.out]; congr 1 <;> omega, by go_num, by trivial⟩
      case measure => first | omega | (simp; omega) | (simp [intOf]; omega)
    · obtain rfl : k = 25 := by omega
      generalize hS : sumTo z 25 = S at *
      have HS := hid hS
      clear hS
      go_wp2
      go_ret
      exact ⟨by rw [HS.out]; rfl, rfl⟩
theorem phead_no (n cap : Nat) (a : Option Addr) (w : World) (h : n < 336) : Calls Tryd.prog 25 #[.slice a n cap] w fun e w' => e = .panicked (pan 2) ∧ w' = w := by
  have h2 : (n : Int) < 336 := by omega
  go_enter Tryd.func25, Tryd.ntmps25
  go_wp2
  exact ⟨rfl, rfl, rfl⟩
theorem phead_any (n cap : Nat) (x : Addr) (w : World) (h : 336 ≤ n) (hcap : n ≤ cap) (hcm : cap ≤ maxLen) : Calls Tryd.prog 25 #[.slice (some x) n cap] w fun e w' => e = .returned (.slice (some x) 336 cap) ∧ w' = w := by
  have h2 : ¬ ((n : Int) < 336) := by omega
  have h3 : (336 : Int) ≤ (cap : Int) := by omega
  unfold maxLen at hcm
  go_enter Tryd.func25, Tryd.ntmps25
  go_wp2
  go_ret
  exact ⟨rfl, rfl⟩

set_option maxRecDepth 100000 in
theorem pchk_ok (z : List Int) (x : Addr) (n cap : Nat) (w : World) (hn : 336 ≤ n) (hm : n ≤ maxLen) (hcap : n ≤ cap) (hcm : cap ≤ maxLen) (hz : 336 ≤ z.length) (hb : x.block < w.heap.size) (hc : ∀ i, i < 336 → w.cell? (x.add i) = some (.int .u8 (z.getD i 0)) ∧ InByte (z.getD i 0)) (ok : sumOf z = z.getD 333 0) :
    Calls Tryd.prog 31 #[.slice (some x) n cap] w fun e w' => e = .returned (.tuple #[]) ∧ Kept w w' := by
  have C := hid (fun u (g : Kept w u) => psum_any z x n cap u hn hm hcap hcm hz (Nat.lt_of_lt_of_le hb g.size) (fun i hi => ⟨(g.cell (x := x.add i) (by rw [addB]; exact hb)).trans (hc i hi).1, (hc i hi).2⟩))
  have c1 := (hc 333 (by omega)).1
  rw [← ok, add_off x 333 0 (by decide)] at c1
  obtain ⟨S, hS⟩ : ∃ v, sumOf z = v := ⟨_, rfl⟩
  rw [hS] at C c1
  have h3 : (333 : Int) < (n : Int) := by omega
  simp only [Nat.add_zero] at c1
  clear hc ok hS
  go_enter Tryd.func31, Tryd.ntmps31
  go_wp2_with fail
  go_quiet ((go_at_call 24; exact Calls.quiet_of_same (C.out _ (Kept.refl _).drewN)))
  go_wp2
  first | (go_end0; exact ⟨rfl, (Kept.refl _).drewN⟩) | exact bodyPost_normal (results_none rfl _ _ _) rfl ⟨rfl, (Kept.refl _).drewN⟩
end Go.Proofs.YtfmehkaojfjdjaaDoor
