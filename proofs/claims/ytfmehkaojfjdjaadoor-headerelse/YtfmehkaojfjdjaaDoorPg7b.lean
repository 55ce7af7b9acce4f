/- What the calls of the program's layer 7 that give up come to, and titles. -/
import Derived.Test.YtfmehkaojfjdjaaDoorPg7a
import Derived.Test.YtfmehkaojfjdjaaDoorMk7
namespace Go.Proofs.YtfmehkaojfjdjaaDoor
open Go.RowKit
set_option linter.unusedVariables false
set_option linter.unusedSimpArgs false

set_option maxRecDepth 100000 in
theorem pchk_no (z : List Int) (x : Addr) (n cap : Nat) (w : World) (hn : 336 ≤ n) (hm : n ≤ maxLen) (hcap : n ≤ cap) (hcm : cap ≤ maxLen) (hz : 336 ≤ z.length) (hb : x.block < w.heap.size) (hc : ∀ i, i < 336 → w.cell? (x.add i) = some (.int .u8 (z.getD i 0)) ∧ InByte (z.getD i 0)) (ok : sumOf z ≠ z.getD 333 0) :
    Calls Tryd.prog 31 #[.slice (some x) n cap] w fun e w' => e = .panicked (pan 3) ∧ Kept w w' := by
  have C := hid (fun u (g : Kept w u) => psum_any z x n cap u hn hm hcap hcm hz (Nat.lt_of_lt_of_le hb g.size) (fun i hi => ⟨(g.cell (x := x.add i) (by rw [addB]; exact hb)).trans (hc i hi).1, (hc i hi).2⟩))
  have c1 := (hc 333 (by omega)).1
  rw [add_off x 333 0 (by decide)] at c1
  obtain ⟨S, hS⟩ : ∃ v, sumOf z = v := ⟨_, rfl⟩
  obtain ⟨Y, hY⟩ : ∃ v, z.getD 333 0 = v := ⟨_, rfl⟩
  rw [hS] at C ok
  rw [hY] at c1 ok
  have h3 : (333 : Int) < (n : Int) := by omega
  have ne : (Y != S) = true := by simp; exact fun e => ok e.symm
  simp only [Nat.add_zero] at c1
  clear hc ok hS hY
  go_enter Tryd.func31, Tryd.ntmps31
  go_wp2_with fail
  go_quiet ((go_at_call 24; exact Calls.quiet_of_same (C.out _ (Kept.refl _).drewN)))
  go_wp2
  exact ⟨rfl, rfl, (Kept.refl _).drewN⟩
def sizeBad (r m n : Int) : Prop := 8 < r ∨ 5 < m ∨ mostOf r < n
theorem bank_most : ∀ r : Fin 9, 16384 * bankOf (r.val : Int) = mostOf (r.val : Int) := by decide +kernel
set_option maxRecDepth 100000 in
theorem psize_ok (r m n : Int) (w : World) (r0 : 0 ≤ r) (m0 : 0 ≤ m) (m1 : m ≤ 255) (ok : ¬ sizeBad r m n) : Calls Tryd.prog 29 #[.int .u8 r, .int .u8 m, .int .i64 n] w fun e w' => e = .returned (.tuple #[]) ∧ w' = w := by
  unfold sizeBad at ok
  have r1 : r ≤ 8 := by omega
  have C := hid (fun u => pbanks_any r u r0 r1)
  have BM := bank_most ⟨r.toNat, by omega⟩
  have tn : ((r.toNat : Nat) : Int) = r := by omega
  simp only [tn] at BM
  have MB : 32768 ≤ mostOf r ∧ mostOf r ≤ 16777216 := most_fin ⟨r.toNat, by omega⟩
  generalize bankOf r = B at *
  generalize mostOf r = M at *
  have w1 : IntKind.i64.wrap (16384 * B) = 16384 * B := by rw [IntKind.wrap_i64]; omega
  have w2 : IntKind.i64.wrap m = m := by rw [IntKind.wrap_i64]; omega
  have d1 : decide (8 < r) = false := decide_eq_false (by omega)
  have d2 : decide (6 ≤ m) = false := decide_eq_false (by omega)
  have d3 : decide (16384 * B < n) = false := decide_eq_false (by omega)
  have e1 : ¬ (8 < r) := by omega
  have e2 : ¬ (6 ≤ m) := by omega
  have e3 : ¬ (16384 * B < n) := by omega
  clear tn BM MB ok
  go_enter Tryd.func29, Tryd.ntmps29
  go_wp2_with (go_at_call 33; refine (C.out _).mono ?_; rintro e w' ⟨rfl, rfl⟩)
  go_end0
  exact ⟨rfl, rfl⟩
set_option maxRecDepth 100000 in
theorem psize_no (r m n : Int) (w : World) (r0 : 0 ≤ r) (m0 : 0 ≤ m) (m1 : m ≤ 255) (no : sizeBad r m n) : Calls Tryd.prog 29 #[.int .u8 r, .int .u8 m, .int .i64 n] w fun e w' => e = .panicked (pan 5) ∧ w' = w := by
  have w2 : IntKind.i64.wrap m = m := by rw [IntKind.wrap_i64]; omega
  by_cases e1 : 8 < r
  · have d1 : decide (8 < r) = true := decide_eq_true e1
    go_enter Tryd.func29, Tryd.ntmps29
    go_wp2
    exact ⟨rfl, rfl, rfl⟩
  have d1 : decide (8 < r) = false := decide_eq_false e1
  by_cases e2 : 6 ≤ m
  · have d2 : decide (6 ≤ m) = true := decide_eq_true e2
    go_enter Tryd.func29, Tryd.ntmps29
    go_wp2
    exact ⟨rfl, rfl, rfl⟩
  have d2 : decide (6 ≤ m) = false := decide_eq_false e2
  unfold sizeBad at no
  have C := hid (fun u => pbanks_any r u r0 (by omega))
  have BM := bank_most ⟨r.toNat, by omega⟩
  have tn : ((r.toNat : Nat) : Int) = r := by omega
  simp only [tn] at BM
  have MB : 32768 ≤ mostOf r ∧ mostOf r ≤ 16777216 := most_fin ⟨r.toNat, by omega⟩
  generalize bankOf r = B at *
  generalize mostOf r = M at *
  have w1 : IntKind.i64.wrap (16384 * B) = 16384 * B := by rw [IntKind.wrap_i64]; omega
  have d3 : decide (16384 * B < n) = true := decide_eq_true (by omega)
  have e3 : 16384 * B < n := by omega
  clear tn BM MB no
  go_enter Tryd.func29, Tryd.ntmps29
  go_wp2_with (go_at_call 33; refine (C.out _).mono ?_; rintro e w' ⟨rfl, rfl⟩)
  exact ⟨rfl, rfl, rfl⟩
end Go.Proofs.YtfmehkaojfjdjaaDoor
