/- What the calls of layer 3 come to, over this seat's translation. -/
import Derived.Test.YtbgegbddommcgabWord
import Derived.Test.YtbgegbddommcgabSh
import Derived.Test.YtbgegbddommcgabGrow
import Derived.Deep.QuietTactic
import Derived.BigQuiet
import Derived.Deep.RegionHeld3
namespace Go.Proofs.Ytbgegbddommcgab
open Go.RowKit
set_option linter.unusedVariables false
set_option linter.unusedSimpArgs false

theorem mask3 (n : Int) : bits .and .i64 n 3 = n % 4 := by
  have h7 : (BitVec.ofInt 64 3).toNat = 2 ^ 2 - 1 := by decide
  have key : (BitVec.ofInt 64 n &&& BitVec.ofInt 64 3).toNat = (n % ((2 ^ 64 : Nat) : Int)).toNat % 2 ^ 2 := by
    rw [BitVec.toNat_and, BitVec.toNat_ofInt, h7, Nat.and_two_pow_sub_one_eq_mod]
  show IntKind.i64.wrap ((BitVec.ofInt 64 n &&& BitVec.ofInt 64 3).toNat : Nat) = n % 4
  rw [key, IntKind.wrap_i64]
  omega
theorem mod8_any (n : Int) (w : World) : Calls Try.prog 10 #[.int .i64 n, .int .i64 8] w fun e w' => e = .returned (.int .i64 (n % 8)) ∧ w' = w := by
  have hm := mask7 n
  go_enter Try.func10, Try.ntmps10
  go_wp2
  go_ret
  exact ⟨rfl, rfl⟩
theorem mod4_any (n : Int) (w : World) : Calls Try.prog 10 #[.int .i64 n, .int .i64 4] w fun e w' => e = .returned (.int .i64 (n % 4)) ∧ w' = w := by
  have hm := mask3 n
  go_enter Try.func10, Try.ntmps10
  go_wp2
  go_ret
  exact ⟨rfl, rfl⟩
theorem res_any (n v : Int) (w : World) (v0 : 0 ≤ v) (v1 : v ≤ 255) : Calls Try.prog 8 #[.int .i64 n, .int .u8 v] w fun e w' => e = .returned (.int .u8 (putOf v (n % 8) false)) ∧ w' = w := by
  go_enter Try.func8, Try.ntmps8
  go_wp2_with (first | (go_at_call 10; refine (mod8_any _ _).mono ?_; rintro e w' ⟨rfl, rfl⟩) | (go_at_call 14; refine (put_any _ _ _ _ v0 v1).mono ?_; rintro e w' ⟨rfl, rfl⟩))
  go_ret
  exact ⟨rfl, rfl⟩
theorem set_any (n v : Int) (w : World) (v0 : 0 ≤ v) (v1 : v ≤ 255) : Calls Try.prog 7 #[.int .i64 n, .int .u8 v] w fun e w' => e = .returned (.int .u8 (putOf v (n % 8) true)) ∧ w' = w := by
  go_enter Try.func7, Try.ntmps7
  go_wp2_with (first | (go_at_call 10; refine (mod8_any _ _).mono ?_; rintro e w' ⟨rfl, rfl⟩) | (go_at_call 14; refine (put_any _ _ _ _ v0 v1).mono ?_; rintro e w' ⟨rfl, rfl⟩))
  go_ret
  exact ⟨rfl, rfl⟩
theorem told_any (v : Int) (out : Bool) (w : World) : Calls Try.prog 13 #[.int .u8 v, .bool out] w fun e w' => e = .returned (.tuple #[.int .u8 v, .agg #[.bool (v == 0), .bool false, .bool false, .bool out]]) ∧ Grown w w' := by
  go_enter Try.func13, Try.ntmps13
  go_wp2
  exact bodyPost_ret (v := .tuple #[.int .u8 v, .agg #[.bool (v == 0), .bool false, .bool false, .bool out]]) (by simp [results, Try.results13, go_sem]) rfl ⟨rfl, alloc1 _ _ _⟩
theorem test_any (m v : Int) (z n h c : Bool) (w : World) (v0 : 0 ≤ v) (v1 : v ≤ 255) :
    Calls Try.prog 6 #[.int .i64 m, .int .u8 v, .agg #[.bool z, .bool n, .bool h, .bool c]] w fun e w' => e = .returned (.agg #[.bool (!bitOf v (m % 8)), .bool false, .bool true, .bool c]) ∧ Grown w w' := by
  go_enter Try.func6, Try.ntmps6
  go_wp2
  go_region_held3 (fun w' => w'.cell? ⟨w.heap.size, 3, none⟩ = some (.bool c)) (go_keep) (first | (go_at_call 10; refine (mod8_any _ _).mono ?_; rintro e v1 ⟨rfl, rfl⟩) | (go_at_call 12; refine (bit_any _ _ _ v0 v1).mono ?_; rintro e v2 ⟨rfl, rfl⟩))
  go_wp2
  exact bodyPost_ret (v := .agg #[.bool (!bitOf v (m % 8)), .bool false, .bool true, .bool c]) (by simp [results, Try.results6, go_sem]) rfl ⟨rfl, ((alloc1 _ _ _).alloc _ _).drew⟩
theorem ret_bb {a b c d : Bool} (h1 : a = c) (h2 : b = d) : Ending.returned (.tuple #[.bool a, .bool b]) = .returned (.tuple #[.bool c, .bool d]) := by rw [h1, h2]
theorem ends_any (last k v : Int) (c : Bool) (bv bo bf : Nat) (w : World) (v0 : 0 ≤ v) (v1 : v ≤ 255)
    (hv : w.cell? ⟨bv, 0, none⟩ = some (.int .u8 v)) (hk : w.cell? ⟨bo, 0, none⟩ = some (.int .i64 k)) (hf : w.cell? ⟨bf, 3, none⟩ = some (.bool c)) :
    Calls Try.prog 11 #[.int .i64 last, .pointer (some ⟨bv, 0, none⟩), .pointer (some ⟨bo, 0, none⟩), .pointer (some ⟨bf, 0, none⟩)] w fun e w' => e = .returned (.tuple #[.bool (bitOf v last), .bool (shIn k v c last)]) ∧ w' = w := by
  go_enter Try.func11, Try.ntmps11
  go_wp2_with (first | (go_at_call 12; refine (bit_any _ _ _ v0 v1).mono ?_; rintro e w' ⟨rfl, rfl⟩))
  all_goals
    go_ret2
    refine ⟨ret_bb rfl ?_, rfl⟩
    unfold shIn
    simp_all
theorem do0_any (op v : Int) (z n h c : Bool) (w : World) (ho : op % 8 = 0) (v0 : 0 ≤ v) (v1 : v ≤ 255) :
    Calls Try.prog 5 #[.int .i64 op, .int .u8 v, .agg #[.bool z, .bool n, .bool h, .bool c]] w fun e w' => e = .returned (.tuple #[.int .u8 (shOf 0 v c), .agg #[.bool (shOf 0 v c == 0), .bool false, .bool false, .bool (shOut 0 v)]]) ∧ Grown w w' := by
  have HO := hid ho
  clear ho
  have E1 := hid (show shOf 0 v c = putOf (v * 2 % 256) 0 (shIn 0 v c 7) from rfl)
  have E2 := hid (show shOut 0 v = bitOf v 7 from rfl)
  rw [E1.out, E2.out]
  go_enter Try.func5, Try.ntmps5
  go_wp2_with (first | (go_at_call 10; refine (mod8_any _ _).mono ?_; rintro e w' ⟨rfl, rfl⟩; rw [HO.out]) | (go_at_call 11; refine (ends_any _ 0 v c _ _ _ _ v0 v1 (by simp [go_sem]) (by simp [go_sem]) (by simp [go_sem])).mono ?_; rintro e w' ⟨rfl, rfl⟩) | (go_at_call 14; refine (put_any _ _ _ _ (by omega) (by omega)).mono ?_; rintro e w' ⟨rfl, rfl⟩) | (go_at_call 15; refine (turn_any _ _ _ v0 v1).mono ?_; rintro e w' ⟨rfl, rfl⟩))
  refine (told_any _ _ _).mono ?_
  rintro e u1 ⟨rfl, g1⟩
  obtain ⟨hc, hf⟩ := gcell g1
  have z3 : w.heap.size + 1 + 1 + 1 < u1.heap.size := by have := g1.2.2; simp at this; omega
  have G := hid (grown_trans ((((alloc1 w _ _).alloc _ _).alloc _ _).alloc _ _) g1)
  go_wp2
  refine bodyPost_ret (v := .tuple #[.int .u8 (putOf (v * 2 % 256) 0 (shIn 0 v c 7)), .agg #[.bool (putOf (v * 2 % 256) 0 (shIn 0 v c 7) == 0), .bool false, .bool false, .bool (bitOf v 7)]]) (by simp [results, Try.results5, go_sem, hc, z3]) rfl ⟨rfl, ?_⟩
  exact (((G.out.setCell (by simp; omega) _).setCell (by simp; omega) _).setCell (by simp; omega) _).setCell (by simp; omega) _
theorem do1_any (op v : Int) (z n h c : Bool) (w : World) (ho : op % 8 = 1) (v0 : 0 ≤ v) (v1 : v ≤ 255) :
    Calls Try.prog 5 #[.int .i64 op, .int .u8 v, .agg #[.bool z, .bool n, .bool h, .bool c]] w fun e w' => e = .returned (.tuple #[.int .u8 (shOf 1 v c), .agg #[.bool (shOf 1 v c == 0), .bool false, .bool false, .bool (shOut 1 v)]]) ∧ Grown w w' := by
  have HO := hid ho
  clear ho
  have E1 := hid (show shOf 1 v c = putOf (v / 2) 7 (shIn 1 v c 0) from rfl)
  have E2 := hid (show shOut 1 v = bitOf v 0 from rfl)
  rw [E1.out, E2.out]
  go_enter Try.func5, Try.ntmps5
  go_wp2_with (first | (go_at_call 10; refine (mod8_any _ _).mono ?_; rintro e w' ⟨rfl, rfl⟩; rw [HO.out]) | (go_at_call 11; refine (ends_any _ 1 v c _ _ _ _ v0 v1 (by simp [go_sem]) (by simp [go_sem]) (by simp [go_sem])).mono ?_; rintro e w' ⟨rfl, rfl⟩) | (go_at_call 14; refine (put_any _ _ _ _ (by omega) (by omega)).mono ?_; rintro e w' ⟨rfl, rfl⟩) | (go_at_call 15; refine (turn_any _ _ _ v0 v1).mono ?_; rintro e w' ⟨rfl, rfl⟩))
  refine (told_any _ _ _).mono ?_
  rintro e u1 ⟨rfl, g1⟩
  obtain ⟨hc, hf⟩ := gcell g1
  have z3 : w.heap.size + 1 + 1 + 1 < u1.heap.size := by have := g1.2.2; simp at this; omega
  have G := hid (grown_trans ((((alloc1 w _ _).alloc _ _).alloc _ _).alloc _ _) g1)
  go_wp2
  refine bodyPost_ret (v := .tuple #[.int .u8 (putOf (v / 2) 7 (shIn 1 v c 0)), .agg #[.bool (putOf (v / 2) 7 (shIn 1 v c 0) == 0), .bool false, .bool false, .bool (bitOf v 0)]]) (by simp [results, Try.results5, go_sem, hc, z3]) rfl ⟨rfl, ?_⟩
  exact (((G.out.setCell (by simp; omega) _).setCell (by simp; omega) _).setCell (by simp; omega) _).setCell (by simp; omega) _
theorem do2_any (op v : Int) (z n h c : Bool) (w : World) (ho : op % 8 = 2) (v0 : 0 ≤ v) (v1 : v ≤ 255) :
    Calls Try.prog 5 #[.int .i64 op, .int .u8 v, .agg #[.bool z, .bool n, .bool h, .bool c]] w fun e w' => e = .returned (.tuple #[.int .u8 (shOf 2 v c), .agg #[.bool (shOf 2 v c == 0), .bool false, .bool false, .bool (shOut 2 v)]]) ∧ Grown w w' := by
  have HO := hid ho
  clear ho
  have E1 := hid (show shOf 2 v c = putOf (v * 2 % 256) 0 (shIn 2 v c 7) from rfl)
  have E2 := hid (show shOut 2 v = bitOf v 7 from rfl)
  rw [E1.out, E2.out]
  go_enter Try.func5, Try.ntmps5
  go_wp2_with (first | (go_at_call 10; refine (mod8_any _ _).mono ?_; rintro e w' ⟨rfl, rfl⟩; rw [HO.out]) | (go_at_call 11; refine (ends_any _ 2 v c _ _ _ _ v0 v1 (by simp [go_sem]) (by simp [go_sem]) (by simp [go_sem])).mono ?_; rintro e w' ⟨rfl, rfl⟩) | (go_at_call 14; refine (put_any _ _ _ _ (by omega) (by omega)).mono ?_; rintro e w' ⟨rfl, rfl⟩) | (go_at_call 15; refine (turn_any _ _ _ v0 v1).mono ?_; rintro e w' ⟨rfl, rfl⟩))
  refine (told_any _ _ _).mono ?_
  rintro e u1 ⟨rfl, g1⟩
  obtain ⟨hc, hf⟩ := gcell g1
  have z3 : w.heap.size + 1 + 1 + 1 < u1.heap.size := by have := g1.2.2; simp at this; omega
  have G := hid (grown_trans ((((alloc1 w _ _).alloc _ _).alloc _ _).alloc _ _) g1)
  go_wp2
  refine bodyPost_ret (v := .tuple #[.int .u8 (putOf (v * 2 % 256) 0 (shIn 2 v c 7)), .agg #[.bool (putOf (v * 2 % 256) 0 (shIn 2 v c 7) == 0), .bool false, .bool false, .bool (bitOf v 7)]]) (by simp [results, Try.results5, go_sem, hc, z3]) rfl ⟨rfl, ?_⟩
  exact (((G.out.setCell (by simp; omega) _).setCell (by simp; omega) _).setCell (by simp; omega) _).setCell (by simp; omega) _
theorem do3_any (op v : Int) (z n h c : Bool) (w : World) (ho : op % 8 = 3) (v0 : 0 ≤ v) (v1 : v ≤ 255) :
    Calls Try.prog 5 #[.int .i64 op, .int .u8 v, .agg #[.bool z, .bool n, .bool h, .bool c]] w fun e w' => e = .returned (.tuple #[.int .u8 (shOf 3 v c), .agg #[.bool (shOf 3 v c == 0), .bool false, .bool false, .bool (shOut 3 v)]]) ∧ Grown w w' := by
  have HO := hid ho
  clear ho
  have E1 := hid (show shOf 3 v c = putOf (v / 2) 7 (shIn 3 v c 0) from rfl)
  have E2 := hid (show shOut 3 v = bitOf v 0 from rfl)
  rw [E1.out, E2.out]
  go_enter Try.func5, Try.ntmps5
  go_wp2_with (first | (go_at_call 10; refine (mod8_any _ _).mono ?_; rintro e w' ⟨rfl, rfl⟩; rw [HO.out]) | (go_at_call 11; refine (ends_any _ 3 v c _ _ _ _ v0 v1 (by simp [go_sem]) (by simp [go_sem]) (by simp [go_sem])).mono ?_; rintro e w' ⟨rfl, rfl⟩) | (go_at_call 14; refine (put_any _ _ _ _ (by omega) (by omega)).mono ?_; rintro e w' ⟨rfl, rfl⟩) | (go_at_call 15; refine (turn_any _ _ _ v0 v1).mono ?_; rintro e w' ⟨rfl, rfl⟩))
  refine (told_any _ _ _).mono ?_
  rintro e u1 ⟨rfl, g1⟩
  obtain ⟨hc, hf⟩ := gcell g1
  have z3 : w.heap.size + 1 + 1 + 1 < u1.heap.size := by have := g1.2.2; simp at this; omega
  have G := hid (grown_trans ((((alloc1 w _ _).alloc _ _).alloc _ _).alloc _ _) g1)
  go_wp2
  refine bodyPost_ret (v := .tuple #[.int .u8 (putOf (v / 2) 7 (shIn 3 v c 0)), .agg #[.bool (putOf (v / 2) 7 (shIn 3 v c 0) == 0), .bool false, .bool false, .bool (bitOf v 0)]]) (by simp [results, Try.results5, go_sem, hc, z3]) rfl ⟨rfl, ?_⟩
  exact (((G.out.setCell (by simp; omega) _).setCell (by simp; omega) _).setCell (by simp; omega) _).setCell (by simp; omega) _
theorem do4_any (op v : Int) (z n h c : Bool) (w : World) (ho : op % 8 = 4) (v0 : 0 ≤ v) (v1 : v ≤ 255) :
    Calls Try.prog 5 #[.int .i64 op, .int .u8 v, .agg #[.bool z, .bool n, .bool h, .bool c]] w fun e w' => e = .returned (.tuple #[.int .u8 (shOf 4 v c), .agg #[.bool (shOf 4 v c == 0), .bool false, .bool false, .bool (shOut 4 v)]]) ∧ Grown w w' := by
  have HO := hid ho
  clear ho
  have E1 := hid (show shOf 4 v c = putOf (v * 2 % 256) 0 (shIn 4 v c 7) from rfl)
  have E2 := hid (show shOut 4 v = bitOf v 7 from rfl)
  rw [E1.out, E2.out]
  go_enter Try.func5, Try.ntmps5
  go_wp2_with (first | (go_at_call 10; refine (mod8_any _ _).mono ?_; rintro e w' ⟨rfl, rfl⟩; rw [HO.out]) | (go_at_call 11; refine (ends_any _ 4 v c _ _ _ _ v0 v1 (by simp [go_sem]) (by simp [go_sem]) (by simp [go_sem])).mono ?_; rintro e w' ⟨rfl, rfl⟩) | (go_at_call 14; refine (put_any _ _ _ _ (by omega) (by omega)).mono ?_; rintro e w' ⟨rfl, rfl⟩) | (go_at_call 15; refine (turn_any _ _ _ v0 v1).mono ?_; rintro e w' ⟨rfl, rfl⟩))
  refine (told_any _ _ _).mono ?_
  rintro e u1 ⟨rfl, g1⟩
  obtain ⟨hc, hf⟩ := gcell g1
  have z3 : w.heap.size + 1 + 1 + 1 < u1.heap.size := by have := g1.2.2; simp at this; omega
  have G := hid (grown_trans ((((alloc1 w _ _).alloc _ _).alloc _ _).alloc _ _) g1)
  go_wp2
  refine bodyPost_ret (v := .tuple #[.int .u8 (putOf (v * 2 % 256) 0 (shIn 4 v c 7)), .agg #[.bool (putOf (v * 2 % 256) 0 (shIn 4 v c 7) == 0), .bool false, .bool false, .bool (bitOf v 7)]]) (by simp [results, Try.results5, go_sem, hc, z3]) rfl ⟨rfl, ?_⟩
  exact (((G.out.setCell (by simp; omega) _).setCell (by simp; omega) _).setCell (by simp; omega) _).setCell (by simp; omega) _
theorem do5_any (op v : Int) (z n h c : Bool) (w : World) (ho : op % 8 = 5) (v0 : 0 ≤ v) (v1 : v ≤ 255) :
    Calls Try.prog 5 #[.int .i64 op, .int .u8 v, .agg #[.bool z, .bool n, .bool h, .bool c]] w fun e w' => e = .returned (.tuple #[.int .u8 (shOf 5 v c), .agg #[.bool (shOf 5 v c == 0), .bool false, .bool false, .bool (shOut 5 v)]]) ∧ Grown w w' := by
  have HO := hid ho
  clear ho
  have E1 := hid (show shOf 5 v c = putOf (v / 2) 7 (shIn 5 v c 0) from rfl)
  have E2 := hid (show shOut 5 v = bitOf v 0 from rfl)
  rw [E1.out, E2.out]
  go_enter Try.func5, Try.ntmps5
  go_wp2_with (first | (go_at_call 10; refine (mod8_any _ _).mono ?_; rintro e w' ⟨rfl, rfl⟩; rw [HO.out]) | (go_at_call 11; refine (ends_any _ 5 v c _ _ _ _ v0 v1 (by simp [go_sem]) (by simp [go_sem]) (by simp [go_sem])).mono ?_; rintro e w' ⟨rfl, rfl⟩) | (go_at_call 14; refine (put_any _ _ _ _ (by omega) (by omega)).mono ?_; rintro e w' ⟨rfl, rfl⟩) | (go_at_call 15; refine (turn_any _ _ _ v0 v1).mono ?_; rintro e w' ⟨rfl, rfl⟩))
  refine (told_any _ _ _).mono ?_
  rintro e u1 ⟨rfl, g1⟩
  obtain ⟨hc, hf⟩ := gcell g1
  have z3 : w.heap.size + 1 + 1 + 1 < u1.heap.size := by have := g1.2.2; simp at this; omega
  have G := hid (grown_trans ((((alloc1 w _ _).alloc _ _).alloc _ _).alloc _ _) g1)
  go_wp2
  refine bodyPost_ret (v := .tuple #[.int .u8 (putOf (v / 2) 7 (shIn 5 v c 0)), .agg #[.bool (putOf (v / 2) 7 (shIn 5 v c 0) == 0), .bool false, .bool false, .bool (bitOf v 0)]]) (by simp [results, Try.results5, go_sem, hc, z3]) rfl ⟨rfl, ?_⟩
  exact (((G.out.setCell (by simp; omega) _).setCell (by simp; omega) _).setCell (by simp; omega) _).setCell (by simp; omega) _
theorem do6_any (op v : Int) (z n h c : Bool) (w : World) (ho : op % 8 = 6) (v0 : 0 ≤ v) (v1 : v ≤ 255) :
    Calls Try.prog 5 #[.int .i64 op, .int .u8 v, .agg #[.bool z, .bool n, .bool h, .bool c]] w fun e w' => e = .returned (.tuple #[.int .u8 (shOf 6 v c), .agg #[.bool (shOf 6 v c == 0), .bool false, .bool false, .bool (shOut 6 v)]]) ∧ Grown w w' := by
  have HO := hid ho
  clear ho
  have E1 := hid (show shOf 6 v c = turnOf v 4 from rfl)
  have E2 := hid (show shOut 6 v = false from rfl)
  rw [E1.out, E2.out]
  go_enter Try.func5, Try.ntmps5
  go_wp2_with (first | (go_at_call 10; refine (mod8_any _ _).mono ?_; rintro e w' ⟨rfl, rfl⟩; rw [HO.out]) | (go_at_call 11; refine (ends_any _ 6 v c _ _ _ _ v0 v1 (by simp [go_sem]) (by simp [go_sem]) (by simp [go_sem])).mono ?_; rintro e w' ⟨rfl, rfl⟩) | (go_at_call 14; refine (put_any _ _ _ _ (by omega) (by omega)).mono ?_; rintro e w' ⟨rfl, rfl⟩) | (go_at_call 15; refine (turn_any _ _ _ v0 v1).mono ?_; rintro e w' ⟨rfl, rfl⟩))
  refine (told_any _ _ _).mono ?_
  rintro e u1 ⟨rfl, g1⟩
  obtain ⟨hc, hf⟩ := gcell g1
  have z3 : w.heap.size + 1 + 1 + 1 < u1.heap.size := by have := g1.2.2; simp at this; omega
  have G := hid (grown_trans ((((alloc1 w _ _).alloc _ _).alloc _ _).alloc _ _) g1)
  go_wp2
  refine bodyPost_ret (v := .tuple #[.int .u8 (turnOf v 4), .agg #[.bool (turnOf v 4 == 0), .bool false, .bool false, .bool (false)]]) (by simp [results, Try.results5, go_sem, hc, z3]) rfl ⟨rfl, ?_⟩
  exact (((G.out.setCell (by simp; omega) _).setCell (by simp; omega) _).setCell (by simp; omega) _).setCell (by simp; omega) _
theorem do7_any (op v : Int) (z n h c : Bool) (w : World) (ho : op % 8 = 7) (v0 : 0 ≤ v) (v1 : v ≤ 255) :
    Calls Try.prog 5 #[.int .i64 op, .int .u8 v, .agg #[.bool z, .bool n, .bool h, .bool c]] w fun e w' => e = .returned (.tuple #[.int .u8 (shOf 7 v c), .agg #[.bool (shOf 7 v c == 0), .bool false, .bool false, .bool (shOut 7 v)]]) ∧ Grown w w' := by
  have HO := hid ho
  clear ho
  have E1 := hid (show shOf 7 v c = putOf (v / 2) 7 (shIn 7 v c 0) from rfl)
  have E2 := hid (show shOut 7 v = bitOf v 0 from rfl)
  rw [E1.out, E2.out]
  go_enter Try.func5, Try.ntmps5
  go_wp2_with (first | (go_at_call 10; refine (mod8_any _ _).mono ?_; rintro e w' ⟨rfl, rfl⟩; rw [HO.out]) | (go_at_call 11; refine (ends_any _ 7 v c _ _ _ _ v0 v1 (by simp [go_sem]) (by simp [go_sem]) (by simp [go_sem])).mono ?_; rintro e w' ⟨rfl, rfl⟩) | (go_at_call 14; refine (put_any _ _ _ _ (by omega) (by omega)).mono ?_; rintro e w' ⟨rfl, rfl⟩) | (go_at_call 15; refine (turn_any _ _ _ v0 v1).mono ?_; rintro e w' ⟨rfl, rfl⟩))
  refine (told_any _ _ _).mono ?_
  rintro e u1 ⟨rfl, g1⟩
  obtain ⟨hc, hf⟩ := gcell g1
  have z3 : w.heap.size + 1 + 1 + 1 < u1.heap.size := by have := g1.2.2; simp at this; omega
  have G := hid (grown_trans ((((alloc1 w _ _).alloc _ _).alloc _ _).alloc _ _) g1)
  go_wp2
  refine bodyPost_ret (v := .tuple #[.int .u8 (putOf (v / 2) 7 (shIn 7 v c 0)), .agg #[.bool (putOf (v / 2) 7 (shIn 7 v c 0) == 0), .bool false, .bool false, .bool (bitOf v 0)]]) (by simp [results, Try.results5, go_sem, hc, z3]) rfl ⟨rfl, ?_⟩
  exact (((G.out.setCell (by simp; omega) _).setCell (by simp; omega) _).setCell (by simp; omega) _).setCell (by simp; omega) _
theorem do_any (op k v : Int) (z n h c : Bool) (w : World) (ho : op % 8 = k) (v0 : 0 ≤ v) (v1 : v ≤ 255) :
    Calls Try.prog 5 #[.int .i64 op, .int .u8 v, .agg #[.bool z, .bool n, .bool h, .bool c]] w fun e w' => e = .returned (.tuple #[.int .u8 (shOf k v c), .agg #[.bool (shOf k v c == 0), .bool false, .bool false, .bool (shOut k v)]]) ∧ Grown w w' := by
  have hk : k = 0 ∨ k = 1 ∨ k = 2 ∨ k = 3 ∨ k = 4 ∨ k = 5 ∨ k = 6 ∨ k = 7 := by omega
  rcases hk with rfl | rfl | rfl | rfl | rfl | rfl | rfl | rfl
  · exact do0_any op v z n h c w ho v0 v1
  · exact do1_any op v z n h c w ho v0 v1
  · exact do2_any op v z n h c w ho v0 v1
  · exact do3_any op v z n h c w ho v0 v1
  · exact do4_any op v z n h c w ho v0 v1
  · exact do5_any op v z n h c w ho v0 v1
  · exact do6_any op v z n h c w ho v0 v1
  · exact do7_any op v z n h c w ho v0 v1
end Go.Proofs.Ytbgegbddommcgab
