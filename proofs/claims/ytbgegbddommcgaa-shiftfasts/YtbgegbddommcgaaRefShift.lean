/- The document's answers of layer 3, over this seat's translation. -/
import Derived.Test.YtbgegbddommcgaaShift
import Derived.Test.YtbgegbddommcgaaRefOp
import Derived.Deep.DeepCutAuto
namespace Go.Proofs.Ytbgegbddommcgaa
open Go.RowKit
set_option linter.unusedVariables false
set_option linter.unusedSimpArgs false

theorem rmove_any (v : Int) (up inn : Bool) (w : World) (v0 : 0 ≤ v) (v1 : v ≤ 255) :
    Calls Try.prog 28 #[.int .u8 v, .bool up, .bool inn] w fun e w' => e = .returned (.int .u8 (moveOf v up inn)) ∧ w' = w := by
  unfold moveOf
  cases up
  · go_enter Try.func28, Try.ntmps28
    go_wp2
    go_loop [7, 8] (fun t i => ∃ k : Nat, k ≤ 8 ∧ i = .int .i64 k ∧ t = .int .u8 (moveTo v false inn k)) (fun _ i => 8 - (intOf i).toNat)
    case atStart => exact ⟨0, Nat.zero_le _, rfl, rfl⟩
    case round =>
      obtain ⟨k, hk, rfl, rfl⟩ := hrel
      obtain ⟨tb0, tb1⟩ := moveTo_bd v false inn k
      by_cases hlt : k < 8
      · by_cases h7 : k < 7
        · have E := hid (show moveTo v false inn (k + 1) = putOf (moveTo v false inn k) k (bitOf v ((k : Int) + 1)) by simp [moveTo, h7])
          go_wp2_with (first | (go_at_call 27; refine (rbit_any _ _ _ v0 v1).mono ?_; rintro e w' ⟨rfl, rfl⟩) | (go_at_call 29; refine (rput_any _ _ _ _ tb0 tb1).mono ?_; rintro e w' ⟨rfl, rfl⟩))
          go_round
          case rel => exact ⟨k + 1, by omega, by go_num, by rw [E.out]⟩
          case measure => simp [intOf]; omega
        · have E := hid (show moveTo v false inn (k + 1) = putOf (moveTo v false inn k) k inn by simp [moveTo, h7])
          go_wp2_with (first | (go_at_call 27; refine (rbit_any _ _ _ v0 v1).mono ?_; rintro e w' ⟨rfl, rfl⟩) | (go_at_call 29; refine (rput_any _ _ _ _ tb0 tb1).mono ?_; rintro e w' ⟨rfl, rfl⟩))
          go_round
          case rel => exact ⟨k + 1, by omega, by go_num, by rw [E.out]⟩
          case measure => simp [intOf]; omega
      · go_wp2
        obtain rfl : k = 8 := by omega
        go_ret
        exact ⟨rfl, rfl⟩
  · go_enter Try.func28, Try.ntmps28
    go_wp2
    go_loop [7, 8] (fun t i => ∃ k : Nat, k ≤ 8 ∧ i = .int .i64 k ∧ t = .int .u8 (moveTo v true inn k)) (fun _ i => 8 - (intOf i).toNat)
    case atStart => exact ⟨0, Nat.zero_le _, rfl, rfl⟩
    case round =>
      obtain ⟨k, hk, rfl, rfl⟩ := hrel
      obtain ⟨tb0, tb1⟩ := moveTo_bd v true inn k
      by_cases hlt : k < 8
      · by_cases h7 : 1 ≤ k
        · have E := hid (show moveTo v true inn (k + 1) = putOf (moveTo v true inn k) k (bitOf v ((k : Int) - 1)) by simp [moveTo, h7])
          go_wp2_with (first | (go_at_call 27; refine (rbit_any _ _ _ v0 v1).mono ?_; rintro e w' ⟨rfl, rfl⟩) | (go_at_call 29; refine (rput_any _ _ _ _ tb0 tb1).mono ?_; rintro e w' ⟨rfl, rfl⟩))
          go_round
          case rel => exact ⟨k + 1, by omega, by go_num, by rw [E.out]⟩
          case measure => simp [intOf]; omega
        · have E := hid (show moveTo v true inn (k + 1) = putOf (moveTo v true inn k) k inn by simp [moveTo, h7])
          go_wp2_with (first | (go_at_call 27; refine (rbit_any _ _ _ v0 v1).mono ?_; rintro e w' ⟨rfl, rfl⟩) | (go_at_call 29; refine (rput_any _ _ _ _ tb0 tb1).mono ?_; rintro e w' ⟨rfl, rfl⟩))
          go_round
          case rel => exact ⟨k + 1, by omega, by go_num, by rw [E.out]⟩
          case measure => simp [intOf]; omega
      · go_wp2
        obtain rfl : k = 8 := by omega
        go_ret
        exact ⟨rfl, rfl⟩
theorem rres_any (n v : Int) (w : World) (o0 : -9223372036854775808 ≤ n) (o1 : n ≤ 9223372036854775807) (v0 : 0 ≤ v) (v1 : v ≤ 255) : Calls Try.prog 17 #[.int .i64 n, .int .u8 v] w fun e w' => e = .returned (.int .u8 (putOf v (n % 8) false)) ∧ w' = w := by
  go_enter Try.func17, Try.ntmps17
  go_wp2_with (first | (go_at_call 26; refine (rop_any _ _ o0 o1).mono ?_; rintro e w' ⟨rfl, rfl⟩) | (go_at_call 29; refine (rput_any _ _ _ _ v0 v1).mono ?_; rintro e w' ⟨rfl, rfl⟩))
  go_ret
  exact ⟨rfl, rfl⟩
theorem rset_any (n v : Int) (w : World) (o0 : -9223372036854775808 ≤ n) (o1 : n ≤ 9223372036854775807) (v0 : 0 ≤ v) (v1 : v ≤ 255) : Calls Try.prog 19 #[.int .i64 n, .int .u8 v] w fun e w' => e = .returned (.int .u8 (putOf v (n % 8) true)) ∧ w' = w := by
  go_enter Try.func19, Try.ntmps19
  go_wp2_with (first | (go_at_call 26; refine (rop_any _ _ o0 o1).mono ?_; rintro e w' ⟨rfl, rfl⟩) | (go_at_call 29; refine (rput_any _ _ _ _ v0 v1).mono ?_; rintro e w' ⟨rfl, rfl⟩))
  go_ret
  exact ⟨rfl, rfl⟩
theorem rtest_any (m v : Int) (z n h c : Bool) (w : World) (o0 : -9223372036854775808 ≤ m) (o1 : m ≤ 9223372036854775807) (v0 : 0 ≤ v) (v1 : v ≤ 255) :
    Calls Try.prog 15 #[.int .i64 m, .int .u8 v, .agg #[.bool z, .bool n, .bool h, .bool c]] w fun e w' => e = .returned (.agg #[.bool (!bitOf v (m % 8)), .bool false, .bool true, .bool c]) ∧ Grown w w' := by
  go_enter Try.func15, Try.ntmps15
  go_wp2
  go_region_held3 (fun w' => w'.cell? ⟨w.heap.size, 3, none⟩ = some (.bool c)) (go_keep) (first | (go_at_call 26; refine (rop_any _ _ o0 o1).mono ?_; rintro e v1 ⟨rfl, rfl⟩) | (go_at_call 27; refine (rbit_any _ _ _ v0 v1).mono ?_; rintro e v2 ⟨rfl, rfl⟩))
  go_wp2
  exact bodyPost_ret (v := .agg #[.bool (!bitOf v (m % 8)), .bool false, .bool true, .bool c]) (by simp [results, Try.results15, go_sem]) rfl ⟨rfl, ((alloc1 _ _ _).alloc _ _).drew⟩
theorem rsdo0_any (op v : Int) (z n h c : Bool) (w : World) (o0 : -9223372036854775808 ≤ op) (o1 : op ≤ 9223372036854775807) (ho : op % 8 = 0) (v0 : 0 ≤ v) (v1 : v ≤ 255) :
    Calls Try.prog 11 #[.int .i64 op, .int .u8 v, .agg #[.bool z, .bool n, .bool h, .bool c]] w fun e w' => e = .returned (.tuple #[.int .u8 (shOf 0 v c), .agg #[.bool (shOf 0 v c == 0), .bool false, .bool false, .bool (shOut 0 v)]]) ∧ Grown w w' := by
  have HO := hid ho
  clear ho
  have EM := hid (fin8 (p := fun v => ∀ inn : Bool, moveOf v true inn = putOf (v * 2 % 256) 0 inn ∧ moveOf v false inn = putOf (v / 2) 7 inn) move_fin v v0 v1 (bitOf v 7))
  have E1 := hid (show shOf 0 v c = putOf (v * 2 % 256) 0 (bitOf v 7) from rfl)
  have E2 := hid (show shOut 0 v = bitOf v 7 from rfl)
  rw [E1.out, E2.out]
  go_enter Try.func11, Try.ntmps11
  go_wp2_with (first | (go_at_call 26; refine (rop_any _ _ o0 o1).mono ?_; rintro e w' ⟨rfl, rfl⟩; rw [HO.out]) | (go_at_call 27; refine (rbit_any _ _ _ v0 v1).mono ?_; rintro e w' ⟨rfl, rfl⟩) | (go_at_call 28; refine (rmove_any _ _ _ _ v0 v1).mono ?_; rintro e w' ⟨rfl, rfl⟩; rw [EM.out.1]))
  exact bodyPost_ret (v := .tuple #[.int .u8 (putOf (v * 2 % 256) 0 (bitOf v 7)), .agg #[.bool (putOf (v * 2 % 256) 0 (bitOf v 7) == 0), .bool false, .bool false, .bool (bitOf v 7)]]) (by simp [results, Try.results11, go_sem]) rfl ⟨rfl, (alloc1 _ _ _).alloc _ _⟩
theorem rsdo1_any (op v : Int) (z n h c : Bool) (w : World) (o0 : -9223372036854775808 ≤ op) (o1 : op ≤ 9223372036854775807) (ho : op % 8 = 1) (v0 : 0 ≤ v) (v1 : v ≤ 255) :
    Calls Try.prog 11 #[.int .i64 op, .int .u8 v, .agg #[.bool z, .bool n, .bool h, .bool c]] w fun e w' => e = .returned (.tuple #[.int .u8 (shOf 1 v c), .agg #[.bool (shOf 1 v c == 0), .bool false, .bool false, .bool (shOut 1 v)]]) ∧ Grown w w' := by
  have HO := hid ho
  clear ho
  have EM := hid (fin8 (p := fun v => ∀ inn : Bool, moveOf v true inn = putOf (v * 2 % 256) 0 inn ∧ moveOf v false inn = putOf (v / 2) 7 inn) move_fin v v0 v1 (bitOf v 0))
  have E1 := hid (show shOf 1 v c = putOf (v / 2) 7 (bitOf v 0) from rfl)
  have E2 := hid (show shOut 1 v = bitOf v 0 from rfl)
  rw [E1.out, E2.out]
  go_enter Try.func11, Try.ntmps11
  go_wp2_with (first | (go_at_call 26; refine (rop_any _ _ o0 o1).mono ?_; rintro e w' ⟨rfl, rfl⟩; rw [HO.out]) | (go_at_call 27; refine (rbit_any _ _ _ v0 v1).mono ?_; rintro e w' ⟨rfl, rfl⟩) | (go_at_call 28; refine (rmove_any _ _ _ _ v0 v1).mono ?_; rintro e w' ⟨rfl, rfl⟩; rw [EM.out.2]))
  exact bodyPost_ret (v := .tuple #[.int .u8 (putOf (v / 2) 7 (bitOf v 0)), .agg #[.bool (putOf (v / 2) 7 (bitOf v 0) == 0), .bool false, .bool false, .bool (bitOf v 0)]]) (by simp [results, Try.results11, go_sem]) rfl ⟨rfl, (alloc1 _ _ _).alloc _ _⟩
theorem rsdo2_any (op v : Int) (z n h c : Bool) (w : World) (o0 : -9223372036854775808 ≤ op) (o1 : op ≤ 9223372036854775807) (ho : op % 8 = 2) (v0 : 0 ≤ v) (v1 : v ≤ 255) :
    Calls Try.prog 11 #[.int .i64 op, .int .u8 v, .agg #[.bool z, .bool n, .bool h, .bool c]] w fun e w' => e = .returned (.tuple #[.int .u8 (shOf 2 v c), .agg #[.bool (shOf 2 v c == 0), .bool false, .bool false, .bool (shOut 2 v)]]) ∧ Grown w w' := by
  have HO := hid ho
  clear ho
  have EM := hid (fin8 (p := fun v => ∀ inn : Bool, moveOf v true inn = putOf (v * 2 % 256) 0 inn ∧ moveOf v false inn = putOf (v / 2) 7 inn) move_fin v v0 v1 (c))
  have E1 := hid (show shOf 2 v c = putOf (v * 2 % 256) 0 (c) from rfl)
  have E2 := hid (show shOut 2 v = bitOf v 7 from rfl)
  rw [E1.out, E2.out]
  go_enter Try.func11, Try.ntmps11
  go_wp2_with (first | (go_at_call 26; refine (rop_any _ _ o0 o1).mono ?_; rintro e w' ⟨rfl, rfl⟩; rw [HO.out]) | (go_at_call 27; refine (rbit_any _ _ _ v0 v1).mono ?_; rintro e w' ⟨rfl, rfl⟩) | (go_at_call 28; refine (rmove_any _ _ _ _ v0 v1).mono ?_; rintro e w' ⟨rfl, rfl⟩; rw [EM.out.1]))
  exact bodyPost_ret (v := .tuple #[.int .u8 (putOf (v * 2 % 256) 0 (c)), .agg #[.bool (putOf (v * 2 % 256) 0 (c) == 0), .bool false, .bool false, .bool (bitOf v 7)]]) (by simp [results, Try.results11, go_sem]) rfl ⟨rfl, (alloc1 _ _ _).alloc _ _⟩
theorem rsdo3_any (op v : Int) (z n h c : Bool) (w : World) (o0 : -9223372036854775808 ≤ op) (o1 : op ≤ 9223372036854775807) (ho : op % 8 = 3) (v0 : 0 ≤ v) (v1 : v ≤ 255) :
    Calls Try.prog 11 #[.int .i64 op, .int .u8 v, .agg #[.bool z, .bool n, .bool h, .bool c]] w fun e w' => e = .returned (.tuple #[.int .u8 (shOf 3 v c), .agg #[.bool (shOf 3 v c == 0), .bool false, .bool false, .bool (shOut 3 v)]]) ∧ Grown w w' := by
  have HO := hid ho
  clear ho
  have EM := hid (fin8 (p := fun v => ∀ inn : Bool, moveOf v true inn = putOf (v * 2 % 256) 0 inn ∧ moveOf v false inn = putOf (v / 2) 7 inn) move_fin v v0 v1 (c))
  have E1 := hid (show shOf 3 v c = putOf (v / 2) 7 (c) from rfl)
  have E2 := hid (show shOut 3 v = bitOf v 0 from rfl)
  rw [E1.out, E2.out]
  go_enter Try.func11, Try.ntmps11
  go_wp2_with (first | (go_at_call 26; refine (rop_any _ _ o0 o1).mono ?_; rintro e w' ⟨rfl, rfl⟩; rw [HO.out]) | (go_at_call 27; refine (rbit_any _ _ _ v0 v1).mono ?_; rintro e w' ⟨rfl, rfl⟩) | (go_at_call 28; refine (rmove_any _ _ _ _ v0 v1).mono ?_; rintro e w' ⟨rfl, rfl⟩; rw [EM.out.2]))
  exact bodyPost_ret (v := .tuple #[.int .u8 (putOf (v / 2) 7 (c)), .agg #[.bool (putOf (v / 2) 7 (c) == 0), .bool false, .bool false, .bool (bitOf v 0)]]) (by simp [results, Try.results11, go_sem]) rfl ⟨rfl, (alloc1 _ _ _).alloc _ _⟩
theorem rsdo4_any (op v : Int) (z n h c : Bool) (w : World) (o0 : -9223372036854775808 ≤ op) (o1 : op ≤ 9223372036854775807) (ho : op % 8 = 4) (v0 : 0 ≤ v) (v1 : v ≤ 255) :
    Calls Try.prog 11 #[.int .i64 op, .int .u8 v, .agg #[.bool z, .bool n, .bool h, .bool c]] w fun e w' => e = .returned (.tuple #[.int .u8 (shOf 4 v c), .agg #[.bool (shOf 4 v c == 0), .bool false, .bool false, .bool (shOut 4 v)]]) ∧ Grown w w' := by
  have HO := hid ho
  clear ho
  have EM := hid (fin8 (p := fun v => ∀ inn : Bool, moveOf v true inn = putOf (v * 2 % 256) 0 inn ∧ moveOf v false inn = putOf (v / 2) 7 inn) move_fin v v0 v1 (false))
  have E1 := hid (show shOf 4 v c = putOf (v * 2 % 256) 0 (false) from rfl)
  have E2 := hid (show shOut 4 v = bitOf v 7 from rfl)
  rw [E1.out, E2.out]
  go_enter Try.func11, Try.ntmps11
  go_wp2_with (first | (go_at_call 26; refine (rop_any _ _ o0 o1).mono ?_; rintro e w' ⟨rfl, rfl⟩; rw [HO.out]) | (go_at_call 27; refine (rbit_any _ _ _ v0 v1).mono ?_; rintro e w' ⟨rfl, rfl⟩) | (go_at_call 28; refine (rmove_any _ _ _ _ v0 v1).mono ?_; rintro e w' ⟨rfl, rfl⟩; rw [EM.out.1]))
  exact bodyPost_ret (v := .tuple #[.int .u8 (putOf (v * 2 % 256) 0 (false)), .agg #[.bool (putOf (v * 2 % 256) 0 (false) == 0), .bool false, .bool false, .bool (bitOf v 7)]]) (by simp [results, Try.results11, go_sem]) rfl ⟨rfl, (alloc1 _ _ _).alloc _ _⟩
theorem rsdo5_any (op v : Int) (z n h c : Bool) (w : World) (o0 : -9223372036854775808 ≤ op) (o1 : op ≤ 9223372036854775807) (ho : op % 8 = 5) (v0 : 0 ≤ v) (v1 : v ≤ 255) :
    Calls Try.prog 11 #[.int .i64 op, .int .u8 v, .agg #[.bool z, .bool n, .bool h, .bool c]] w fun e w' => e = .returned (.tuple #[.int .u8 (shOf 5 v c), .agg #[.bool (shOf 5 v c == 0), .bool false, .bool false, .bool (shOut 5 v)]]) ∧ Grown w w' := by
  have HO := hid ho
  clear ho
  have EM := hid (fin8 (p := fun v => ∀ inn : Bool, moveOf v true inn = putOf (v * 2 % 256) 0 inn ∧ moveOf v false inn = putOf (v / 2) 7 inn) move_fin v v0 v1 (bitOf v 7))
  have E1 := hid (show shOf 5 v c = putOf (v / 2) 7 (bitOf v 7) from rfl)
  have E2 := hid (show shOut 5 v = bitOf v 0 from rfl)
  rw [E1.out, E2.out]
  go_enter Try.func11, Try.ntmps11
  go_wp2_with (first | (go_at_call 26; refine (rop_any _ _ o0 o1).mono ?_; rintro e w' ⟨rfl, rfl⟩; rw [HO.out]) | (go_at_call 27; refine (rbit_any _ _ _ v0 v1).mono ?_; rintro e w' ⟨rfl, rfl⟩) | (go_at_call 28; refine (rmove_any _ _ _ _ v0 v1).mono ?_; rintro e w' ⟨rfl, rfl⟩; rw [EM.out.2]))
  exact bodyPost_ret (v := .tuple #[.int .u8 (putOf (v / 2) 7 (bitOf v 7)), .agg #[.bool (putOf (v / 2) 7 (bitOf v 7) == 0), .bool false, .bool false, .bool (bitOf v 0)]]) (by simp [results, Try.results11, go_sem]) rfl ⟨rfl, (alloc1 _ _ _).alloc _ _⟩
theorem rsdo6_any (op v : Int) (z n h c : Bool) (w : World) (o0 : -9223372036854775808 ≤ op) (o1 : op ≤ 9223372036854775807) (ho : op % 8 = 6) (v0 : 0 ≤ v) (v1 : v ≤ 255) :
    Calls Try.prog 11 #[.int .i64 op, .int .u8 v, .agg #[.bool z, .bool n, .bool h, .bool c]] w fun e w' => e = .returned (.tuple #[.int .u8 (shOf 6 v c), .agg #[.bool (shOf 6 v c == 0), .bool false, .bool false, .bool (shOut 6 v)]]) ∧ Grown w w' := by
  have HO := hid ho
  clear ho
  have EM := hid (fin8 (p := fun v => v % 16 * 16 + v / 16 = turnOf v 4) swap_fin v v0 v1)
  have E1 := hid (show shOf 6 v c = turnOf v 4 from rfl)
  have E2 := hid (show shOut 6 v = false from rfl)
  rw [E1.out, E2.out]
  go_enter Try.func11, Try.ntmps11
  go_wp2_with (go_at_call 26; refine (rop_any _ _ o0 o1).mono ?_; rintro e w' ⟨rfl, rfl⟩; rw [HO.out])
  refine bodyPost_ret (v := .tuple #[.int .u8 (v % 16 * 16 + v / 16), .agg #[.bool (v % 16 * 16 + v / 16 == 0), .bool false, .bool false, .bool false]]) (by simp [results, Try.results11, go_sem]) rfl ⟨?_, (alloc1 _ _ _).alloc _ _⟩
  rw [EM.out]
theorem rsdo7_any (op v : Int) (z n h c : Bool) (w : World) (o0 : -9223372036854775808 ≤ op) (o1 : op ≤ 9223372036854775807) (ho : op % 8 = 7) (v0 : 0 ≤ v) (v1 : v ≤ 255) :
    Calls Try.prog 11 #[.int .i64 op, .int .u8 v, .agg #[.bool z, .bool n, .bool h, .bool c]] w fun e w' => e = .returned (.tuple #[.int .u8 (shOf 7 v c), .agg #[.bool (shOf 7 v c == 0), .bool false, .bool false, .bool (shOut 7 v)]]) ∧ Grown w w' := by
  have HO := hid ho
  clear ho
  have EM := hid (fin8 (p := fun v => ∀ inn : Bool, moveOf v true inn = putOf (v * 2 % 256) 0 inn ∧ moveOf v false inn = putOf (v / 2) 7 inn) move_fin v v0 v1 (false))
  have E1 := hid (show shOf 7 v c = putOf (v / 2) 7 (false) from rfl)
  have E2 := hid (show shOut 7 v = bitOf v 0 from rfl)
  rw [E1.out, E2.out]
  go_enter Try.func11, Try.ntmps11
  go_wp2_with (first | (go_at_call 26; refine (rop_any _ _ o0 o1).mono ?_; rintro e w' ⟨rfl, rfl⟩; rw [HO.out]) | (go_at_call 27; refine (rbit_any _ _ _ v0 v1).mono ?_; rintro e w' ⟨rfl, rfl⟩) | (go_at_call 28; refine (rmove_any _ _ _ _ v0 v1).mono ?_; rintro e w' ⟨rfl, rfl⟩; rw [EM.out.2]))
  exact bodyPost_ret (v := .tuple #[.int .u8 (putOf (v / 2) 7 (false)), .agg #[.bool (putOf (v / 2) 7 (false) == 0), .bool false, .bool false, .bool (bitOf v 0)]]) (by simp [results, Try.results11, go_sem]) rfl ⟨rfl, (alloc1 _ _ _).alloc _ _⟩
theorem rsdo_any (op k v : Int) (z n h c : Bool) (w : World) (o0 : -9223372036854775808 ≤ op) (o1 : op ≤ 9223372036854775807) (ho : op % 8 = k) (v0 : 0 ≤ v) (v1 : v ≤ 255) :
    Calls Try.prog 11 #[.int .i64 op, .int .u8 v, .agg #[.bool z, .bool n, .bool h, .bool c]] w fun e w' => e = .returned (.tuple #[.int .u8 (shOf k v c), .agg #[.bool (shOf k v c == 0), .bool false, .bool false, .bool (shOut k v)]]) ∧ Grown w w' := by
  have hk : k = 0 ∨ k = 1 ∨ k = 2 ∨ k = 3 ∨ k = 4 ∨ k = 5 ∨ k = 6 ∨ k = 7 := by omega
  rcases hk with rfl | rfl | rfl | rfl | rfl | rfl | rfl | rfl
  · exact rsdo0_any op v z n h c w o0 o1 ho v0 v1
  · exact rsdo1_any op v z n h c w o0 o1 ho v0 v1
  · exact rsdo2_any op v z n h c w o0 o1 ho v0 v1
  · exact rsdo3_any op v z n h c w o0 o1 ho v0 v1
  · exact rsdo4_any op v z n h c w o0 o1 ho v0 v1
  · exact rsdo5_any op v z n h c w o0 o1 ho v0 v1
  · exact rsdo6_any op v z n h c w o0 o1 ho v0 v1
  · exact rsdo7_any op v z n h c w o0 o1 ho v0 v1
end Go.Proofs.Ytbgegbddommcgaa
