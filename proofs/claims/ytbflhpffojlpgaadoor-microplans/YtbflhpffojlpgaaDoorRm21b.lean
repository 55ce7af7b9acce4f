/- The document's stack, cycle, Form, Asks of layer 21, over this seat's translation. -/
import Derived.Test.YtbflhpffojlpgaaDoorRm21a
import Derived.Test.YtbflhpffojlpgaaDoorRf4
namespace Go.Proofs.YtbflhpffojlpgaaDoor
open Go.RowKit
set_option linter.unusedVariables false
set_option linter.unusedSimpArgs false

set_option maxRecDepth 100000 in
set_option maxHeartbeats 4000000 in
theorem rstk_116 (w : World) : Calls Tryd.prog 45 #[.int .u8 116] w fun e w' => e = .returned (.agg (mcC (stkP 116)).toArray) ∧ Kept w w' := by
  go_enter Tryd.func45, Tryd.ntmps45
  go_wp2
  exact bodyPost_ret (v := .agg #[.int .i64 2, .int .i64 11, .int .i64 10]) (by simp [results, Tryd.results45, go_sem]) rfl ⟨rfl, (Kept.refl w).alloc _⟩
set_option maxRecDepth 100000 in
set_option maxHeartbeats 4000000 in
theorem rstk_84 (w : World) : Calls Tryd.prog 45 #[.int .u8 84] w fun e w' => e = .returned (.agg (mcC (stkP 84)).toArray) ∧ Kept w w' := by
  go_enter Tryd.func45, Tryd.ntmps45
  go_wp2
  exact bodyPost_ret (v := .agg #[.int .i64 2, .int .i64 11, .int .i64 11]) (by simp [results, Tryd.results45, go_sem]) rfl ⟨rfl, (Kept.refl w).alloc _⟩
set_option maxRecDepth 100000 in
set_option maxHeartbeats 4000000 in
theorem rstk_99 (w : World) : Calls Tryd.prog 45 #[.int .u8 99] w fun e w' => e = .returned (.agg (mcC (stkP 99)).toArray) ∧ Kept w w' := by
  go_enter Tryd.func45, Tryd.ntmps45
  go_wp2
  exact bodyPost_ret (v := .agg #[.int .i64 2, .int .i64 11, .int .i64 8]) (by simp [results, Tryd.results45, go_sem]) rfl ⟨rfl, (Kept.refl w).alloc _⟩
set_option maxRecDepth 100000 in
set_option maxHeartbeats 4000000 in
theorem rstk_67 (w : World) : Calls Tryd.prog 45 #[.int .u8 67] w fun e w' => e = .returned (.agg (mcC (stkP 67)).toArray) ∧ Kept w w' := by
  go_enter Tryd.func45, Tryd.ntmps45
  go_wp2
  exact bodyPost_ret (v := .agg #[.int .i64 2, .int .i64 11, .int .i64 7]) (by simp [results, Tryd.results45, go_sem]) rfl ⟨rfl, (Kept.refl w).alloc _⟩
set_option maxRecDepth 100000 in
set_option maxHeartbeats 4000000 in
theorem rstk_111 (w : World) : Calls Tryd.prog 45 #[.int .u8 111] w fun e w' => e = .returned (.agg (mcC (stkP 111)).toArray) ∧ Kept w w' := by
  go_enter Tryd.func45, Tryd.ntmps45
  go_wp2
  exact bodyPost_ret (v := .agg #[.int .i64 1, .int .i64 12, .int .i64 1]) (by simp [results, Tryd.results45, go_sem]) rfl ⟨rfl, (Kept.refl w).alloc _⟩
set_option maxRecDepth 100000 in
set_option maxHeartbeats 4000000 in
theorem rstk_79 (w : World) : Calls Tryd.prog 45 #[.int .u8 79] w fun e w' => e = .returned (.agg (mcC (stkP 79)).toArray) ∧ Kept w w' := by
  go_enter Tryd.func45, Tryd.ntmps45
  go_wp2
  exact bodyPost_ret (v := .agg #[.int .i64 1, .int .i64 12, .int .i64 2]) (by simp [results, Tryd.results45, go_sem]) rfl ⟨rfl, (Kept.refl w).alloc _⟩
set_option maxRecDepth 100000 in
set_option maxHeartbeats 4000000 in
theorem rstk_no (c : Int) (w : World) (n116 : (c == 116) = false) (n84 : (c == 84) = false) (n99 : (c == 99) = false) (n67 : (c == 67) = false) (n111 : (c == 111) = false) (n79 : (c == 79) = false) : Calls Tryd.prog 45 #[.int .u8 c] w fun e w' => e = .returned (.agg (mcC (0, 0, 0)).toArray) ∧ Kept w w' := by
  go_enter Tryd.func45, Tryd.ntmps45
  go_wp2
  exact bodyPost_ret (v := .agg #[.int .i64 0, .int .i64 0, .int .i64 0]) (by simp [results, Tryd.results45, go_sem]) rfl ⟨rfl, (Kept.refl w).alloc _⟩
theorem rstk21 (c : Int) (w : World) : Calls Tryd.prog 45 #[.int .u8 c] w fun e w' => e = .returned (.agg (mcC (stkP c)).toArray) ∧ Kept w w' := by
  by_cases q116 : c = 116
  · subst q116; exact rstk_116 w
  by_cases q84 : c = 84
  · subst q84; exact rstk_84 w
  by_cases q99 : c = 99
  · subst q99; exact rstk_99 w
  by_cases q67 : c = 67
  · subst q67; exact rstk_67 w
  by_cases q111 : c = 111
  · subst q111; exact rstk_111 w
  by_cases q79 : c = 79
  · subst q79; exact rstk_79 w
  rw [show stkP c = (0, 0, 0) by simp [stkP, q116, q84, q99, q67, q111, q79]]
  exact rstk_no c w (by simp [q116]) (by simp [q84]) (by simp [q99]) (by simp [q67]) (by simp [q111]) (by simp [q79])
set_option maxRecDepth 100000 in
set_option maxHeartbeats 4000000 in
theorem rcyc_108 (k x y b c t : Int) (w : World) (x0 : 0 ≤ x) (x7 : x ≤ 7) : Calls Tryd.prog 25 #[.int .u8 108, .agg #[.int .i64 k, .int .i64 x, .int .i64 y, .int .i64 b, .int .i64 c, .int .i64 t]] w fun e w' => e = .returned (.agg (mcC (cycP 108 x)).toArray) ∧ Kept w w' := by
  have e1 : IntKind.i64.wrap (3 + x) = 3 + x := by rw [IntKind.wrap_i64]; omega
  go_enter Tryd.func25, Tryd.ntmps25
  go_wp2
  exact bodyPost_ret (v := .agg #[.int .i64 1, .int .i64 1, .int .i64 1]) (by simp [results, Tryd.results25, go_sem]) rfl ⟨rfl, ((Kept.refl w).alloc _).alloc _⟩
set_option maxRecDepth 100000 in
set_option maxHeartbeats 4000000 in
theorem rcyc_104 (k x y b c t : Int) (w : World) (x0 : 0 ≤ x) (x7 : x ≤ 7) : Calls Tryd.prog 25 #[.int .u8 104, .agg #[.int .i64 k, .int .i64 x, .int .i64 y, .int .i64 b, .int .i64 c, .int .i64 t]] w fun e w' => e = .returned (.agg (mcC (cycP 104 x)).toArray) ∧ Kept w w' := by
  have e1 : IntKind.i64.wrap (3 + x) = 3 + x := by rw [IntKind.wrap_i64]; omega
  go_enter Tryd.func25, Tryd.ntmps25
  go_wp2
  exact bodyPost_ret (v := .agg #[.int .i64 1, .int .i64 1, .int .i64 2]) (by simp [results, Tryd.results25, go_sem]) rfl ⟨rfl, ((Kept.refl w).alloc _).alloc _⟩
set_option maxRecDepth 100000 in
set_option maxHeartbeats 4000000 in
theorem rcyc_114 (k x y b c t : Int) (w : World) (x0 : 0 ≤ x) (x7 : x ≤ 7) : Calls Tryd.prog 25 #[.int .u8 114, .agg #[.int .i64 k, .int .i64 x, .int .i64 y, .int .i64 b, .int .i64 c, .int .i64 t]] w fun e w' => e = .returned (.agg (mcC (cycP 114 x)).toArray) ∧ Kept w w' := by
  have e1 : IntKind.i64.wrap (3 + x) = 3 + x := by rw [IntKind.wrap_i64]; omega
  go_enter Tryd.func25, Tryd.ntmps25
  go_wp2
  exact bodyPost_ret (v := .agg #[.int .i64 1, .int .i64 2, .int .i64 1]) (by simp [results, Tryd.results25, go_sem]) rfl ⟨rfl, ((Kept.refl w).alloc _).alloc _⟩
set_option maxRecDepth 100000 in
set_option maxHeartbeats 4000000 in
theorem rcyc_119 (k x y b c t : Int) (w : World) (x0 : 0 ≤ x) (x7 : x ≤ 7) : Calls Tryd.prog 25 #[.int .u8 119, .agg #[.int .i64 k, .int .i64 x, .int .i64 y, .int .i64 b, .int .i64 c, .int .i64 t]] w fun e w' => e = .returned (.agg (mcC (cycP 119 x)).toArray) ∧ Kept w w' := by
  have e1 : IntKind.i64.wrap (3 + x) = 3 + x := by rw [IntKind.wrap_i64]; omega
  go_enter Tryd.func25, Tryd.ntmps25
  go_wp2
  exact bodyPost_ret (v := .agg #[.int .i64 2, .int .i64 2, .int .i64 4]) (by simp [results, Tryd.results25, go_sem]) rfl ⟨rfl, ((Kept.refl w).alloc _).alloc _⟩
set_option maxRecDepth 100000 in
set_option maxHeartbeats 4000000 in
theorem rcyc_87 (k x y b c t : Int) (w : World) (x0 : 0 ≤ x) (x7 : x ≤ 7) : Calls Tryd.prog 25 #[.int .u8 87, .agg #[.int .i64 k, .int .i64 x, .int .i64 y, .int .i64 b, .int .i64 c, .int .i64 t]] w fun e w' => e = .returned (.agg (mcC (cycP 87 x)).toArray) ∧ Kept w w' := by
  have e1 : IntKind.i64.wrap (3 + x) = 3 + x := by rw [IntKind.wrap_i64]; omega
  go_enter Tryd.func25, Tryd.ntmps25
  go_wp2
  exact bodyPost_ret (v := .agg #[.int .i64 2, .int .i64 2, .int .i64 1]) (by simp [results, Tryd.results25, go_sem]) rfl ⟨rfl, ((Kept.refl w).alloc _).alloc _⟩
set_option maxRecDepth 100000 in
set_option maxHeartbeats 4000000 in
theorem rcyc_100 (k x y b c t : Int) (w : World) (x0 : 0 ≤ x) (x7 : x ≤ 7) : Calls Tryd.prog 25 #[.int .u8 100, .agg #[.int .i64 k, .int .i64 x, .int .i64 y, .int .i64 b, .int .i64 c, .int .i64 t]] w fun e w' => e = .returned (.agg (mcC (cycP 100 x)).toArray) ∧ Kept w w' := by
  have e1 : IntKind.i64.wrap (3 + x) = 3 + x := by rw [IntKind.wrap_i64]; omega
  go_enter Tryd.func25, Tryd.ntmps25
  go_wp2
  exact bodyPost_ret (v := .agg #[.int .i64 2, .int .i64 2, .int .i64 9]) (by simp [results, Tryd.results25, go_sem]) rfl ⟨rfl, ((Kept.refl w).alloc _).alloc _⟩
set_option maxRecDepth 100000 in
set_option maxHeartbeats 4000000 in
theorem rcyc_113 (k x y b c t : Int) (w : World) (x0 : 0 ≤ x) (x7 : x ≤ 7) : Calls Tryd.prog 25 #[.int .u8 113, .agg #[.int .i64 k, .int .i64 x, .int .i64 y, .int .i64 b, .int .i64 c, .int .i64 t]] w fun e w' => e = .returned (.agg (mcC (cycP 113 x)).toArray) ∧ Kept w w' := by
  have e1 : IntKind.i64.wrap (3 + x) = 3 + x := by rw [IntKind.wrap_i64]; omega
  go_enter Tryd.func25, Tryd.ntmps25
  go_wp2
  exact bodyPost_ret (v := .agg #[.int .i64 1, .int .i64 (3 + x), .int .i64 1]) (by simp [results, Tryd.results25, go_sem]) rfl ⟨rfl, ((Kept.refl w).alloc _).alloc _⟩
set_option maxRecDepth 100000 in
set_option maxHeartbeats 4000000 in
theorem rcyc_81 (k x y b c t : Int) (w : World) (x0 : 0 ≤ x) (x7 : x ≤ 7) : Calls Tryd.prog 25 #[.int .u8 81, .agg #[.int .i64 k, .int .i64 x, .int .i64 y, .int .i64 b, .int .i64 c, .int .i64 t]] w fun e w' => e = .returned (.agg (mcC (cycP 81 x)).toArray) ∧ Kept w w' := by
  have e1 : IntKind.i64.wrap (3 + x) = 3 + x := by rw [IntKind.wrap_i64]; omega
  go_enter Tryd.func25, Tryd.ntmps25
  go_wp2
  exact bodyPost_ret (v := .agg #[.int .i64 2, .int .i64 (3 + x), .int .i64 3]) (by simp [results, Tryd.results25, go_sem]) rfl ⟨rfl, ((Kept.refl w).alloc _).alloc _⟩
set_option maxRecDepth 100000 in
set_option maxHeartbeats 4000000 in
theorem rcyc_103 (k x y b c t : Int) (w : World) (x0 : 0 ≤ x) (x7 : x ≤ 7) : Calls Tryd.prog 25 #[.int .u8 103, .agg #[.int .i64 k, .int .i64 x, .int .i64 y, .int .i64 b, .int .i64 c, .int .i64 t]] w fun e w' => e = .returned (.agg (mcC (cycP 103 x)).toArray) ∧ Kept w w' := by
  have e1 : IntKind.i64.wrap (3 + x) = 3 + x := by rw [IntKind.wrap_i64]; omega
  go_enter Tryd.func25, Tryd.ntmps25
  go_wp2
  exact bodyPost_ret (v := .agg #[.int .i64 1, .int .i64 7, .int .i64 1]) (by simp [results, Tryd.results25, go_sem]) rfl ⟨rfl, ((Kept.refl w).alloc _).alloc _⟩
set_option maxRecDepth 100000 in
set_option maxHeartbeats 4000000 in
theorem rcyc_71 (k x y b c t : Int) (w : World) (x0 : 0 ≤ x) (x7 : x ≤ 7) : Calls Tryd.prog 25 #[.int .u8 71, .agg #[.int .i64 k, .int .i64 x, .int .i64 y, .int .i64 b, .int .i64 c, .int .i64 t]] w fun e w' => e = .returned (.agg (mcC (cycP 71 x)).toArray) ∧ Kept w w' := by
  have e1 : IntKind.i64.wrap (3 + x) = 3 + x := by rw [IntKind.wrap_i64]; omega
  go_enter Tryd.func25, Tryd.ntmps25
  go_wp2
  exact bodyPost_ret (v := .agg #[.int .i64 2, .int .i64 7, .int .i64 3]) (by simp [results, Tryd.results25, go_sem]) rfl ⟨rfl, ((Kept.refl w).alloc _).alloc _⟩
set_option maxRecDepth 100000 in
set_option maxHeartbeats 4000000 in
theorem rcyc_112 (k x y b c t : Int) (w : World) (x0 : 0 ≤ x) (x7 : x ≤ 7) : Calls Tryd.prog 25 #[.int .u8 112, .agg #[.int .i64 k, .int .i64 x, .int .i64 y, .int .i64 b, .int .i64 c, .int .i64 t]] w fun e w' => e = .returned (.agg (mcC (cycP 112 x)).toArray) ∧ Kept w w' := by
  have e1 : IntKind.i64.wrap (3 + x) = 3 + x := by rw [IntKind.wrap_i64]; omega
  go_enter Tryd.func25, Tryd.ntmps25
  go_wp2
  exact bodyPost_ret (v := .agg #[.int .i64 1, .int .i64 8, .int .i64 1]) (by simp [results, Tryd.results25, go_sem]) rfl ⟨rfl, ((Kept.refl w).alloc _).alloc _⟩
set_option maxRecDepth 100000 in
set_option maxHeartbeats 4000000 in
theorem rcyc_80 (k x y b c t : Int) (w : World) (x0 : 0 ≤ x) (x7 : x ≤ 7) : Calls Tryd.prog 25 #[.int .u8 80, .agg #[.int .i64 k, .int .i64 x, .int .i64 y, .int .i64 b, .int .i64 c, .int .i64 t]] w fun e w' => e = .returned (.agg (mcC (cycP 80 x)).toArray) ∧ Kept w w' := by
  have e1 : IntKind.i64.wrap (3 + x) = 3 + x := by rw [IntKind.wrap_i64]; omega
  go_enter Tryd.func25, Tryd.ntmps25
  go_wp2
  exact bodyPost_ret (v := .agg #[.int .i64 2, .int .i64 8, .int .i64 3]) (by simp [results, Tryd.results25, go_sem]) rfl ⟨rfl, ((Kept.refl w).alloc _).alloc _⟩
set_option maxRecDepth 100000 in
set_option maxHeartbeats 4000000 in
theorem rcyc_102 (k x y b c t : Int) (w : World) (x0 : 0 ≤ x) (x7 : x ≤ 7) : Calls Tryd.prog 25 #[.int .u8 102, .agg #[.int .i64 k, .int .i64 x, .int .i64 y, .int .i64 b, .int .i64 c, .int .i64 t]] w fun e w' => e = .returned (.agg (mcC (cycP 102 x)).toArray) ∧ Kept w w' := by
  have e1 : IntKind.i64.wrap (3 + x) = 3 + x := by rw [IntKind.wrap_i64]; omega
  go_enter Tryd.func25, Tryd.ntmps25
  go_wp2
  exact bodyPost_ret (v := .agg #[.int .i64 1, .int .i64 9, .int .i64 1]) (by simp [results, Tryd.results25, go_sem]) rfl ⟨rfl, ((Kept.refl w).alloc _).alloc _⟩
set_option maxRecDepth 100000 in
set_option maxHeartbeats 4000000 in
theorem rcyc_70 (k x y b c t : Int) (w : World) (x0 : 0 ≤ x) (x7 : x ≤ 7) : Calls Tryd.prog 25 #[.int .u8 70, .agg #[.int .i64 k, .int .i64 x, .int .i64 y, .int .i64 b, .int .i64 c, .int .i64 t]] w fun e w' => e = .returned (.agg (mcC (cycP 70 x)).toArray) ∧ Kept w w' := by
  have e1 : IntKind.i64.wrap (3 + x) = 3 + x := by rw [IntKind.wrap_i64]; omega
  go_enter Tryd.func25, Tryd.ntmps25
  go_wp2
  exact bodyPost_ret (v := .agg #[.int .i64 2, .int .i64 9, .int .i64 3]) (by simp [results, Tryd.results25, go_sem]) rfl ⟨rfl, ((Kept.refl w).alloc _).alloc _⟩
set_option maxRecDepth 100000 in
set_option maxHeartbeats 4000000 in
theorem rcyc_115 (k x y b c t : Int) (w : World) (x0 : 0 ≤ x) (x7 : x ≤ 7) : Calls Tryd.prog 25 #[.int .u8 115, .agg #[.int .i64 k, .int .i64 x, .int .i64 y, .int .i64 b, .int .i64 c, .int .i64 t]] w fun e w' => e = .returned (.agg (mcC (cycP 115 x)).toArray) ∧ Kept w w' := by
  have e1 : IntKind.i64.wrap (3 + x) = 3 + x := by rw [IntKind.wrap_i64]; omega
  go_enter Tryd.func25, Tryd.ntmps25
  go_wp2
  exact bodyPost_ret (v := .agg #[.int .i64 2, .int .i64 9, .int .i64 5]) (by simp [results, Tryd.results25, go_sem]) rfl ⟨rfl, ((Kept.refl w).alloc _).alloc _⟩
set_option maxRecDepth 100000 in
set_option maxHeartbeats 4000000 in
theorem rcyc_83 (k x y b c t : Int) (w : World) (x0 : 0 ≤ x) (x7 : x ≤ 7) : Calls Tryd.prog 25 #[.int .u8 83, .agg #[.int .i64 k, .int .i64 x, .int .i64 y, .int .i64 b, .int .i64 c, .int .i64 t]] w fun e w' => e = .returned (.agg (mcC (cycP 83 x)).toArray) ∧ Kept w w' := by
  have e1 : IntKind.i64.wrap (3 + x) = 3 + x := by rw [IntKind.wrap_i64]; omega
  go_enter Tryd.func25, Tryd.ntmps25
  go_wp2
  exact bodyPost_ret (v := .agg #[.int .i64 2, .int .i64 10, .int .i64 6]) (by simp [results, Tryd.results25, go_sem]) rfl ⟨rfl, ((Kept.refl w).alloc _).alloc _⟩
set_option maxRecDepth 100000 in
set_option maxHeartbeats 4000000 in
theorem rcyc_no (z k x y b c t : Int) (w : World) (n108 : (z == 108) = false) (n104 : (z == 104) = false) (n114 : (z == 114) = false) (n119 : (z == 119) = false) (n87 : (z == 87) = false) (n100 : (z == 100) = false) (n113 : (z == 113) = false) (n81 : (z == 81) = false) (n103 : (z == 103) = false) (n71 : (z == 71) = false) (n112 : (z == 112) = false) (n80 : (z == 80) = false) (n102 : (z == 102) = false) (n70 : (z == 70) = false) (n115 : (z == 115) = false) (n83 : (z == 83) = false) : Calls Tryd.prog 25 #[.int .u8 z, .agg #[.int .i64 k, .int .i64 x, .int .i64 y, .int .i64 b, .int .i64 c, .int .i64 t]] w fun e w' => e = .returned (.agg (mcC (stkP z)).toArray) ∧ Kept w w' := by
  have HA := hid (fun u => rstk21 z u)
  generalize stkP z = m at *
  obtain ⟨m0, m1, m2⟩ := m
  have K0 := hid (((Kept.refl w).alloc (.cells #[.int .i64 k, .int .i64 x, .int .i64 y, .int .i64 b, .int .i64 c, .int .i64 t] 29)).alloc (.cells ([.int .i64 0, .int .i64 0, .int .i64 0] : List Value).toArray 32))
  have X1 : Blk ((w.alloc (.cells #[.int .i64 k, .int .i64 x, .int .i64 y, .int .i64 b, .int .i64 c, .int .i64 t] 29)).alloc (.cells ([.int .i64 0, .int .i64 0, .int .i64 0] : List Value).toArray 32)) (w.heap.size + 1) 32 [.int .i64 0, .int .i64 0, .int .i64 0] := by have q := blk_new (w.alloc (.cells #[.int .i64 k, .int .i64 x, .int .i64 y, .int .i64 b, .int .i64 c, .int .i64 t] 29)) [.int .i64 0, .int .i64 0, .int .i64 0] 32; rw [World.size_alloc] at q; exact q
  go_enter Tryd.func25, Tryd.ntmps25
  go_wp2_with fail
  refine (HA.out _).mono ?_
  rintro e u1 ⟨rfl, k1⟩
  have R1 := blk_kept k1 X1
  have K1 := hid (K0.out.trans k1)
  clear k1 X1 K0 HA
  go_wp2_with ((with_reducible refine at_st 32 ?_); refine wl_store rfl rfl rfl rfl R1 (by kernel_rfl) rfl (Nat.le_of_ble_eq_true rfl) (fun v2 p2 => ?_); have B2 : Blk v2 (w.heap.size + 1) 32 (mcC (m0, m1, m2)) := p2.blk; have K2 := hid (p2.kept _ K1.out (Nat.le_succ _)); clear p2)
  exact bodyPost_ret (res_cell Tryd.results25 rfl B2 Tryd.underlying32 rfl (by kernel_rfl)) rfl ⟨rfl, K2.out⟩
theorem rcyc21 (z k x y b c t : Int) (w : World) (x0 : 0 ≤ x) (x7 : x ≤ 7) : Calls Tryd.prog 25 #[.int .u8 z, .agg #[.int .i64 k, .int .i64 x, .int .i64 y, .int .i64 b, .int .i64 c, .int .i64 t]] w fun e w' => e = .returned (.agg (mcC (cycP z x)).toArray) ∧ Kept w w' := by
  by_cases q108 : z = 108
  · subst q108; exact rcyc_108 k x y b c t w x0 x7
  by_cases q104 : z = 104
  · subst q104; exact rcyc_104 k x y b c t w x0 x7
  by_cases q114 : z = 114
  · subst q114; exact rcyc_114 k x y b c t w x0 x7
  by_cases q119 : z = 119
  · subst q119; exact rcyc_119 k x y b c t w x0 x7
  by_cases q87 : z = 87
  · subst q87; exact rcyc_87 k x y b c t w x0 x7
  by_cases q100 : z = 100
  · subst q100; exact rcyc_100 k x y b c t w x0 x7
  by_cases q113 : z = 113
  · subst q113; exact rcyc_113 k x y b c t w x0 x7
  by_cases q81 : z = 81
  · subst q81; exact rcyc_81 k x y b c t w x0 x7
  by_cases q103 : z = 103
  · subst q103; exact rcyc_103 k x y b c t w x0 x7
  by_cases q71 : z = 71
  · subst q71; exact rcyc_71 k x y b c t w x0 x7
  by_cases q112 : z = 112
  · subst q112; exact rcyc_112 k x y b c t w x0 x7
  by_cases q80 : z = 80
  · subst q80; exact rcyc_80 k x y b c t w x0 x7
  by_cases q102 : z = 102
  · subst q102; exact rcyc_102 k x y b c t w x0 x7
  by_cases q70 : z = 70
  · subst q70; exact rcyc_70 k x y b c t w x0 x7
  by_cases q115 : z = 115
  · subst q115; exact rcyc_115 k x y b c t w x0 x7
  by_cases q83 : z = 83
  · subst q83; exact rcyc_83 k x y b c t w x0 x7
  rw [show cycP z x = stkP z by simp [cycP, q108, q104, q114, q119, q87, q100, q113, q81, q103, q71, q112, q80, q102, q70, q115, q83]]
  exact rcyc_no z k x y b c t w (by simp [q108]) (by simp [q104]) (by simp [q114]) (by simp [q119]) (by simp [q87]) (by simp [q100]) (by simp [q113]) (by simp [q81]) (by simp [q103]) (by simp [q71]) (by simp [q112]) (by simp [q80]) (by simp [q102]) (by simp [q70]) (by simp [q115]) (by simp [q83])
set_option maxRecDepth 100000 in
set_option maxHeartbeats 4000000 in
theorem rform21 (op : Int) (cb : Bool) (w : World) (h0 : 0 ≤ op) (h1 : op ≤ 255) : Calls Tryd.prog 23 #[.int .u8 op, .bool cb] w fun e w' => e = .returned (.agg (fmL (fmOf op cb)).toArray) ∧ Kept w w' := by
  cases cb
  · have HA := hid (fun (u : World) (k : Kept w u) => rdecode_any op u h0 h1)
    show Calls _ _ _ _ (fun e w' => e = .returned (.agg (fmL (decOf op)).toArray) ∧ Kept w w')
    generalize decOf op = f at *
    have X0 : Blk (w.alloc (.cells ([.int .i64 0, .int .i64 0, .int .i64 0, .int .i64 0, .int .i64 0, .int .i64 0] : List Value).toArray 29)) w.heap.size 29 [.int .i64 0, .int .i64 0, .int .i64 0, .int .i64 0, .int .i64 0, .int .i64 0] := blk_new w _ _
    have K0 := hid ((Kept.refl w).alloc (.cells ([.int .i64 0, .int .i64 0, .int .i64 0, .int .i64 0, .int .i64 0, .int .i64 0] : List Value).toArray 29))
    go_enter Tryd.func23, Tryd.ntmps23
    go_wp2_with fail
    refine (HA.out _ K0.out).mono ?_
    rintro e u1 ⟨rfl, g1⟩
    have R1 := blk_kept (Kept.of g1) X0
    have K1 := hid (K0.out.trans (Kept.of g1))
    clear g1 X0 K0 HA
    go_wp2_with ((with_reducible refine at_st 29 ?_); refine wl_store rfl rfl rfl rfl R1 (by kernel_rfl) rfl (Nat.le_of_ble_eq_true rfl) (fun v2 p2 => ?_); have B2 : Blk v2 w.heap.size 29 (fmL f) := p2.blk; have K2 := hid (p2.kept _ K1.out (Nat.le_refl _)); clear p2)
    exact bodyPost_ret (res_cell Tryd.results23 rfl B2 Tryd.underlying29 rfl (by kernel_rfl)) rfl ⟨rfl, K2.out⟩
  · have HA := hid (fun (u : World) (k : Kept w u) => rdecodeCB_any op u h0 h1)
    show Calls _ _ _ _ (fun e w' => e = .returned (.agg (fmL (cbOf op)).toArray) ∧ Kept w w')
    generalize cbOf op = f at *
    have X0 : Blk (w.alloc (.cells ([.int .i64 0, .int .i64 0, .int .i64 0, .int .i64 0, .int .i64 0, .int .i64 0] : List Value).toArray 29)) w.heap.size 29 [.int .i64 0, .int .i64 0, .int .i64 0, .int .i64 0, .int .i64 0, .int .i64 0] := blk_new w _ _
    have K0 := hid ((Kept.refl w).alloc (.cells ([.int .i64 0, .int .i64 0, .int .i64 0, .int .i64 0, .int .i64 0, .int .i64 0] : List Value).toArray 29))
    go_enter Tryd.func23, Tryd.ntmps23
    go_wp2_with fail
    refine (HA.out _ K0.out).mono ?_
    rintro e u1 ⟨rfl, g1⟩
    have R1 := blk_kept (Kept.of g1) X0
    have K1 := hid (K0.out.trans (Kept.of g1))
    clear g1 X0 K0 HA
    go_wp2_with ((with_reducible refine at_st 29 ?_); refine wl_store rfl rfl rfl rfl R1 (by kernel_rfl) rfl (Nat.le_of_ble_eq_true rfl) (fun v2 p2 => ?_); have B2 : Blk v2 w.heap.size 29 (fmL f) := p2.blk; have K2 := hid (p2.kept _ K1.out (Nat.le_refl _)); clear p2)
    exact bodyPost_ret (res_cell Tryd.results23 rfl B2 Tryd.underlying29 rfl (by kernel_rfl)) rfl ⟨rfl, K2.out⟩
theorem rask_x (x : Int) : (!(x == 4)) = (x != 4) := rfl
set_option maxRecDepth 100000 in
set_option maxHeartbeats 4000000 in
theorem rasks21 (op : Int) (cb : Bool) (w : World) (h0 : 0 ≤ op) (h1 : op ≤ 255) : Calls Tryd.prog 13 #[.int .u8 op, .bool cb] w fun e w' => e = .returned (.bool (raskP (fmOf op cb))) ∧ Kept w w' := by
  have FO := hid (rform21 op cb w h0 h1)
  generalize fmOf op cb = f at *
  obtain ⟨kk, x, y, b, c, t⟩ := f
  by_cases hk : kk = 36
  · have E := hid (show raskP ⟨kk, x, y, b, c, t⟩ = (x != 4) by simp [raskP, hk])
    have n36 : (kk == 36) = true := by simp [hk]
    have n37 : (kk == 37) = false := by simp [hk]
    have n39 : (kk == 39) = false := by simp [hk]
    have n40 : (kk == 40) = false := by simp [hk]
    go_enter Tryd.func13, Tryd.ntmps13
    go_wp2_with fail
    refine FO.out.mono ?_
    rintro e u1 ⟨rfl, q1⟩
    have K1 := hid (q1.alloc (.cells #[.int .i64 kk, .int .i64 x, .int .i64 y, .int .i64 b, .int .i64 c, .int .i64 t] 29))
    clear q1 FO hk
    simp only [fmL]
    go_wp2
    go_ret
    exact ⟨ret_bool E.out.symm, K1.out⟩
  have hk36 := hk
  clear hk
  by_cases hk : kk = 37
  · have E := hid (show raskP ⟨kk, x, y, b, c, t⟩ = (x != 4) by simp [raskP, hk])
    have n36 : (kk == 36) = false := by simp [hk]
    have n37 : (kk == 37) = true := by simp [hk]
    have n39 : (kk == 39) = false := by simp [hk]
    have n40 : (kk == 40) = false := by simp [hk]
    go_enter Tryd.func13, Tryd.ntmps13
    go_wp2_with fail
    refine FO.out.mono ?_
    rintro e u1 ⟨rfl, q1⟩
    have K1 := hid (q1.alloc (.cells #[.int .i64 kk, .int .i64 x, .int .i64 y, .int .i64 b, .int .i64 c, .int .i64 t] 29))
    clear q1 FO hk
    simp only [fmL]
    go_wp2
    go_ret
    exact ⟨ret_bool E.out.symm, K1.out⟩
  have hk37 := hk
  clear hk
  by_cases hk : kk = 39
  · have E := hid (show raskP ⟨kk, x, y, b, c, t⟩ = (x != 4) by simp [raskP, hk])
    have n36 : (kk == 36) = false := by simp [hk]
    have n37 : (kk == 37) = false := by simp [hk]
    have n39 : (kk == 39) = true := by simp [hk]
    have n40 : (kk == 40) = false := by simp [hk]
    go_enter Tryd.func13, Tryd.ntmps13
    go_wp2_with fail
    refine FO.out.mono ?_
    rintro e u1 ⟨rfl, q1⟩
    have K1 := hid (q1.alloc (.cells #[.int .i64 kk, .int .i64 x, .int .i64 y, .int .i64 b, .int .i64 c, .int .i64 t] 29))
    clear q1 FO hk
    simp only [fmL]
    go_wp2
    go_ret
    exact ⟨ret_bool E.out.symm, K1.out⟩
  have hk39 := hk
  clear hk
  by_cases hk : kk = 40
  · have E := hid (show raskP ⟨kk, x, y, b, c, t⟩ = (x != 4) by simp [raskP, hk])
    have n36 : (kk == 36) = false := by simp [hk]
    have n37 : (kk == 37) = false := by simp [hk]
    have n39 : (kk == 39) = false := by simp [hk]
    have n40 : (kk == 40) = true := by simp [hk]
    go_enter Tryd.func13, Tryd.ntmps13
    go_wp2_with fail
    refine FO.out.mono ?_
    rintro e u1 ⟨rfl, q1⟩
    have K1 := hid (q1.alloc (.cells #[.int .i64 kk, .int .i64 x, .int .i64 y, .int .i64 b, .int .i64 c, .int .i64 t] 29))
    clear q1 FO hk
    simp only [fmL]
    go_wp2
    go_ret
    exact ⟨ret_bool E.out.symm, K1.out⟩
  have hk40 := hk
  clear hk
  · have E := hid (show raskP ⟨kk, x, y, b, c, t⟩ = false by simp [raskP, hk36, hk37, hk39, hk40])
    have n36 : (kk == 36) = false := by simp [hk36, hk37, hk39, hk40]
    have n37 : (kk == 37) = false := by simp [hk36, hk37, hk39, hk40]
    have n39 : (kk == 39) = false := by simp [hk36, hk37, hk39, hk40]
    have n40 : (kk == 40) = false := by simp [hk36, hk37, hk39, hk40]
    go_enter Tryd.func13, Tryd.ntmps13
    go_wp2_with fail
    refine FO.out.mono ?_
    rintro e u1 ⟨rfl, q1⟩
    have K1 := hid (q1.alloc (.cells #[.int .i64 kk, .int .i64 x, .int .i64 y, .int .i64 b, .int .i64 c, .int .i64 t] 29))
    clear q1 FO hk36 hk37 hk39 hk40
    simp only [fmL]
    go_wp2
    go_ret
    exact ⟨ret_bool E.out.symm, K1.out⟩
end Go.Proofs.YtbflhpffojlpgaaDoor
