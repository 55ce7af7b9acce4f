/- What operandsOf of layer 6 comes to, kind by kind: the rest. What operandsOf of layer 6 comes to, kind by kind: the rest. -/
import Derived.Test.YtlchkflpaehgcaaGreatDoorCo
namespace Go.Proofs.YtlchkflpaehgcaaGreatDoor
open Go.RowKit
set_option linter.unusedVariables false
set_option linter.unusedSimpArgs false

set_option maxRecDepth 100000 in
theorem ops0 (op x y p q r : Int) (b c : ByteArray) (w : World) (lay : Lay w) (hb : b.size ≤ 1000) (hc : c.size ≤ 1000) : Calls Tryz.prog 51 #[.int .u8 op, .agg #[.int .i64 0, .int .i64 x, .int .i64 y, .int .i64 p, .int .i64 q, .int .i64 r], .string b, .string c] w fun e w' => ∃ v, e = .returned v ∧ Strs w' v [] ∧ Kept w w' := by
  clear lay
  go_enter Tryz.func51, Tryz.ntmps51
  go_wp2
  go_ret
  exact ⟨_, rfl, .inl ⟨rfl, rfl⟩, (by first | exact Kept.refl _ | exact (Kept.refl w).alloc _ | exact ((Kept.refl w).alloc _).alloc _ | exact (((Kept.refl w).alloc _).alloc _).alloc _ | exact (((Kept.refl w).alloc _).alloc _).drew | exact ((((Kept.refl w).alloc _).alloc _).alloc _).drew)⟩
set_option maxRecDepth 100000 in
theorem ops1 (op x y p q r : Int) (b c : ByteArray) (w : World) (lay : Lay w) (hb : b.size ≤ 1000) (hc : c.size ≤ 1000) : Calls Tryz.prog 51 #[.int .u8 op, .agg #[.int .i64 1, .int .i64 x, .int .i64 y, .int .i64 p, .int .i64 q, .int .i64 r], .string b, .string c] w fun e w' => ∃ v, e = .returned v ∧ Strs w' v [b] ∧ Kept w w' := by
  clear lay
  go_enter Tryz.func51, Tryz.ntmps51
  go_wp2
  go_ret
  exact ⟨_, rfl, strs_one_at _ _ (by simp) _ _, (by first | exact Kept.refl _ | exact (Kept.refl w).alloc _ | exact ((Kept.refl w).alloc _).alloc _ | exact (((Kept.refl w).alloc _).alloc _).alloc _ | exact (((Kept.refl w).alloc _).alloc _).drew | exact ((((Kept.refl w).alloc _).alloc _).alloc _).drew)⟩
set_option maxRecDepth 100000 in
theorem ops2 (op x y p q r : Int) (b c : ByteArray) (w : World) (lay : Lay w) (hb : b.size ≤ 1000) (hc : c.size ≤ 1000) : Calls Tryz.prog 51 #[.int .u8 op, .agg #[.int .i64 2, .int .i64 x, .int .i64 y, .int .i64 p, .int .i64 q, .int .i64 r], .string b, .string c] w fun e w' => ∃ v, e = .returned v ∧ Strs w' v [] ∧ Kept w w' := by
  clear lay
  go_enter Tryz.func51, Tryz.ntmps51
  go_wp2
  go_ret
  exact ⟨_, rfl, .inl ⟨rfl, rfl⟩, (by first | exact Kept.refl _ | exact (Kept.refl w).alloc _ | exact ((Kept.refl w).alloc _).alloc _ | exact (((Kept.refl w).alloc _).alloc _).alloc _ | exact (((Kept.refl w).alloc _).alloc _).drew | exact ((((Kept.refl w).alloc _).alloc _).alloc _).drew)⟩
set_option maxRecDepth 100000 in
theorem ops3 (op x y p q r : Int) (b c : ByteArray) (w : World) (lay : Lay w) (hb : b.size ≤ 1000) (hc : c.size ≤ 1000) : Calls Tryz.prog 51 #[.int .u8 op, .agg #[.int .i64 3, .int .i64 x, .int .i64 y, .int .i64 p, .int .i64 q, .int .i64 r], .string b, .string c] w fun e w' => ∃ v, e = .returned v ∧ Strs w' v [] ∧ Kept w w' := by
  clear lay
  go_enter Tryz.func51, Tryz.ntmps51
  go_wp2
  go_ret
  exact ⟨_, rfl, .inl ⟨rfl, rfl⟩, (by first | exact Kept.refl _ | exact (Kept.refl w).alloc _ | exact ((Kept.refl w).alloc _).alloc _ | exact (((Kept.refl w).alloc _).alloc _).alloc _ | exact (((Kept.refl w).alloc _).alloc _).drew | exact ((((Kept.refl w).alloc _).alloc _).alloc _).drew)⟩
set_option maxRecDepth 100000 in
theorem ops4 (op x y p q r : Int) (b c : ByteArray) (w : World) (lay : Lay w) (hb : b.size ≤ 1000) (hc : c.size ≤ 1000) : Calls Tryz.prog 51 #[.int .u8 op, .agg #[.int .i64 4, .int .i64 x, .int .i64 y, .int .i64 p, .int .i64 q, .int .i64 r], .string b, .string c] w fun e w' => ∃ v, e = .returned v ∧ Strs w' v [] ∧ Kept w w' := by
  clear lay
  go_enter Tryz.func51, Tryz.ntmps51
  go_wp2
  go_ret
  exact ⟨_, rfl, .inl ⟨rfl, rfl⟩, (by first | exact Kept.refl _ | exact (Kept.refl w).alloc _ | exact ((Kept.refl w).alloc _).alloc _ | exact (((Kept.refl w).alloc _).alloc _).alloc _ | exact (((Kept.refl w).alloc _).alloc _).drew | exact ((((Kept.refl w).alloc _).alloc _).alloc _).drew)⟩
set_option maxRecDepth 100000 in
theorem ops5 (op x y p q r : Int) (b c : ByteArray) (w : World) (lay : Lay w) (hb : b.size ≤ 1000) (hc : c.size ≤ 1000) (o0 : 0 ≤ op) (o1 : op ≤ 255) : Calls Tryz.prog 51 #[.int .u8 op, .agg #[.int .i64 5, .int .i64 x, .int .i64 y, .int .i64 p, .int .i64 q, .int .i64 r], .string b, .string c] w fun e w' => ∃ v, e = .returned v ∧ Strs w' v [hexM op] ∧ Kept w w' := by
  clear lay
  go_enter Tryz.func51, Tryz.ntmps51
  go_wp2_with (go_at_call 25; refine (lhex8_any op _ o0 o1).mono ?_; rintro e u1 ⟨rfl, g1⟩; have G1 := hid g1; clear g1)
  go_ret
  exact ⟨_, rfl, strs_one_at _ _ (by simp) _ _, (((Kept.refl w).alloc _).trans G1.out).alloc _⟩
set_option maxRecDepth 100000 in
theorem ops6 (op x y p q r : Int) (b c : ByteArray) (w : World) (lay : Lay w) (hb : b.size ≤ 1000) (hc : c.size ≤ 1000) (o0 : 0 ≤ op) (o1 : op ≤ 255) : Calls Tryz.prog 51 #[.int .u8 op, .agg #[.int .i64 6, .int .i64 x, .int .i64 y, .int .i64 p, .int .i64 q, .int .i64 r], .string b, .string c] w fun e w' => ∃ v, e = .returned v ∧ Strs w' v [hexM op] ∧ Kept w w' := by
  clear lay
  go_enter Tryz.func51, Tryz.ntmps51
  go_wp2_with (go_at_call 25; refine (lhex8_any op _ o0 o1).mono ?_; rintro e u1 ⟨rfl, g1⟩; have G1 := hid g1; clear g1)
  go_ret
  exact ⟨_, rfl, strs_one_at _ _ (by simp) _ _, (((Kept.refl w).alloc _).trans G1.out).alloc _⟩
set_option maxRecDepth 100000 in
theorem ops7 (op x y p q r : Int) (b c : ByteArray) (w : World) (lay : Lay w) (hb : b.size ≤ 1000) (hc : c.size ≤ 1000) (x0 : 0 ≤ x) (x1 : x ≤ 7) (y0 : 0 ≤ y) (y1 : y ≤ 7) : Calls Tryz.prog 51 #[.int .u8 op, .agg #[.int .i64 7, .int .i64 x, .int .i64 y, .int .i64 p, .int .i64 q, .int .i64 r], .string b, .string c] w fun e w' => ∃ v, e = .returned v ∧ Strs w' v [tabS regL x, tabS regL y] ∧ Kept w w' := by
  have zreg := lay.reg.1
  have TX := has_tab lay.reg x x0 (by simp [regL]; omega)
  generalize tabS regL x = X at TX ⊢
  have TY := has_tab lay.reg y y0 (by simp [regL]; omega)
  generalize tabS regL y = Y at TY ⊢
  clear lay
  go_enter Tryz.func51, Tryz.ntmps51
  go_wp2
  go_region
  all_goals
    go_wp2
    go_ret
    exact ⟨_, rfl, strs_two_at _ _ (by simp) _ _ _, (by first | exact Kept.refl _ | exact (Kept.refl w).alloc _ | exact ((Kept.refl w).alloc _).alloc _ | exact (((Kept.refl w).alloc _).alloc _).alloc _ | exact (((Kept.refl w).alloc _).alloc _).drew | exact ((((Kept.refl w).alloc _).alloc _).alloc _).drew)⟩
set_option maxRecDepth 100000 in
theorem ops8 (op x y p q r : Int) (b c : ByteArray) (w : World) (lay : Lay w) (hb : b.size ≤ 1000) (hc : c.size ≤ 1000) (x0 : 0 ≤ x) (x1 : x ≤ 7) : Calls Tryz.prog 51 #[.int .u8 op, .agg #[.int .i64 8, .int .i64 x, .int .i64 y, .int .i64 p, .int .i64 q, .int .i64 r], .string b, .string c] w fun e w' => ∃ v, e = .returned v ∧ Strs w' v [tabS regL x, b] ∧ Kept w w' := by
  have zreg := lay.reg.1
  have TX := has_tab lay.reg x x0 (by simp [regL]; omega)
  generalize tabS regL x = X at TX ⊢
  clear lay
  go_enter Tryz.func51, Tryz.ntmps51
  go_wp2
  go_ret
  exact ⟨_, rfl, strs_two_at _ _ (by simp) _ _ _, (by first | exact Kept.refl _ | exact (Kept.refl w).alloc _ | exact ((Kept.refl w).alloc _).alloc _ | exact (((Kept.refl w).alloc _).alloc _).alloc _ | exact (((Kept.refl w).alloc _).alloc _).drew | exact ((((Kept.refl w).alloc _).alloc _).alloc _).drew)⟩
set_option maxRecDepth 100000 in
theorem ops9 (op x y p q r : Int) (b c : ByteArray) (w : World) (lay : Lay w) (hb : b.size ≤ 1000) (hc : c.size ≤ 1000) (x0 : 0 ≤ x) (x1 : x ≤ 3) : Calls Tryz.prog 51 #[.int .u8 op, .agg #[.int .i64 9, .int .i64 x, .int .i64 y, .int .i64 p, .int .i64 q, .int .i64 r], .string b, .string c] w fun e w' => ∃ v, e = .returned v ∧ Strs w' v [⟨#[65]⟩, tabS quadL x] ∧ Kept w w' := by
  have zptr := lay.ptr.1
  have TX := has_tab lay.ptr x x0 (by simp [quadL]; omega)
  generalize tabS quadL x = X at TX ⊢
  clear lay
  go_enter Tryz.func51, Tryz.ntmps51
  go_wp2
  go_ret
  exact ⟨_, rfl, strs_two_at _ _ (by simp) _ _ _, (by first | exact Kept.refl _ | exact (Kept.refl w).alloc _ | exact ((Kept.refl w).alloc _).alloc _ | exact (((Kept.refl w).alloc _).alloc _).alloc _ | exact (((Kept.refl w).alloc _).alloc _).drew | exact ((((Kept.refl w).alloc _).alloc _).alloc _).drew)⟩
set_option maxRecDepth 100000 in
theorem ops10 (op x y p q r : Int) (b c : ByteArray) (w : World) (lay : Lay w) (hb : b.size ≤ 1000) (hc : c.size ≤ 1000) (x0 : 0 ≤ x) (x1 : x ≤ 3) : Calls Tryz.prog 51 #[.int .u8 op, .agg #[.int .i64 10, .int .i64 x, .int .i64 y, .int .i64 p, .int .i64 q, .int .i64 r], .string b, .string c] w fun e w' => ∃ v, e = .returned v ∧ Strs w' v [tabS quadL x, ⟨#[65]⟩] ∧ Kept w w' := by
  have zptr := lay.ptr.1
  have TX := has_tab lay.ptr x x0 (by simp [quadL]; omega)
  generalize tabS quadL x = X at TX ⊢
  clear lay
  go_enter Tryz.func51, Tryz.ntmps51
  go_wp2
  go_ret
  exact ⟨_, rfl, strs_two_at _ _ (by simp) _ _ _, (by first | exact Kept.refl _ | exact (Kept.refl w).alloc _ | exact ((Kept.refl w).alloc _).alloc _ | exact (((Kept.refl w).alloc _).alloc _).alloc _ | exact (((Kept.refl w).alloc _).alloc _).drew | exact ((((Kept.refl w).alloc _).alloc _).alloc _).drew)⟩
set_option maxRecDepth 100000 in
theorem ops11 (op x y p q r : Int) (b c : ByteArray) (w : World) (lay : Lay w) (hb : b.size ≤ 1000) (hc : c.size ≤ 1000) : Calls Tryz.prog 51 #[.int .u8 op, .agg #[.int .i64 11, .int .i64 x, .int .i64 y, .int .i64 p, .int .i64 q, .int .i64 r], .string b, .string c] w fun e w' => ∃ v, e = .returned v ∧ Strs w' v [⟨#[65]⟩, ⟨#[40]⟩ ++ b ++ ⟨#[41]⟩] ∧ Kept w w' := by
  have n1 : ¬ 9223372036854775807 < 1 + b.size := by omega
  have n2 : ¬ 9223372036854775807 < 1 + b.size + 1 := by omega
  have n3 : ¬ 9223372036854775807 < 3 + b.size := by omega
  clear lay
  go_enter Tryz.func51, Tryz.ntmps51
  go_wp2
  go_ret
  exact ⟨_, rfl, strs_two_at _ _ (by simp) _ _ _, (by first | exact Kept.refl _ | exact (Kept.refl w).alloc _ | exact ((Kept.refl w).alloc _).alloc _ | exact (((Kept.refl w).alloc _).alloc _).alloc _ | exact (((Kept.refl w).alloc _).alloc _).drew | exact ((((Kept.refl w).alloc _).alloc _).alloc _).drew)⟩
set_option maxRecDepth 100000 in
theorem ops12 (op x y p q r : Int) (b c : ByteArray) (w : World) (lay : Lay w) (hb : b.size ≤ 1000) (hc : c.size ≤ 1000) : Calls Tryz.prog 51 #[.int .u8 op, .agg #[.int .i64 12, .int .i64 x, .int .i64 y, .int .i64 p, .int .i64 q, .int .i64 r], .string b, .string c] w fun e w' => ∃ v, e = .returned v ∧ Strs w' v [⟨#[40]⟩ ++ b ++ ⟨#[41]⟩, ⟨#[65]⟩] ∧ Kept w w' := by
  have n1 : ¬ 9223372036854775807 < 1 + b.size := by omega
  have n2 : ¬ 9223372036854775807 < 1 + b.size + 1 := by omega
  have n3 : ¬ 9223372036854775807 < 3 + b.size := by omega
  clear lay
  go_enter Tryz.func51, Tryz.ntmps51
  go_wp2
  go_ret
  exact ⟨_, rfl, strs_two_at _ _ (by simp) _ _ _, (by first | exact Kept.refl _ | exact (Kept.refl w).alloc _ | exact ((Kept.refl w).alloc _).alloc _ | exact (((Kept.refl w).alloc _).alloc _).alloc _ | exact (((Kept.refl w).alloc _).alloc _).drew | exact ((((Kept.refl w).alloc _).alloc _).alloc _).drew)⟩
end Go.Proofs.YtlchkflpaehgcaaGreatDoor
namespace Go.Proofs.YtlchkflpaehgcaaGreatDoor
open Go.RowKit
set_option linter.unusedVariables false
set_option linter.unusedSimpArgs false

set_option maxRecDepth 100000 in
theorem ops13 (op x y p q r : Int) (b c : ByteArray) (w : World) (lay : Lay w) (hb : b.size ≤ 1000) (hc : c.size ≤ 1000) : Calls Tryz.prog 51 #[.int .u8 op, .agg #[.int .i64 13, .int .i64 x, .int .i64 y, .int .i64 p, .int .i64 q, .int .i64 r], .string b, .string c] w fun e w' => ∃ v, e = .returned v ∧ Strs w' v [⟨#[65]⟩, ⟨#[40, 67, 41]⟩] ∧ Kept w w' := by
  clear lay
  go_enter Tryz.func51, Tryz.ntmps51
  go_wp2
  go_ret
  exact ⟨_, rfl, strs_two_at _ _ (by simp) _ _ _, (by first | exact Kept.refl _ | exact (Kept.refl w).alloc _ | exact ((Kept.refl w).alloc _).alloc _ | exact (((Kept.refl w).alloc _).alloc _).alloc _ | exact (((Kept.refl w).alloc _).alloc _).drew | exact ((((Kept.refl w).alloc _).alloc _).alloc _).drew)⟩
set_option maxRecDepth 100000 in
theorem ops14 (op x y p q r : Int) (b c : ByteArray) (w : World) (lay : Lay w) (hb : b.size ≤ 1000) (hc : c.size ≤ 1000) : Calls Tryz.prog 51 #[.int .u8 op, .agg #[.int .i64 14, .int .i64 x, .int .i64 y, .int .i64 p, .int .i64 q, .int .i64 r], .string b, .string c] w fun e w' => ∃ v, e = .returned v ∧ Strs w' v [⟨#[40, 67, 41]⟩, ⟨#[65]⟩] ∧ Kept w w' := by
  clear lay
  go_enter Tryz.func51, Tryz.ntmps51
  go_wp2
  go_ret
  exact ⟨_, rfl, strs_two_at _ _ (by simp) _ _ _, (by first | exact Kept.refl _ | exact (Kept.refl w).alloc _ | exact ((Kept.refl w).alloc _).alloc _ | exact (((Kept.refl w).alloc _).alloc _).alloc _ | exact (((Kept.refl w).alloc _).alloc _).drew | exact ((((Kept.refl w).alloc _).alloc _).alloc _).drew)⟩
set_option maxRecDepth 100000 in
theorem ops15 (op x y p q r : Int) (b c : ByteArray) (w : World) (lay : Lay w) (hb : b.size ≤ 1000) (hc : c.size ≤ 1000) : Calls Tryz.prog 51 #[.int .u8 op, .agg #[.int .i64 15, .int .i64 x, .int .i64 y, .int .i64 p, .int .i64 q, .int .i64 r], .string b, .string c] w fun e w' => ∃ v, e = .returned v ∧ Strs w' v [⟨#[65]⟩, ⟨#[40]⟩ ++ c ++ ⟨#[41]⟩] ∧ Kept w w' := by
  have n1 : ¬ 9223372036854775807 < 1 + c.size := by omega
  have n2 : ¬ 9223372036854775807 < 1 + c.size + 1 := by omega
  clear lay
  go_enter Tryz.func51, Tryz.ntmps51
  go_wp2
  go_ret
  exact ⟨_, rfl, strs_two_at _ _ (by simp) _ _ _, (by first | exact Kept.refl _ | exact (Kept.refl w).alloc _ | exact ((Kept.refl w).alloc _).alloc _ | exact (((Kept.refl w).alloc _).alloc _).alloc _ | exact (((Kept.refl w).alloc _).alloc _).drew | exact ((((Kept.refl w).alloc _).alloc _).alloc _).drew)⟩
set_option maxRecDepth 100000 in
theorem ops16 (op x y p q r : Int) (b c : ByteArray) (w : World) (lay : Lay w) (hb : b.size ≤ 1000) (hc : c.size ≤ 1000) : Calls Tryz.prog 51 #[.int .u8 op, .agg #[.int .i64 16, .int .i64 x, .int .i64 y, .int .i64 p, .int .i64 q, .int .i64 r], .string b, .string c] w fun e w' => ∃ v, e = .returned v ∧ Strs w' v [⟨#[40]⟩ ++ c ++ ⟨#[41]⟩, ⟨#[65]⟩] ∧ Kept w w' := by
  have n1 : ¬ 9223372036854775807 < 1 + c.size := by omega
  have n2 : ¬ 9223372036854775807 < 1 + c.size + 1 := by omega
  clear lay
  go_enter Tryz.func51, Tryz.ntmps51
  go_wp2
  go_ret
  exact ⟨_, rfl, strs_two_at _ _ (by simp) _ _ _, (by first | exact Kept.refl _ | exact (Kept.refl w).alloc _ | exact ((Kept.refl w).alloc _).alloc _ | exact (((Kept.refl w).alloc _).alloc _).alloc _ | exact (((Kept.refl w).alloc _).alloc _).drew | exact ((((Kept.refl w).alloc _).alloc _).alloc _).drew)⟩
set_option maxRecDepth 100000 in
theorem ops17 (op x y p q r : Int) (b c : ByteArray) (w : World) (lay : Lay w) (hb : b.size ≤ 1000) (hc : c.size ≤ 1000) (x0 : 0 ≤ x) (x1 : x ≤ 4) : Calls Tryz.prog 51 #[.int .u8 op, .agg #[.int .i64 17, .int .i64 x, .int .i64 y, .int .i64 p, .int .i64 q, .int .i64 r], .string b, .string c] w fun e w' => ∃ v, e = .returned v ∧ Strs w' v [tabS pairL x, c] ∧ Kept w w' := by
  have zpair := lay.pair.1
  have TX := has_tab lay.pair x x0 (by simp [pairL]; omega)
  generalize tabS pairL x = X at TX ⊢
  clear lay
  go_enter Tryz.func51, Tryz.ntmps51
  go_wp2
  go_ret
  exact ⟨_, rfl, strs_two_at _ _ (by simp) _ _ _, (by first | exact Kept.refl _ | exact (Kept.refl w).alloc _ | exact ((Kept.refl w).alloc _).alloc _ | exact (((Kept.refl w).alloc _).alloc _).alloc _ | exact (((Kept.refl w).alloc _).alloc _).drew | exact ((((Kept.refl w).alloc _).alloc _).alloc _).drew)⟩
set_option maxRecDepth 100000 in
theorem ops18 (op x y p q r : Int) (b c : ByteArray) (w : World) (lay : Lay w) (hb : b.size ≤ 1000) (hc : c.size ≤ 1000) : Calls Tryz.prog 51 #[.int .u8 op, .agg #[.int .i64 18, .int .i64 x, .int .i64 y, .int .i64 p, .int .i64 q, .int .i64 r], .string b, .string c] w fun e w' => ∃ v, e = .returned v ∧ Strs w' v [⟨#[40]⟩ ++ c ++ ⟨#[41]⟩, ⟨#[83, 80]⟩] ∧ Kept w w' := by
  have n1 : ¬ 9223372036854775807 < 1 + c.size := by omega
  have n2 : ¬ 9223372036854775807 < 1 + c.size + 1 := by omega
  clear lay
  go_enter Tryz.func51, Tryz.ntmps51
  go_wp2
  go_ret
  exact ⟨_, rfl, strs_two_at _ _ (by simp) _ _ _, (by first | exact Kept.refl _ | exact (Kept.refl w).alloc _ | exact ((Kept.refl w).alloc _).alloc _ | exact (((Kept.refl w).alloc _).alloc _).alloc _ | exact (((Kept.refl w).alloc _).alloc _).drew | exact ((((Kept.refl w).alloc _).alloc _).alloc _).drew)⟩
set_option maxRecDepth 100000 in
theorem ops19 (op x y p q r : Int) (b c : ByteArray) (w : World) (lay : Lay w) (hb : b.size ≤ 1000) (hc : c.size ≤ 1000) : Calls Tryz.prog 51 #[.int .u8 op, .agg #[.int .i64 19, .int .i64 x, .int .i64 y, .int .i64 p, .int .i64 q, .int .i64 r], .string b, .string c] w fun e w' => ∃ v, e = .returned v ∧ Strs w' v [⟨#[83, 80]⟩, ⟨#[72, 76]⟩] ∧ Kept w w' := by
  clear lay
  go_enter Tryz.func51, Tryz.ntmps51
  go_wp2
  go_ret
  exact ⟨_, rfl, strs_two_at _ _ (by simp) _ _ _, (by first | exact Kept.refl _ | exact (Kept.refl w).alloc _ | exact ((Kept.refl w).alloc _).alloc _ | exact (((Kept.refl w).alloc _).alloc _).alloc _ | exact (((Kept.refl w).alloc _).alloc _).drew | exact ((((Kept.refl w).alloc _).alloc _).alloc _).drew)⟩
set_option maxRecDepth 100000 in
theorem ops20 (op x y p q r : Int) (b c : ByteArray) (w : World) (lay : Lay w) (hb : b.size ≤ 1000) (hc : c.size ≤ 1000) : Calls Tryz.prog 51 #[.int .u8 op, .agg #[.int .i64 20, .int .i64 x, .int .i64 y, .int .i64 p, .int .i64 q, .int .i64 r], .string b, .string c] w fun e w' => ∃ v, e = .returned v ∧ Strs w' v [⟨#[72, 76]⟩, ⟨#[83, 80, 43]⟩ ++ b] ∧ Kept w w' := by
  have n1 : ¬ 9223372036854775807 < 1 + b.size := by omega
  have n2 : ¬ 9223372036854775807 < 1 + b.size + 1 := by omega
  have n3 : ¬ 9223372036854775807 < 3 + b.size := by omega
  clear lay
  go_enter Tryz.func51, Tryz.ntmps51
  go_wp2
  go_ret
  exact ⟨_, rfl, strs_two_at _ _ (by simp) _ _ _, (by first | exact Kept.refl _ | exact (Kept.refl w).alloc _ | exact ((Kept.refl w).alloc _).alloc _ | exact (((Kept.refl w).alloc _).alloc _).alloc _ | exact (((Kept.refl w).alloc _).alloc _).drew | exact ((((Kept.refl w).alloc _).alloc _).alloc _).drew)⟩
set_option maxRecDepth 100000 in
theorem ops21 (op x y p q r : Int) (b c : ByteArray) (w : World) (lay : Lay w) (hb : b.size ≤ 1000) (hc : c.size ≤ 1000) (x0 : 0 ≤ x) (x1 : x ≤ 4) : Calls Tryz.prog 51 #[.int .u8 op, .agg #[.int .i64 21, .int .i64 x, .int .i64 y, .int .i64 p, .int .i64 q, .int .i64 r], .string b, .string c] w fun e w' => ∃ v, e = .returned v ∧ Strs w' v [tabS pairL x] ∧ Kept w w' := by
  have zpair := lay.pair.1
  have TX := has_tab lay.pair x x0 (by simp [pairL]; omega)
  generalize tabS pairL x = X at TX ⊢
  clear lay
  go_enter Tryz.func51, Tryz.ntmps51
  go_wp2
  go_ret
  exact ⟨_, rfl, strs_one_at _ _ (by simp) _ _, (by first | exact Kept.refl _ | exact (Kept.refl w).alloc _ | exact ((Kept.refl w).alloc _).alloc _ | exact (((Kept.refl w).alloc _).alloc _).alloc _ | exact (((Kept.refl w).alloc _).alloc _).drew | exact ((((Kept.refl w).alloc _).alloc _).alloc _).drew)⟩
set_option maxRecDepth 100000 in
theorem ops22 (op x y p q r : Int) (b c : ByteArray) (w : World) (lay : Lay w) (hb : b.size ≤ 1000) (hc : c.size ≤ 1000) (x0 : 0 ≤ x) (x1 : x ≤ 4) : Calls Tryz.prog 51 #[.int .u8 op, .agg #[.int .i64 22, .int .i64 x, .int .i64 y, .int .i64 p, .int .i64 q, .int .i64 r], .string b, .string c] w fun e w' => ∃ v, e = .returned v ∧ Strs w' v [tabS pairL x] ∧ Kept w w' := by
  have zpair := lay.pair.1
  have TX := has_tab lay.pair x x0 (by simp [pairL]; omega)
  generalize tabS pairL x = X at TX ⊢
  clear lay
  go_enter Tryz.func51, Tryz.ntmps51
  go_wp2
  go_ret
  exact ⟨_, rfl, strs_one_at _ _ (by simp) _ _, (by first | exact Kept.refl _ | exact (Kept.refl w).alloc _ | exact ((Kept.refl w).alloc _).alloc _ | exact (((Kept.refl w).alloc _).alloc _).alloc _ | exact (((Kept.refl w).alloc _).alloc _).drew | exact ((((Kept.refl w).alloc _).alloc _).alloc _).drew)⟩
set_option maxRecDepth 100000 in
theorem ops23 (op x y p q r : Int) (b c : ByteArray) (w : World) (lay : Lay w) (hb : b.size ≤ 1000) (hc : c.size ≤ 1000) (y0 : 0 ≤ y) (y1 : y ≤ 7) : Calls Tryz.prog 51 #[.int .u8 op, .agg #[.int .i64 23, .int .i64 x, .int .i64 y, .int .i64 p, .int .i64 q, .int .i64 r], .string b, .string c] w fun e w' => ∃ v, e = .returned v ∧ Strs w' v [tabS regL y] ∧ Kept w w' := by
  have zreg := lay.reg.1
  have TY := has_tab lay.reg y y0 (by simp [regL]; omega)
  generalize tabS regL y = Y at TY ⊢
  clear lay
  go_enter Tryz.func51, Tryz.ntmps51
  go_wp2
  go_ret
  exact ⟨_, rfl, strs_one_at _ _ (by simp) _ _, (by first | exact Kept.refl _ | exact (Kept.refl w).alloc _ | exact ((Kept.refl w).alloc _).alloc _ | exact (((Kept.refl w).alloc _).alloc _).alloc _ | exact (((Kept.refl w).alloc _).alloc _).drew | exact ((((Kept.refl w).alloc _).alloc _).alloc _).drew)⟩
set_option maxRecDepth 100000 in
theorem ops24 (op x y p q r : Int) (b c : ByteArray) (w : World) (lay : Lay w) (hb : b.size ≤ 1000) (hc : c.size ≤ 1000) : Calls Tryz.prog 51 #[.int .u8 op, .agg #[.int .i64 24, .int .i64 x, .int .i64 y, .int .i64 p, .int .i64 q, .int .i64 r], .string b, .string c] w fun e w' => ∃ v, e = .returned v ∧ Strs w' v [b] ∧ Kept w w' := by
  clear lay
  go_enter Tryz.func51, Tryz.ntmps51
  go_wp2
  go_ret
  exact ⟨_, rfl, strs_one_at _ _ (by simp) _ _, (by first | exact Kept.refl _ | exact (Kept.refl w).alloc _ | exact ((Kept.refl w).alloc _).alloc _ | exact (((Kept.refl w).alloc _).alloc _).alloc _ | exact (((Kept.refl w).alloc _).alloc _).drew | exact ((((Kept.refl w).alloc _).alloc _).alloc _).drew)⟩
set_option maxRecDepth 100000 in
theorem ops25 (op x y p q r : Int) (b c : ByteArray) (w : World) (lay : Lay w) (hb : b.size ≤ 1000) (hc : c.size ≤ 1000) (x0 : 0 ≤ x) (x1 : x ≤ 7) : Calls Tryz.prog 51 #[.int .u8 op, .agg #[.int .i64 25, .int .i64 x, .int .i64 y, .int .i64 p, .int .i64 q, .int .i64 r], .string b, .string c] w fun e w' => ∃ v, e = .returned v ∧ Strs w' v [tabS regL x] ∧ Kept w w' := by
  have zreg := lay.reg.1
  have TX := has_tab lay.reg x x0 (by simp [regL]; omega)
  generalize tabS regL x = X at TX ⊢
  clear lay
  go_enter Tryz.func51, Tryz.ntmps51
  go_wp2
  go_ret
  exact ⟨_, rfl, strs_one_at _ _ (by simp) _ _, (by first | exact Kept.refl _ | exact (Kept.refl w).alloc _ | exact ((Kept.refl w).alloc _).alloc _ | exact (((Kept.refl w).alloc _).alloc _).alloc _ | exact (((Kept.refl w).alloc _).alloc _).drew | exact ((((Kept.refl w).alloc _).alloc _).alloc _).drew)⟩
end Go.Proofs.YtlchkflpaehgcaaGreatDoor
