/- What operandsOf of layer 6 comes to, kind by kind: the rest. What operandsOf of layer 6 comes to, kind by kind: the rest. -/
import Derived.Test.YtlchkflpaehgcaaGreatDoorCo
namespace Go.Proofs.YtlchkflpaehgcaaGreatDoor
open Go.RowKit
set_option linter.unusedVariables false
set_option linter.unusedSimpArgs false

set_option maxRecDepth 100000 in
theorem ops26 (op x y p q r : Int) (b c : ByteArray) (w : World) (lay : Lay w) (hb : b.size ≤ 1000) (hc : c.size ≤ 1000) (x0 : 0 ≤ x) (x1 : x ≤ 7) : Calls Tryz.prog 51 #[.int .u8 op, .agg #[.int .i64 26, .int .i64 x, .int .i64 y, .int .i64 p, .int .i64 q, .int .i64 r], .string b, .string c] w fun e w' => ∃ v, e = .returned v ∧ Strs w' v [tabS regL x] ∧ Kept w w' := by
  have zreg := lay.reg.1
  have TX := has_tab lay.reg x x0 (by simp [regL]; omega)
  generalize tabS regL x = X at TX ⊢
  clear lay
  go_enter Tryz.func51, Tryz.ntmps51
  go_wp2
  go_ret
  exact ⟨_, rfl, strs_one_at _ _ (by simp) _ _, (by first | exact Kept.refl _ | exact (Kept.refl w).alloc _ | exact ((Kept.refl w).alloc _).alloc _ | exact (((Kept.refl w).alloc _).alloc _).alloc _ | exact (((Kept.refl w).alloc _).alloc _).drew | exact ((((Kept.refl w).alloc _).alloc _).alloc _).drew)⟩
set_option maxRecDepth 100000 in
theorem ops27 (op x y p q r : Int) (b c : ByteArray) (w : World) (lay : Lay w) (hb : b.size ≤ 1000) (hc : c.size ≤ 1000) (x0 : 0 ≤ x) (x1 : x ≤ 4) : Calls Tryz.prog 51 #[.int .u8 op, .agg #[.int .i64 27, .int .i64 x, .int .i64 y, .int .i64 p, .int .i64 q, .int .i64 r], .string b, .string c] w fun e w' => ∃ v, e = .returned v ∧ Strs w' v [tabS pairL x] ∧ Kept w w' := by
  have zpair := lay.pair.1
  have TX := has_tab lay.pair x x0 (by simp [pairL]; omega)
  generalize tabS pairL x = X at TX ⊢
  clear lay
  go_enter Tryz.func51, Tryz.ntmps51
  go_wp2
  go_ret
  exact ⟨_, rfl, strs_one_at _ _ (by simp) _ _, (by first | exact Kept.refl _ | exact (Kept.refl w).alloc _ | exact ((Kept.refl w).alloc _).alloc _ | exact (((Kept.refl w).alloc _).alloc _).alloc _ | exact (((Kept.refl w).alloc _).alloc _).drew | exact ((((Kept.refl w).alloc _).alloc _).alloc _).drew)⟩
set_option maxRecDepth 100000 in
theorem ops28 (op x y p q r : Int) (b c : ByteArray) (w : World) (lay : Lay w) (hb : b.size ≤ 1000) (hc : c.size ≤ 1000) (x0 : 0 ≤ x) (x1 : x ≤ 4) : Calls Tryz.prog 51 #[.int .u8 op, .agg #[.int .i64 28, .int .i64 x, .int .i64 y, .int .i64 p, .int .i64 q, .int .i64 r], .string b, .string c] w fun e w' => ∃ v, e = .returned v ∧ Strs w' v [tabS pairL x] ∧ Kept w w' := by
  have zpair := lay.pair.1
  have TX := has_tab lay.pair x x0 (by simp [pairL]; omega)
  generalize tabS pairL x = X at TX ⊢
  clear lay
  go_enter Tryz.func51, Tryz.ntmps51
  go_wp2
  go_ret
  exact ⟨_, rfl, strs_one_at _ _ (by simp) _ _, (by first | exact Kept.refl _ | exact (Kept.refl w).alloc _ | exact ((Kept.refl w).alloc _).alloc _ | exact (((Kept.refl w).alloc _).alloc _).alloc _ | exact (((Kept.refl w).alloc _).alloc _).drew | exact ((((Kept.refl w).alloc _).alloc _).alloc _).drew)⟩
set_option maxRecDepth 100000 in
theorem ops29 (op x y p q r : Int) (b c : ByteArray) (w : World) (lay : Lay w) (hb : b.size ≤ 1000) (hc : c.size ≤ 1000) (x0 : 0 ≤ x) (x1 : x ≤ 4) : Calls Tryz.prog 51 #[.int .u8 op, .agg #[.int .i64 29, .int .i64 x, .int .i64 y, .int .i64 p, .int .i64 q, .int .i64 r], .string b, .string c] w fun e w' => ∃ v, e = .returned v ∧ Strs w' v [⟨#[72, 76]⟩, tabS pairL x] ∧ Kept w w' := by
  have zpair := lay.pair.1
  have TX := has_tab lay.pair x x0 (by simp [pairL]; omega)
  generalize tabS pairL x = X at TX ⊢
  clear lay
  go_enter Tryz.func51, Tryz.ntmps51
  go_wp2
  go_ret
  exact ⟨_, rfl, strs_two_at _ _ (by simp) _ _ _, (by first | exact Kept.refl _ | exact (Kept.refl w).alloc _ | exact ((Kept.refl w).alloc _).alloc _ | exact (((Kept.refl w).alloc _).alloc _).alloc _ | exact (((Kept.refl w).alloc _).alloc _).drew | exact ((((Kept.refl w).alloc _).alloc _).alloc _).drew)⟩
set_option maxRecDepth 100000 in
theorem ops30 (op x y p q r : Int) (b c : ByteArray) (w : World) (lay : Lay w) (hb : b.size ≤ 1000) (hc : c.size ≤ 1000) : Calls Tryz.prog 51 #[.int .u8 op, .agg #[.int .i64 30, .int .i64 x, .int .i64 y, .int .i64 p, .int .i64 q, .int .i64 r], .string b, .string c] w fun e w' => ∃ v, e = .returned v ∧ Strs w' v [⟨#[83, 80]⟩, b] ∧ Kept w w' := by
  clear lay
  go_enter Tryz.func51, Tryz.ntmps51
  go_wp2
  go_ret
  exact ⟨_, rfl, strs_two_at _ _ (by simp) _ _ _, (by first | exact Kept.refl _ | exact (Kept.refl w).alloc _ | exact ((Kept.refl w).alloc _).alloc _ | exact (((Kept.refl w).alloc _).alloc _).alloc _ | exact (((Kept.refl w).alloc _).alloc _).drew | exact ((((Kept.refl w).alloc _).alloc _).alloc _).drew)⟩
set_option maxRecDepth 100000 in
theorem ops31 (op x y p q r : Int) (b c : ByteArray) (w : World) (lay : Lay w) (hb : b.size ≤ 1000) (hc : c.size ≤ 1000) : Calls Tryz.prog 51 #[.int .u8 op, .agg #[.int .i64 31, .int .i64 x, .int .i64 y, .int .i64 p, .int .i64 q, .int .i64 r], .string b, .string c] w fun e w' => ∃ v, e = .returned v ∧ Strs w' v [] ∧ Kept w w' := by
  clear lay
  go_enter Tryz.func51, Tryz.ntmps51
  go_wp2
  go_ret
  exact ⟨_, rfl, .inl ⟨rfl, rfl⟩, (by first | exact Kept.refl _ | exact (Kept.refl w).alloc _ | exact ((Kept.refl w).alloc _).alloc _ | exact (((Kept.refl w).alloc _).alloc _).alloc _ | exact (((Kept.refl w).alloc _).alloc _).drew | exact ((((Kept.refl w).alloc _).alloc _).alloc _).drew)⟩
set_option maxRecDepth 100000 in
theorem ops32 (op x y p q r : Int) (b c : ByteArray) (w : World) (lay : Lay w) (hb : b.size ≤ 1000) (hc : c.size ≤ 1000) : Calls Tryz.prog 51 #[.int .u8 op, .agg #[.int .i64 32, .int .i64 x, .int .i64 y, .int .i64 p, .int .i64 q, .int .i64 r], .string b, .string c] w fun e w' => ∃ v, e = .returned v ∧ Strs w' v [] ∧ Kept w w' := by
  clear lay
  go_enter Tryz.func51, Tryz.ntmps51
  go_wp2
  go_ret
  exact ⟨_, rfl, .inl ⟨rfl, rfl⟩, (by first | exact Kept.refl _ | exact (Kept.refl w).alloc _ | exact ((Kept.refl w).alloc _).alloc _ | exact (((Kept.refl w).alloc _).alloc _).alloc _ | exact (((Kept.refl w).alloc _).alloc _).drew | exact ((((Kept.refl w).alloc _).alloc _).alloc _).drew)⟩
set_option maxRecDepth 100000 in
theorem ops33 (op x y p q r : Int) (b c : ByteArray) (w : World) (lay : Lay w) (hb : b.size ≤ 1000) (hc : c.size ≤ 1000) : Calls Tryz.prog 51 #[.int .u8 op, .agg #[.int .i64 33, .int .i64 x, .int .i64 y, .int .i64 p, .int .i64 q, .int .i64 r], .string b, .string c] w fun e w' => ∃ v, e = .returned v ∧ Strs w' v [] ∧ Kept w w' := by
  clear lay
  go_enter Tryz.func51, Tryz.ntmps51
  go_wp2
  go_ret
  exact ⟨_, rfl, .inl ⟨rfl, rfl⟩, (by first | exact Kept.refl _ | exact (Kept.refl w).alloc _ | exact ((Kept.refl w).alloc _).alloc _ | exact (((Kept.refl w).alloc _).alloc _).alloc _ | exact (((Kept.refl w).alloc _).alloc _).drew | exact ((((Kept.refl w).alloc _).alloc _).alloc _).drew)⟩
set_option maxRecDepth 100000 in
theorem ops34 (op x y p q r : Int) (b c : ByteArray) (w : World) (lay : Lay w) (hb : b.size ≤ 1000) (hc : c.size ≤ 1000) : Calls Tryz.prog 51 #[.int .u8 op, .agg #[.int .i64 34, .int .i64 x, .int .i64 y, .int .i64 p, .int .i64 q, .int .i64 r], .string b, .string c] w fun e w' => ∃ v, e = .returned v ∧ Strs w' v [] ∧ Kept w w' := by
  clear lay
  go_enter Tryz.func51, Tryz.ntmps51
  go_wp2
  go_ret
  exact ⟨_, rfl, .inl ⟨rfl, rfl⟩, (by first | exact Kept.refl _ | exact (Kept.refl w).alloc _ | exact ((Kept.refl w).alloc _).alloc _ | exact (((Kept.refl w).alloc _).alloc _).alloc _ | exact (((Kept.refl w).alloc _).alloc _).drew | exact ((((Kept.refl w).alloc _).alloc _).alloc _).drew)⟩
set_option maxRecDepth 100000 in
theorem ops35 (op x y p q r : Int) (b c : ByteArray) (w : World) (lay : Lay w) (hb : b.size ≤ 1000) (hc : c.size ≤ 1000) : Calls Tryz.prog 51 #[.int .u8 op, .agg #[.int .i64 35, .int .i64 x, .int .i64 y, .int .i64 p, .int .i64 q, .int .i64 r], .string b, .string c] w fun e w' => ∃ v, e = .returned v ∧ Strs w' v [] ∧ Kept w w' := by
  clear lay
  go_enter Tryz.func51, Tryz.ntmps51
  go_wp2
  go_ret
  exact ⟨_, rfl, .inl ⟨rfl, rfl⟩, (by first | exact Kept.refl _ | exact (Kept.refl w).alloc _ | exact ((Kept.refl w).alloc _).alloc _ | exact (((Kept.refl w).alloc _).alloc _).alloc _ | exact (((Kept.refl w).alloc _).alloc _).drew | exact ((((Kept.refl w).alloc _).alloc _).alloc _).drew)⟩
set_option maxRecDepth 100000 in
theorem ops36a (op x y p q r : Int) (b c : ByteArray) (w : World) (lay : Lay w) (hb : b.size ≤ 1000) (hc : c.size ≤ 1000) (X4 : x = 4) : Calls Tryz.prog 51 #[.int .u8 op, .agg #[.int .i64 36, .int .i64 x, .int .i64 y, .int .i64 p, .int .i64 q, .int .i64 r], .string b, .string c] w fun e w' => ∃ v, e = .returned v ∧ Strs w' v [b] ∧ Kept w w' := by
  subst X4
  clear lay
  go_enter Tryz.func51, Tryz.ntmps51
  go_wp2
  go_ret
  exact ⟨_, rfl, strs_one_at _ _ (by simp) _ _, (by first | exact Kept.refl _ | exact (Kept.refl w).alloc _ | exact ((Kept.refl w).alloc _).alloc _ | exact (((Kept.refl w).alloc _).alloc _).alloc _ | exact (((Kept.refl w).alloc _).alloc _).drew | exact ((((Kept.refl w).alloc _).alloc _).alloc _).drew)⟩
set_option maxRecDepth 100000 in
theorem ops36b (op x y p q r : Int) (b c : ByteArray) (w : World) (lay : Lay w) (hb : b.size ≤ 1000) (hc : c.size ≤ 1000) (x0 : 0 ≤ x) (x1 : x ≤ 3) : Calls Tryz.prog 51 #[.int .u8 op, .agg #[.int .i64 36, .int .i64 x, .int .i64 y, .int .i64 p, .int .i64 q, .int .i64 r], .string b, .string c] w fun e w' => ∃ v, e = .returned v ∧ Strs w' v [tabS condL x, b] ∧ Kept w w' := by
  have L2 := hid ((lay.kept ((Kept.refl w).alloc (.cells #[.int .i64 36, .int .i64 x, .int .i64 y, .int .i64 p, .int .i64 q, .int .i64 r] 46))).kept ((Kept.refl _).alloc (.cells #[.string b] 9)))
  go_enter Tryz.func51, Tryz.ntmps51
  go_wp2_with (go_at_call 78; refine (cond1_any x b _ L2.out x0 x1 _ (by simp) (by simp)).mono ?_; rintro e u1 ⟨v1, rfl, s1, g1⟩; have S1 := hid s1; have G1 := hid g1; clear s1 g1)
  go_ret
  exact ⟨_, rfl, S1.out, (((Kept.refl w).alloc _).alloc _).trans G1.out⟩
set_option maxRecDepth 100000 in
theorem ops37a (op x y p q r : Int) (b c : ByteArray) (w : World) (lay : Lay w) (hb : b.size ≤ 1000) (hc : c.size ≤ 1000) (X4 : x = 4) : Calls Tryz.prog 51 #[.int .u8 op, .agg #[.int .i64 37, .int .i64 x, .int .i64 y, .int .i64 p, .int .i64 q, .int .i64 r], .string b, .string c] w fun e w' => ∃ v, e = .returned v ∧ Strs w' v [c] ∧ Kept w w' := by
  subst X4
  clear lay
  go_enter Tryz.func51, Tryz.ntmps51
  go_wp2
  go_ret
  exact ⟨_, rfl, strs_one_at _ _ (by simp) _ _, (by first | exact Kept.refl _ | exact (Kept.refl w).alloc _ | exact ((Kept.refl w).alloc _).alloc _ | exact (((Kept.refl w).alloc _).alloc _).alloc _ | exact (((Kept.refl w).alloc _).alloc _).drew | exact ((((Kept.refl w).alloc _).alloc _).alloc _).drew)⟩
set_option maxRecDepth 100000 in
theorem ops37b (op x y p q r : Int) (b c : ByteArray) (w : World) (lay : Lay w) (hb : b.size ≤ 1000) (hc : c.size ≤ 1000) (x0 : 0 ≤ x) (x1 : x ≤ 3) : Calls Tryz.prog 51 #[.int .u8 op, .agg #[.int .i64 37, .int .i64 x, .int .i64 y, .int .i64 p, .int .i64 q, .int .i64 r], .string b, .string c] w fun e w' => ∃ v, e = .returned v ∧ Strs w' v [tabS condL x, c] ∧ Kept w w' := by
  have L2 := hid ((lay.kept ((Kept.refl w).alloc (.cells #[.int .i64 37, .int .i64 x, .int .i64 y, .int .i64 p, .int .i64 q, .int .i64 r] 46))).kept ((Kept.refl _).alloc (.cells #[.string c] 9)))
  go_enter Tryz.func51, Tryz.ntmps51
  go_wp2_with (go_at_call 78; refine (cond1_any x c _ L2.out x0 x1 _ (by simp) (by simp)).mono ?_; rintro e u1 ⟨v1, rfl, s1, g1⟩; have S1 := hid s1; have G1 := hid g1; clear s1 g1)
  go_ret
  exact ⟨_, rfl, S1.out, (((Kept.refl w).alloc _).alloc _).trans G1.out⟩
set_option maxRecDepth 100000 in
theorem ops38 (op x y p q r : Int) (b c : ByteArray) (w : World) (lay : Lay w) (hb : b.size ≤ 1000) (hc : c.size ≤ 1000) : Calls Tryz.prog 51 #[.int .u8 op, .agg #[.int .i64 38, .int .i64 x, .int .i64 y, .int .i64 p, .int .i64 q, .int .i64 r], .string b, .string c] w fun e w' => ∃ v, e = .returned v ∧ Strs w' v [⟨#[72, 76]⟩] ∧ Kept w w' := by
  clear lay
  go_enter Tryz.func51, Tryz.ntmps51
  go_wp2
  go_ret
  exact ⟨_, rfl, strs_one_at _ _ (by simp) _ _, (by first | exact Kept.refl _ | exact (Kept.refl w).alloc _ | exact ((Kept.refl w).alloc _).alloc _ | exact (((Kept.refl w).alloc _).alloc _).alloc _ | exact (((Kept.refl w).alloc _).alloc _).drew | exact ((((Kept.refl w).alloc _).alloc _).alloc _).drew)⟩
set_option maxRecDepth 100000 in
theorem ops39a (op x y p q r : Int) (b c : ByteArray) (w : World) (lay : Lay w) (hb : b.size ≤ 1000) (hc : c.size ≤ 1000) (X4 : x = 4) : Calls Tryz.prog 51 #[.int .u8 op, .agg #[.int .i64 39, .int .i64 x, .int .i64 y, .int .i64 p, .int .i64 q, .int .i64 r], .string b, .string c] w fun e w' => ∃ v, e = .returned v ∧ Strs w' v [c] ∧ Kept w w' := by
  subst X4
  clear lay
  go_enter Tryz.func51, Tryz.ntmps51
  go_wp2
  go_ret
  exact ⟨_, rfl, strs_one_at _ _ (by simp) _ _, (by first | exact Kept.refl _ | exact (Kept.refl w).alloc _ | exact ((Kept.refl w).alloc _).alloc _ | exact (((Kept.refl w).alloc _).alloc _).alloc _ | exact (((Kept.refl w).alloc _).alloc _).drew | exact ((((Kept.refl w).alloc _).alloc _).alloc _).drew)⟩
set_option maxRecDepth 100000 in
theorem ops39b (op x y p q r : Int) (b c : ByteArray) (w : World) (lay : Lay w) (hb : b.size ≤ 1000) (hc : c.size ≤ 1000) (x0 : 0 ≤ x) (x1 : x ≤ 3) : Calls Tryz.prog 51 #[.int .u8 op, .agg #[.int .i64 39, .int .i64 x, .int .i64 y, .int .i64 p, .int .i64 q, .int .i64 r], .string b, .string c] w fun e w' => ∃ v, e = .returned v ∧ Strs w' v [tabS condL x, c] ∧ Kept w w' := by
  have L2 := hid ((lay.kept ((Kept.refl w).alloc (.cells #[.int .i64 39, .int .i64 x, .int .i64 y, .int .i64 p, .int .i64 q, .int .i64 r] 46))).kept ((Kept.refl _).alloc (.cells #[.string c] 9)))
  go_enter Tryz.func51, Tryz.ntmps51
  go_wp2_with (go_at_call 78; refine (cond1_any x c _ L2.out x0 x1 _ (by simp) (by simp)).mono ?_; rintro e u1 ⟨v1, rfl, s1, g1⟩; have S1 := hid s1; have G1 := hid g1; clear s1 g1)
  go_ret
  exact ⟨_, rfl, S1.out, (((Kept.refl w).alloc _).alloc _).trans G1.out⟩
end Go.Proofs.YtlchkflpaehgcaaGreatDoor
namespace Go.Proofs.YtlchkflpaehgcaaGreatDoor
open Go.RowKit
set_option linter.unusedVariables false
set_option linter.unusedSimpArgs false

set_option maxRecDepth 100000 in
theorem ops40a (op x y p q r : Int) (b c : ByteArray) (w : World) (lay : Lay w) (hb : b.size ≤ 1000) (hc : c.size ≤ 1000) (X4 : x = 4) : Calls Tryz.prog 51 #[.int .u8 op, .agg #[.int .i64 40, .int .i64 x, .int .i64 y, .int .i64 p, .int .i64 q, .int .i64 r], .string b, .string c] w fun e w' => ∃ v, e = .returned v ∧ Strs w' v [] ∧ Kept w w' := by
  subst X4
  clear lay
  go_enter Tryz.func51, Tryz.ntmps51
  go_wp2
  go_ret
  exact ⟨_, rfl, .inl ⟨rfl, rfl⟩, (by first | exact Kept.refl _ | exact (Kept.refl w).alloc _ | exact ((Kept.refl w).alloc _).alloc _ | exact (((Kept.refl w).alloc _).alloc _).alloc _ | exact (((Kept.refl w).alloc _).alloc _).drew | exact ((((Kept.refl w).alloc _).alloc _).alloc _).drew)⟩
set_option maxRecDepth 100000 in
theorem ops40b (op x y p q r : Int) (b c : ByteArray) (w : World) (lay : Lay w) (hb : b.size ≤ 1000) (hc : c.size ≤ 1000) (x0 : 0 ≤ x) (x1 : x ≤ 3) : Calls Tryz.prog 51 #[.int .u8 op, .agg #[.int .i64 40, .int .i64 x, .int .i64 y, .int .i64 p, .int .i64 q, .int .i64 r], .string b, .string c] w fun e w' => ∃ v, e = .returned v ∧ Strs w' v [tabS condL x] ∧ Kept w w' := by
  have L2 := hid (lay.kept ((Kept.refl w).alloc (.cells #[.int .i64 40, .int .i64 x, .int .i64 y, .int .i64 p, .int .i64 q, .int .i64 r] 46)))
  go_enter Tryz.func51, Tryz.ntmps51
  go_wp2_with (go_at_call 78; refine (cond0_any x _ L2.out x0 x1).mono ?_; rintro e u1 ⟨v1, rfl, s1, g1⟩; have S1 := hid s1; have G1 := hid g1; clear s1 g1)
  go_ret
  exact ⟨_, rfl, S1.out, ((Kept.refl w).alloc _).trans G1.out⟩
set_option maxRecDepth 100000 in
theorem ops41 (op x y p q r : Int) (b c : ByteArray) (w : World) (lay : Lay w) (hb : b.size ≤ 1000) (hc : c.size ≤ 1000) : Calls Tryz.prog 51 #[.int .u8 op, .agg #[.int .i64 41, .int .i64 x, .int .i64 y, .int .i64 p, .int .i64 q, .int .i64 r], .string b, .string c] w fun e w' => ∃ v, e = .returned v ∧ Strs w' v [] ∧ Kept w w' := by
  clear lay
  go_enter Tryz.func51, Tryz.ntmps51
  go_wp2
  go_ret
  exact ⟨_, rfl, .inl ⟨rfl, rfl⟩, (by first | exact Kept.refl _ | exact (Kept.refl w).alloc _ | exact ((Kept.refl w).alloc _).alloc _ | exact (((Kept.refl w).alloc _).alloc _).alloc _ | exact (((Kept.refl w).alloc _).alloc _).drew | exact ((((Kept.refl w).alloc _).alloc _).alloc _).drew)⟩
set_option maxRecDepth 100000 in
theorem ops42 (op x y p q r : Int) (b c : ByteArray) (w : World) (lay : Lay w) (hb : b.size ≤ 1000) (hc : c.size ≤ 1000) (x0 : 0 ≤ x) (x1 : x ≤ 7) : Calls Tryz.prog 51 #[.int .u8 op, .agg #[.int .i64 42, .int .i64 x, .int .i64 y, .int .i64 p, .int .i64 q, .int .i64 r], .string b, .string c] w fun e w' => ∃ v, e = .returned v ∧ Strs w' v [hexM (8 * x)] ∧ Kept w w' := by
  have wx : IntKind.u8.wrap (8 * x) = 8 * x := by rw [IntKind.wrap_u8]; omega
  have wy : IntKind.i64.wrap (8 * x) = 8 * x := by rw [IntKind.wrap_i64]; omega
  clear lay
  go_enter Tryz.func51, Tryz.ntmps51
  go_wp2_with (go_at_call 25; refine (lhex8_any (8 * x) _ (by omega) (by omega)).mono ?_; rintro e u1 ⟨rfl, g1⟩; have G1 := hid g1; clear g1)
  go_ret
  exact ⟨_, rfl, strs_one_at _ _ (by simp) _ _, (((Kept.refl w).alloc _).trans G1.out).alloc _⟩
set_option maxRecDepth 100000 in
theorem ops43 (op x y p q r : Int) (b c : ByteArray) (w : World) (lay : Lay w) (hb : b.size ≤ 1000) (hc : c.size ≤ 1000) (y0 : 0 ≤ y) (y1 : y ≤ 7) : Calls Tryz.prog 51 #[.int .u8 op, .agg #[.int .i64 43, .int .i64 x, .int .i64 y, .int .i64 p, .int .i64 q, .int .i64 r], .string b, .string c] w fun e w' => ∃ v, e = .returned v ∧ Strs w' v [tabS regL y] ∧ Kept w w' := by
  have zreg := lay.reg.1
  have TY := has_tab lay.reg y y0 (by simp [regL]; omega)
  generalize tabS regL y = Y at TY ⊢
  clear lay
  go_enter Tryz.func51, Tryz.ntmps51
  go_wp2
  go_ret
  exact ⟨_, rfl, strs_one_at _ _ (by simp) _ _, (by first | exact Kept.refl _ | exact (Kept.refl w).alloc _ | exact ((Kept.refl w).alloc _).alloc _ | exact (((Kept.refl w).alloc _).alloc _).alloc _ | exact (((Kept.refl w).alloc _).alloc _).drew | exact ((((Kept.refl w).alloc _).alloc _).alloc _).drew)⟩
end Go.Proofs.YtlchkflpaehgcaaGreatDoor
