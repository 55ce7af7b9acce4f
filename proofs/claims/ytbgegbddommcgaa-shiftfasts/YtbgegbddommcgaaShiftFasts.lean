/- The short shifts of A come to the byte and the flags that the document's own answer gives, for every number of a shift, every byte and all flags. No conditions. -/
import Derived.Test.YtbgegbddommcgaaRows
import Derived.WalkKit
import Derived.ProofKit
import Derived.OpenShut
import Derived.ShutString
import Derived.Deep.RegionHeld3
import Derived.Deep.DeepCutAuto
import Derived.Test.YtbgegbddommcgaaFlat
import Derived.Test.YtbgegbddommcgaaShown3
import Derived.Test.YtbgegbddommcgaaRefFast
namespace Go.Proofs.Ytbgegbddommcgaa.shiftFasts
open Go.ChangeShapes Go.WideShapes Go.ChangeAt Go.RowKit
open Go.ChangeMaps (open_string shut_string)
set_option linter.unusedVariables false

theorem own : ownKnob Try.prog.godebug = none := by kernel_rfl
theorem fits23 {l : List Value} (e : l.length = 4) (f : fitAll [(0, .bool), (1, .bool), (2, .bool), (3, .bool)] l) :
    ∃ (x0 : Bool) (x1 : Bool) (x2 : Bool) (x3 : Bool), l = [.bool x0, .bool x1, .bool x2, .bool x3] := by
  match l, e with
  | [c0, c1, c2, c3], _ =>
    obtain ⟨⟨v0, g0, x0, h0⟩, ⟨v1, g1, x1, h1⟩, ⟨v2, g2, x2, h2⟩, ⟨v3, g3, x3, h3⟩, _⟩ := f
    have e0 : c0 = v0 := Option.some.inj g0
    subst h0 e0
    have e1 : c1 = v1 := Option.some.inj g1
    subst h1 e1
    have e2 : c2 = v2 := Option.some.inj g2
    subst h2 e2
    have e3 : c3 = v3 := Option.some.inj g3
    subst h3 e3
    exact ⟨x0, x1, x2, x3, rfl⟩

set_option maxRecDepth 100000 in
set_option maxHeartbeats 8000000 in
theorem walk (a0 : Int) (a1 : Int) (a2c0 : Bool) (a2c1 : Bool) (a2c2 : Bool) (a2c3 : Bool) (w0 : (Lit.int .i64 a0).wf = true) (w1 : (Lit.int .u8 a1).wf = true) (w : World) :
    Calls Try.prog 4 #[.int .i64 a0, .int .u8 a1, .agg #[.bool a2c0, .bool a2c1, .bool a2c2, .bool a2c3]] w fun e w' => e = .returned (.bool true) ∧ Grown w w' := by
  obtain ⟨o0, o1⟩ := bounds_i64 w0
  obtain ⟨x0, x1⟩ := bounds_u8 w1
  obtain ⟨k, hk⟩ : ∃ k, a0 % 4 = k := ⟨_, rfl⟩
  have HK := hid hk
  clear hk
  go_enter Try.func4, Try.ntmps4
  go_wp2_with fail
  refine (shown3_any _).mono ?_
  rintro e u1 ⟨rfl, g1⟩
  have B1n0x1 := has_grown g1 (has_alloc _ _ _)
  obtain ⟨zB1n0x1, cB1n0x1⟩ := id B1n0x1
  have G1 := hid (grown_trans ((Grown.refl w).alloc _ _) g1)
  go_wp2_with fail
  refine (fast_any _ k _ _ _ _ _ _ HK.out x0 x1).mono ?_
  rintro e u2 ⟨rfl, g2⟩
  have B1n0x2 := has_grown g2 B1n0x1
  obtain ⟨zB1n0x2, cB1n0x2⟩ := id B1n0x2
  have G2 := hid (grown_trans G1.out g2)
  go_wp2_with fail
  refine (rfast_any _ k _ _ _ _ _ _ o0 o1 HK.out x0 x1).mono ?_
  rintro e u3 ⟨rfl, g3⟩
  have B1n0x3 := has_grown g3 (has_past B1n0x2 _)
  have B3n0x3 := has_grown g3 (has_alloc _ _ _)
  obtain ⟨zB1n0x3, cB1n0x3⟩ := id B1n0x3
  obtain ⟨zB3n0x3, cB3n0x3⟩ := id B3n0x3
  have G3 := hid (grown_trans (G2.out.alloc _ _) g3)
  go_wp2
  go_ret
  exact ⟨rfl, (G3.out.alloc _ _)⟩

set_option maxRecDepth 100000 in
theorem lifted (os : Os) (started : os.Started) (H : Type) (enc : TypeId × Value → H) :
    ReturnsInHanded {} Try.checked os 4 .any (Rows.shiftFastsSpec.pre6 enc Try.prog Try.f4 Rows.shiftFastsRow.domain false) (Rows.shiftFastsSpec.post enc Try.prog Try.f4 false true false false) := by
  refine returnsInHanded_of_change (C := Try.checked) own started (by kernel_rfl) Try.func4
    (ChangeSpec.witness6 (enc := enc) (C := Try.checked) false ⟨#[], #[.int .i64 0, .int .u8 0, .agg #[.bool false, .bool false, .bool false, .bool false]], []⟩ 8 (by kernel_rfl) (by kernel_rfl) (by kernel_rfl) (by kernel_rfl)) ?_
  intro W base args ds gs before hval0 hW hcnd _
  have hval : ∀ (j : Nat) t v, Try.f4.params[j]? = some t → args[j]? = some v → Value.okWide Try.prog W .any base t v := hval0
  have hW' := hW
  obtain ⟨p, q, hA0, hV, rfl, hfz, hnd⟩ := hW
  have hA : DataW.TrodAll enc Try.prog W 0 (fun _ => true) true Try.f4.params.toList args.toList ds p := hA0
  rw [Try.params4] at hA hval
  obtain ⟨v0, vs0, d0, ds0, p0, q0, hargs, rfl, rfl, h0, r0⟩ := trodAll_cons hA
  obtain ⟨v1, vs1, d1, ds1, p1, q1, rfl, rfl, rfl, h1, r1⟩ := trodAll_cons r0
  obtain ⟨v2, vs2, d2, ds2, p2, q2, rfl, rfl, rfl, h2, r2⟩ := trodAll_cons r1
  obtain ⟨rfl, rfl, rfl⟩ := trodAll_nil r2
  obtain rfl : args = #[v0, v1, v2] := by cases args; simp_all
  obtain ⟨rfl, rfl⟩ := trodVars_none hV
  obtain ⟨a0, rfl, rfl, rfl, w0⟩ := open_int Try.underlying3 (hval 0 3 v0 rfl rfl) h0
  obtain ⟨a1, rfl, rfl, rfl, w1⟩ := open_int Try.underlying5 (hval 1 5 v1 rfl rfl) h1
  obtain ⟨rfl, ⟨l2, rfl, e2, f2⟩, k2⟩ := flat_open (n := 8) (c := 4) (L := [(0, .bool), (1, .bool), (2, .bool), (3, .bool)]) Try.underlying23 (by kernel_rfl) (by kernel_rfl) (hval 2 23 v2 rfl rfl) h2
  obtain ⟨a2c0, a2c1, a2c2, a2c3, rfl⟩ := fits23 e2 f2
  clear hA0 hval0
  simp only [List.append_nil] at hW'
  refine (walk a0 a1 a2c0 a2c1 a2c2 a2c3 w0 w1 W).mono fun e W' ⟨he, hg⟩ => ?_
  subst he
  exact ⟨_, rfl, post_of_same (pa := []) (pv := []) hW' (fun _ _ _ => (trodAll_cons_mk (shut_bool Try.underlying4 _) trodAll_mk0)) (fun sp _ => (trodAll_cons_mk (shut_int Try.underlying3 w0) (trodAll_cons_mk (shut_int Try.underlying5 w1) (trodAll_cons_mk (k2 _ _ _ _) trodAll_mk0)))) (fun _ _ => rfl) rfl
    (hg.frame _) hg.2.1 (ok_one (by kernel_rfl) rfl (okWide_bool_mk Try.underlying4 _))⟩

theorem over : Rows.shiftFastsRow.holds Try.pinned (OpenSpec.ofChange Rows.shiftFastsSpec) :=
  OpenClaim.holds_of_wide 4 Try.f4 rfl rfl rfl rfl rfl rfl rfl ⟨rfl, rfl, rfl, rfl, rfl⟩ rfl rfl rfl rfl rfl (by kernel_rfl) Try.func4 (by kernel_rfl)
    (of_decide_eq_true (by kernel_rfl)) (by unfold Func.isWrapper; first | (rw [if_pos (by decide +kernel)]; kernel_rfl) | (rw [if_neg (by decide +kernel)]; exact ⟨rfl, rfl⟩))
    (fun os started H enc _ => lifted os started H enc)

theorem proved : Rows.ShiftFastsSaid :=
  over
end Go.Proofs.Ytbgegbddommcgaa.shiftFasts
namespace Go.Proofs.Ytbgegbddommcgaa
theorem shiftFasts_holds : Rows.ShiftFastsSaid := shiftFasts.proved
end Go.Proofs.Ytbgegbddommcgaa
