/- What was turned up is turned down again, with the carry and without it, and tells the carry that there was, for every byte and all flags. No conditions. -/
import Derived.Test.YtbgegbddommcgaaRows
import Derived.WalkKit
import Derived.ProofKit
import Derived.OpenShut
import Derived.ShutString
import Derived.Deep.RegionHeld3
import Derived.Deep.DeepCutAuto
import Derived.Test.YtbgegbddommcgaaFlat
import Derived.Test.YtbgegbddommcgaaShown3
namespace Go.Proofs.Ytbgegbddommcgaa.shiftBack
open Go.ChangeShapes Go.WideShapes Go.ChangeAt Go.RowKit
open Go.ChangeMaps (open_string shut_string)
set_option linter.unusedVariables false

theorem own : ownKnob Try.prog.godebug = none := by kernel_rfl
theorem fits23 {l : List Value} (e : l.length = 4) (f : fitAll [(0, .bool), (1, .bool), (2, .bool), (3, .bool)] l) :
    ∃ (x0 : Bool) (x1 : Bool) (x2 : Bool) (x3 : Bool), l = [.bool x0, .bool x1, .bool x2, .bool x3] := by
  match l, e with
  | [c0, c1, c2, c3], _ =>
    obtain ⟨⟨v0, g0, x0, h0⟩, ⟨v1, g1, x1, h1⟩, ⟨v2, g2, x2, h2⟩, ⟨v3, g3, x3, h3⟩, _⟩ := f
    have e0 : c0 = v0 := Option.some.inj g0
    subst h0 e0
    have e1 : c1 = v1 := Option.some.inj g1
    subst h1 e1
    have e2 : c2 = v2 := Option.some.inj g2
    subst h2 e2
    have e3 : c3 = v3 := Option.some.inj g3
    subst h3 e3
    exact ⟨x0, x1, x2, x3, rfl⟩

set_option maxRecDepth 100000 in
set_option maxHeartbeats 8000000 in
theorem walk (a0 : Int) (a1c0 : Bool) (a1c1 : Bool) (a1c2 : Bool) (a1c3 : Bool) (w0 : (Lit.int .u8 a0).wf = true) (w : World) :
    Calls Try.prog 7 #[.int .u8 a0, .agg #[.bool a1c0, .bool a1c1, .bool a1c2, .bool a1c3]] w fun e w' => e = .returned (.bool true) ∧ Grown w w' := by
  obtain ⟨x0, x1⟩ := bounds_u8 w0
  have F := hid (fin8 (p := fun v => ∀ c : Bool, shOf 1 (shOf 0 v c) (shOut 0 v) = v ∧ shOut 1 (shOf 0 v c) = shOut 0 v ∧ shOf 3 (shOf 2 v c) (shOut 2 v) = v ∧ shOut 3 (shOf 2 v c) = c) back_fin a0 x0 x1 a1c3)
  obtain ⟨p0, p1⟩ := sh_bd 0 a0 a1c3 x0 x1
  obtain ⟨q0, q1⟩ := sh_bd 2 a0 a1c3 x0 x1
  go_enter Try.func7, Try.ntmps7
  go_wp2_with fail
  refine (shown3_any _).mono ?_
  rintro e u1 ⟨rfl, g1⟩
  have B1n0x1 := has_grown g1 (has_alloc _ _ _)
  obtain ⟨zB1n0x1, cB1n0x1⟩ := id B1n0x1
  have G1 := hid (grown_trans ((Grown.refl w).alloc _ _) g1)
  go_wp2_with fail
  refine (do_any _ 0 _ _ _ _ _ _ (by decide) x0 x1).mono ?_
  rintro e u2 ⟨rfl, g2⟩
  have B1n0x2 := has_grown g2 B1n0x1
  obtain ⟨zB1n0x2, cB1n0x2⟩ := id B1n0x2
  have G2 := hid (grown_trans G1.out g2)
  go_wp2_with fail
  refine (do_any _ 1 _ _ _ _ _ _ (by decide) p0 p1).mono ?_
  rintro e u3 ⟨rfl, g3⟩
  rw [F.out.1, F.out.2.1]
  have B1n0x3 := has_grown g3 (has_past B1n0x2 _)
  have B3n0x3 := has_grown g3 (has_alloc _ _ _)
  obtain ⟨zB1n0x3, cB1n0x3⟩ := id B1n0x3
  obtain ⟨zB3n0x3, cB3n0x3⟩ := id B3n0x3
  have G3 := hid (grown_trans (G2.out.alloc _ _) g3)
  go_wp2_with fail
  refine (do_any _ 2 _ _ _ _ _ _ (by decide) x0 x1).mono ?_
  rintro e u4 ⟨rfl, g4⟩
  have B1n0x4 := has_grown g4 (has_past B1n0x3 _)
  have B3n0x4 := has_grown g4 (has_past B3n0x3 _)
  have B4n0x4 := has_grown g4 (has_alloc _ _ _)
  obtain ⟨zB1n0x4, cB1n0x4⟩ := id B1n0x4
  obtain ⟨zB3n0x4, cB3n0x4⟩ := id B3n0x4
  obtain ⟨zB4n0x4, cB4n0x4⟩ := id B4n0x4
  have G4 := hid (grown_trans (G3.out.alloc _ _) g4)
  go_wp2_with fail
  refine (do_any _ 3 _ _ _ _ _ _ (by decide) q0 q1).mono ?_
  rintro e u5 ⟨rfl, g5⟩
  rw [F.out.2.2.1, F.out.2.2.2]
  have B1n0x5 := has_grown g5 (has_past B1n0x4 _)
  have B3n0x5 := has_grown g5 (has_past B3n0x4 _)
  have B4n0x5 := has_grown g5 (has_past B4n0x4 _)
  have B5n0x5 := has_grown g5 (has_alloc _ _ _)
  obtain ⟨zB1n0x5, cB1n0x5⟩ := id B1n0x5
  obtain ⟨zB3n0x5, cB3n0x5⟩ := id B3n0x5
  obtain ⟨zB4n0x5, cB4n0x5⟩ := id B4n0x5
  obtain ⟨zB5n0x5, cB5n0x5⟩ := id B5n0x5
  have G5 := hid (grown_trans (G4.out.alloc _ _) g5)
  go_wp2
  go_ret
  exact ⟨rfl, (G5.out.alloc _ _)⟩

set_option maxRecDepth 100000 in
theorem lifted (os : Os) (started : os.Started) (H : Type) (enc : TypeId × Value → H) :
    ReturnsInHanded {} Try.checked os 7 .any (Rows.shiftBackSpec.pre6 enc Try.prog Try.f7 Rows.shiftBackRow.domain false) (Rows.shiftBackSpec.post enc Try.prog Try.f7 false true false false) := by
  refine returnsInHanded_of_change (C := Try.checked) own started (by kernel_rfl) Try.func7
    (ChangeSpec.witness6 (enc := enc) (C := Try.checked) false ⟨#[], #[.int .u8 0, .agg #[.bool false, .bool false, .bool false, .bool false]], []⟩ 8 (by kernel_rfl) (by kernel_rfl) (by kernel_rfl) (by kernel_rfl)) ?_
  intro W base args ds gs before hval0 hW hcnd _
  have hval : ∀ (j : Nat) t v, Try.f7.params[j]? = some t → args[j]? = some v → Value.okWide Try.prog W .any base t v := hval0
  have hW' := hW
  obtain ⟨p, q, hA0, hV, rfl, hfz, hnd⟩ := hW
  have hA : DataW.TrodAll enc Try.prog W 0 (fun _ => true) true Try.f7.params.toList args.toList ds p := hA0
  rw [Try.params7] at hA hval
  obtain ⟨v0, vs0, d0, ds0, p0, q0, hargs, rfl, rfl, h0, r0⟩ := trodAll_cons hA
  obtain ⟨v1, vs1, d1, ds1, p1, q1, rfl, rfl, rfl, h1, r1⟩ := trodAll_cons r0
  obtain ⟨rfl, rfl, rfl⟩ := trodAll_nil r1
  obtain rfl : args = #[v0, v1] := by cases args; simp_all
  obtain ⟨rfl, rfl⟩ := trodVars_none hV
  obtain ⟨a0, rfl, rfl, rfl, w0⟩ := open_int Try.underlying5 (hval 0 5 v0 rfl rfl) h0
  obtain ⟨rfl, ⟨l1, rfl, e1, f1⟩, k1⟩ := flat_open (n := 8) (c := 4) (L := [(0, .bool), (1, .bool), (2, .bool), (3, .bool)]) Try.underlying23 (by kernel_rfl) (by kernel_rfl) (hval 1 23 v1 rfl rfl) h1
  obtain ⟨a1c0, a1c1, a1c2, a1c3, rfl⟩ := fits23 e1 f1
  clear hA0 hval0
  simp only [List.append_nil] at hW'
  refine (walk a0 a1c0 a1c1 a1c2 a1c3 w0 W).mono fun e W' ⟨he, hg⟩ => ?_
  subst he
  exact ⟨_, rfl, post_of_same (pa := []) (pv := []) hW' (fun _ _ _ => (trodAll_cons_mk (shut_bool Try.underlying4 _) trodAll_mk0)) (fun sp _ => (trodAll_cons_mk (shut_int Try.underlying5 w0) (trodAll_cons_mk (k1 _ _ _ _) trodAll_mk0))) (fun _ _ => rfl) rfl
    (hg.frame _) hg.2.1 (ok_one (by kernel_rfl) rfl (okWide_bool_mk Try.underlying4 _))⟩

theorem over : Rows.shiftBackRow.holds Try.pinned (OpenSpec.ofChange Rows.shiftBackSpec) :=
  OpenClaim.holds_of_wide 7 Try.f7 rfl rfl rfl rfl rfl rfl rfl ⟨rfl, rfl, rfl, rfl, rfl⟩ rfl rfl rfl rfl rfl (by kernel_rfl) Try.func7 (by kernel_rfl)
    (of_decide_eq_true (by kernel_rfl)) (by unfold Func.isWrapper; first | (rw [if_pos (by decide +kernel)]; kernel_rfl) | (rw [if_neg (by decide +kernel)]; exact ⟨rfl, rfl⟩))
    (fun os started H enc _ => lifted os started H enc)

theorem proved : Rows.ShiftBackSaid :=
  over
end Go.Proofs.Ytbgegbddommcgaa.shiftBack
namespace Go.Proofs.Ytbgegbddommcgaa
theorem shiftBack_holds : Rows.ShiftBackSaid := shiftBack.proved
end Go.Proofs.Ytbgegbddommcgaa
