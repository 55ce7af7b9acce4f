/- Any transfer is a cycle later what the document says, and copies the byte that it says -/
import Derived.Test.YtoohpdnmdnjpaaaRows
import Derived.WalkKit
import Derived.ProofKit
import Derived.OpenShut
import Derived.ShutString
import Derived.ChangeOld
import Derived.Deep.RegionHeld3
import Derived.Deep.DeepCutAuto
import Derived.LaidMore
import Derived.Lay
import Derived.Stop.Joined
import Derived.SevenTiedAt
import Derived.Deep.DeepHandedRow
import Derived.Deep.DeepWitnessRowRef
import Derived.SizedLaws
import Derived.SliceStrings
import Derived.Test.YtoohpdnmdnjpaaaFlat
import Derived.Test.YtoohpdnmdnjpaaaK6
import Derived.Test.YtoohpdnmdnjpaaaFlat
import Derived.Test.YtoohpdnmdnjpaaaLd19a
namespace Go.Proofs.Ytoohpdnmdnjpaaa.dmaSteps
open Go.ChangeShapes Go.WideShapes Go.ChangeAt Go.RowKit
open Go.ChangeMaps (open_string shut_string)
set_option linter.unusedVariables false

theorem own : ownKnob Try.prog.godebug = none := by kernel_rfl
theorem laidOut : laidOutB Try.prog = true := by kernel_rfl
theorem fits23 {l : List Value} (e : l.length = 5) (f : fitAll [(0, .bool), (1, .int .u8), (2, .int .u8), (3, .int .u8), (4, .int .u8)] l) :
    ∃ (x0 : Bool) (x1 : Int) (x2 : Int) (x3 : Int) (x4 : Int), l = [.bool x0, .int .u8 x1, .int .u8 x2, .int .u8 x3, .int .u8 x4] ∧ (Lit.int .u8 x1).wf = true ∧ (Lit.int .u8 x2).wf = true ∧ (Lit.int .u8 x3).wf = true ∧ (Lit.int .u8 x4).wf = true := by
  match l, e with
  | [c0, c1, c2, c3, c4], _ =>
    obtain ⟨⟨v0, g0, x0, h0⟩, ⟨v1, g1, x1, h1, w1⟩, ⟨v2, g2, x2, h2, w2⟩, ⟨v3, g3, x3, h3, w3⟩, ⟨v4, g4, x4, h4, w4⟩, _⟩ := f
    have e0 : c0 = v0 := Option.some.inj g0
    subst h0 e0
    have e1 : c1 = v1 := Option.some.inj g1
    subst h1 e1
    have e2 : c2 = v2 := Option.some.inj g2
    subst h2 e2
    have e3 : c3 = v3 := Option.some.inj g3
    subst h3 e3
    have e4 : c4 = v4 := Option.some.inj g4
    subst h4 e4
    exact ⟨x0, x1, x2, x3, x4, rfl, w1, w2, w3, w4⟩

set_option maxRecDepth 100000 in
set_option maxHeartbeats 8000000 in
theorem walk (a0c0 : Bool) (a0c1 : Int) (a0c2 : Int) (a0c3 : Int) (a0c4 : Int) (w : World) (w0c1 : (Lit.int .u8 a0c1).wf = true) (w0c2 : (Lit.int .u8 a0c2).wf = true) (w0c3 : (Lit.int .u8 a0c3).wf = true) (w0c4 : (Lit.int .u8 a0c4).wf = true) :
    Calls Try.prog 5 #[.agg #[.bool a0c0, .int .u8 a0c1, .int .u8 a0c2, .int .u8 a0c3, .int .u8 a0c4]] w fun e w' => e = .returned (.bool true) ∧ Kept w w' := by
  exact steps19 ⟨a0c0, a0c1, a0c2, a0c3, a0c4⟩ w ⟨(bounds_u8 w0c1).1, (bounds_u8 w0c1).2, (bounds_u8 w0c2).1, (bounds_u8 w0c2).2, (bounds_u8 w0c3).1, (bounds_u8 w0c3).2, (bounds_u8 w0c4).1, (bounds_u8 w0c4).2⟩

set_option maxRecDepth 100000 in
theorem contract (H : Type) (enc : TypeId × Value → H) (fi : Stop.Interp) (W : World) (base : Nat) (args : Array Value) (ds gs : List (DataW H)) (before : List MemPlace)
    (hval : ∀ (j : Nat) t v, Try.f5.params[j]? = some t → args[j]? = some v → Value.okWide Try.prog W .any base t v)
    (hW : DataW.Whole enc Try.prog Try.f5.params.toList (OpenSpec.ofChange Rows.dmaStepsSpec).vars false W args.toList ds gs before)
    (hk0 : ∀ k, (OpenSpec.ofChange Rows.dmaStepsSpec).cond = some k → k H (ds ++ gs) = true)
    (hsz0 : (DataW.weightsEach Try.prog (Try.f5.params.toList ++ (OpenSpec.ofChange Rows.dmaStepsSpec).bare.plain.varTypes Try.prog) (ds ++ gs)).all (· ≤ reachBytes) = true) (hL : laidMetH Try.prog Rows.dmaStepsRow.laid W) :
    Calls Try.prog 5 args W fun e W' => ∃ v, e = .returned v ∧ ((OpenSpec.ofChange Rows.dmaStepsSpec).at fi).post enc Try.prog Try.f5 false true false false W args v W' := by
  have hW' := hW
  obtain ⟨p, q, hA0, hV, rfl, hfz, hnd⟩ := hW
  have hA : DataW.TrodAll enc Try.prog W 0 (fun _ => true) true Try.f5.params.toList args.toList ds p := hA0
  rw [Try.params5] at hA hval
  obtain ⟨v0, vs0, d0, ds0, p0, q0, hargs, rfl, rfl, h0, r0x⟩ := trodAll_cons hA
  obtain ⟨rfl, rfl, rfl⟩ := trodAll_nil r0x
  obtain rfl : args = #[v0] := by cases args; simp_all
  obtain ⟨rfl, rfl⟩ := trodVars_none hV
  have hsz : (DataW.weightsEach Try.prog [23] [d0]).all (· ≤ reachBytes) = true := by
    have q := hsz0
    rw [show Try.f5.params.toList ++ (OpenSpec.ofChange Rows.dmaStepsSpec).bare.plain.varTypes Try.prog = [23] by kernel_rfl] at q
    simpa using q
  obtain ⟨rfl, ⟨l0, rfl, e0, f0⟩, k0⟩ := flat_open (n := 8) (c := 5) (L := [(0, .bool), (1, .int .u8), (2, .int .u8), (3, .int .u8), (4, .int .u8)]) Try.underlying23 (by kernel_rfl) (by kernel_rfl) (hval 0 23 v0 rfl rfl) h0
  obtain ⟨a0c0, a0c1, a0c2, a0c3, a0c4, rfl, w0c1, w0c2, w0c3, w0c4⟩ := fits23 e0 f0
  clear hA0
  refine (walk a0c0 a0c1 a0c2 a0c3 a0c4 W w0c1 w0c2 w0c3 w0c4).mono fun e W' ⟨he, hg⟩ => ?_
  subst he
  exact ⟨_, rfl, _, _, _, [], _, [], hW', trodAll_mk1 (shut_bool Try.underlying4 _), (trodAll_cons_mk (k0 _ _ _ _) trodAll_mk0), rfl, hg.frame _, fun h => by cases h⟩
theorem start_met (os : Os) (args : Array Value) : laidMetH Try.prog Rows.dmaStepsRow.laid ((World.laidAll Try.prog os Rows.dmaStepsRow.laid).forCall (fun _ _ => 0) ⟨#[], args, []⟩).memory := by
  exact ⟨[], rfl, List.nodup_nil, fun _ _ h => by cases h⟩
theorem reads (os : Os) {H : Type} (enc : TypeId × Value → H) : ∃ places, DataW.whole enc Try.prog ((World.laidAll Try.prog os Rows.dmaStepsRow.laid).forCall (fun _ _ => 0) ⟨#[], #[.agg #[.bool false, .int .u8 0, .int .u8 0, .int .u8 0, .int .u8 0]], []⟩).memory Try.f5.params.toList (OpenSpec.ofChange Rows.dmaStepsSpec).vars false #[.agg #[.bool false, .int .u8 0, .int .u8 0, .int .u8 0, .int .u8 0]].toList 8 = some ([.agg [.lit (.bool false), .lit (.int .u8 0), .lit (.int .u8 0), .lit (.int .u8 0), .lit (.int .u8 0)]], [], places) :=
  ⟨[], by kernel_rfl⟩
set_option maxRecDepth 100000 in
theorem lifted (os : Os) (started : os.Started) (H : Type) (enc : TypeId × Value → H) (fi : Stop.Interp) :
    ReturnsInHanded {} Try.checked os 5 .any ((OpenSpec.ofChange Rows.dmaStepsSpec).preRow enc Try.prog Try.f5 Rows.dmaStepsRow.domain false Rows.dmaStepsRow.laid) (((OpenSpec.ofChange Rows.dmaStepsSpec).at fi).post enc Try.prog Try.f5 false true false false) := by
  obtain ⟨places, hx⟩ := reads os enc
  refine returnsInHanded_of_row (C := Try.checked) (s := (OpenSpec.ofChange Rows.dmaStepsSpec)) own started (by kernel_rfl) Try.func5
    (witness_row_atRef (enc := enc) (C := Try.checked) false (World.laidAll Try.prog os Rows.dmaStepsRow.laid) #[.agg #[.bool false, .int .u8 0, .int .u8 0, .int .u8 0, .int .u8 0]] (World.laidAll_os _ _ _) (by kernel_rfl) (by kernel_rfl) (by kernel_rfl)
      (OpenSpec.preRow_of_cond 8 hx (by kernel_rfl) (fun k hk => by cases hk) (by kernel_rfl) (start_met os _))) ?_
  intro W base args ds gs before hval hW _ hk hsz hL _ _
  exact contract H enc fi W base args ds gs before hval hW hk hsz hL
theorem said : Rows.DmaStepsSaid :=
  OpenClaim.holds_of_cond 5 Try.f5 rfl rfl rfl rfl rfl rfl rfl ⟨rfl, rfl, rfl, rfl, rfl⟩ rfl rfl rfl rfl rfl (by kernel_rfl) Try.func5 (by kernel_rfl)
    (of_decide_eq_true (by kernel_rfl)) (by unfold Func.isWrapper; first | (rw [if_pos (by decide +kernel)]; kernel_rfl) | (rw [if_neg (by decide +kernel)]; exact ⟨rfl, rfl⟩))
    (fun os started H enc _ fi => by rw [OpenClaim.pre_eq_preRow]; exact lifted os started H enc fi)
end Go.Proofs.Ytoohpdnmdnjpaaa.dmaSteps
namespace Go.Proofs.Ytoohpdnmdnjpaaa
theorem dmaSteps_holds : Rows.DmaStepsSaid := dmaSteps.said
end Go.Proofs.Ytoohpdnmdnjpaaa
