/- Any form is encoded, or refused, as the document says: for every form. -/
import Derived.Test.YtcooghpjdjkmhaaDoorRows
import Derived.WalkKit
import Derived.ProofKit
import Derived.OpenShut
import Derived.ShutString
import Derived.Deep.RegionHeld3
import Derived.Deep.DeepCutAuto
import Derived.LaidMore
import Derived.Stop.Joined
import Derived.SevenTiedAt
import Derived.Test.YtcooghpjdjkmhaaDoorCards
import Derived.Test.YtcooghpjdjkmhaaDoorTie
import Derived.Test.YtcooghpjdjkmhaaDoorLaidOp
import Derived.Test.YtcooghpjdjkmhaaDoorFlat
import Derived.Test.YtcooghpjdjkmhaaDoorShown5
import Derived.Test.YtcooghpjdjkmhaaDoorOp6
import Derived.Test.YtcooghpjdjkmhaaDoorRf5
namespace Go.Proofs.YtcooghpjdjkmhaaDoor.opcodeEncodes
open Go.ChangeShapes Go.WideShapes Go.ChangeAt Go.RowKit
open Go.ChangeMaps (open_string shut_string)
set_option linter.unusedVariables false

theorem own : ownKnob Tryd.prog.godebug = none := by kernel_rfl
theorem fits24 {l : List Value} (e : l.length = 6) (f : fitAll [(0, .int .i64), (1, .int .i64), (2, .int .i64), (3, .int .i64), (4, .int .i64), (5, .int .i64)] l) :
    ∃ (x0 : Int) (x1 : Int) (x2 : Int) (x3 : Int) (x4 : Int) (x5 : Int), l = [.int .i64 x0, .int .i64 x1, .int .i64 x2, .int .i64 x3, .int .i64 x4, .int .i64 x5] ∧ (Lit.int .i64 x0).wf = true ∧ (Lit.int .i64 x1).wf = true ∧ (Lit.int .i64 x2).wf = true ∧ (Lit.int .i64 x3).wf = true ∧ (Lit.int .i64 x4).wf = true ∧ (Lit.int .i64 x5).wf = true := by
  match l, e with
  | [c0, c1, c2, c3, c4, c5], _ =>
    obtain ⟨⟨v0, g0, x0, h0, w0⟩, ⟨v1, g1, x1, h1, w1⟩, ⟨v2, g2, x2, h2, w2⟩, ⟨v3, g3, x3, h3, w3⟩, ⟨v4, g4, x4, h4, w4⟩, ⟨v5, g5, x5, h5, w5⟩, _⟩ := f
    have e0 : c0 = v0 := Option.some.inj g0
    subst h0 e0
    have e1 : c1 = v1 := Option.some.inj g1
    subst h1 e1
    have e2 : c2 = v2 := Option.some.inj g2
    subst h2 e2
    have e3 : c3 = v3 := Option.some.inj g3
    subst h3 e3
    have e4 : c4 = v4 := Option.some.inj g4
    subst h4 e4
    have e5 : c5 = v5 := Option.some.inj g5
    subst h5 e5
    exact ⟨x0, x1, x2, x3, x4, x5, rfl, w0, w1, w2, w3, w4, w5⟩

set_option maxRecDepth 100000 in
set_option maxHeartbeats 8000000 in
theorem walk (a0c0 : Int) (a0c1 : Int) (a0c2 : Int) (a0c3 : Int) (a0c4 : Int) (a0c5 : Int) (w0c0 : (Lit.int .i64 a0c0).wf = true) (w0c1 : (Lit.int .i64 a0c1).wf = true) (w0c2 : (Lit.int .i64 a0c2).wf = true) (w0c3 : (Lit.int .i64 a0c3).wf = true) (w0c4 : (Lit.int .i64 a0c4).wf = true) (w0c5 : (Lit.int .i64 a0c5).wf = true) (w : World) (lay : Has w 0 #[.int .i64 43, .int .i64 4, .int .i64 44, .int .i64 3, .int .i64 45, .int .i64 4, .int .i64 46, .int .i64 4]) :
    Calls Tryd.prog 6 #[.agg #[.int .i64 a0c0, .int .i64 a0c1, .int .i64 a0c2, .int .i64 a0c3, .int .i64 a0c4, .int .i64 a0c5]] w fun e w' => e = .returned (.bool true) ∧ Grown w w' := by
  obtain ⟨f, rfl, rfl, rfl, rfl, rfl, rfl⟩ : ∃ f : Fm, f.kind = a0c0 ∧ f.x = a0c1 ∧ f.y = a0c2 ∧ f.bytes = a0c3 ∧ f.cycles = a0c4 ∧ f.taken = a0c5 := ⟨⟨a0c0, a0c1, a0c2, a0c3, a0c4, a0c5⟩, rfl, rfl, rfl, rfl, rfl, rfl⟩
  obtain ⟨A, hA⟩ : ∃ A, encA f = A := ⟨_, rfl⟩
  obtain ⟨B, hB⟩ : ∃ B, encB f = B := ⟨_, rfl⟩
  obtain ⟨E, hE⟩ : ∃ E, encE f = E := ⟨_, rfl⟩
  have HA := hid hA
  have HB := hid hB
  have HE := hid hE
  clear hA hB hE
  go_enter Tryd.func6, Tryd.ntmps6
  go_wp2_with fail
  refine (shown5_any _ (has_past lay _)).mono ?_
  rintro e u1 ⟨rfl, g1⟩
  have B1n0x1 := has_grown g1 (has_alloc _ _ _)
  obtain ⟨zB1n0x1, cB1n0x1⟩ := id B1n0x1
  have G1 := hid (grown_trans ((Grown.refl w).alloc _ _) g1)
  go_wp2_with fail
  refine (encode_any f _ (has_grown G1.out lay)).mono ?_
  rintro e u2 ⟨rfl, g2⟩
  rw [HA.out, HB.out, HE.out]
  have B1n0x2 := has_grown g2 B1n0x1
  obtain ⟨zB1n0x2, cB1n0x2⟩ := id B1n0x2
  have G2 := hid (grown_trans G1.out g2)
  go_wp2_with fail
  refine (rencode_any f _).mono ?_
  rintro e u3 ⟨rfl, g3⟩
  rw [HA.out, HB.out, HE.out]
  have B1n0x3 := has_grown g3 B1n0x2
  obtain ⟨zB1n0x3, cB1n0x3⟩ := id B1n0x3
  have G3 := hid (grown_trans G2.out g3)
  go_wp2
  go_ret
  exact ⟨rfl, G3.out⟩

set_option maxRecDepth 100000 in
theorem lifted (os : Os) (started : os.Started) (H : Type) (enc : TypeId × Value → H) :
    ReturnsInHanded {} Tryd.checked os 6 .any (fun w args => (Rows.opcodeEncodesSpec.pre enc Tryd.prog Tryd.f6 [] false w args ∧ laidMetH Tryd.prog Rows.opcodeEncodesRow.laid w) ∧ sizedMet enc Tryd.prog Tryd.f6 (OpenSpec.ofChange Rows.opcodeEncodesSpec) false w args) (Rows.opcodeEncodesSpec.post enc Tryd.prog Tryd.f6 false true false false) := by
  refine returnsInHanded_of_change_and (C := Tryd.checked) (X := fun w _ => laidMetH Tryd.prog Rows.opcodeEncodesRow.laid w) (fun _ _ _ hh h => h.of_heap hh) own started (by kernel_rfl) Tryd.func6
    (ChangeSpec.witness_shaped (enc := enc) (C := Tryd.checked) (os := os) (X := fun w _ => laidMetH Tryd.prog Rows.opcodeEncodesRow.laid w) false (World.doorLaid Tryd.prog 400 os) #[.agg #[.int .i64 0, .int .i64 0, .int .i64 0, .int .i64 0, .int .i64 0, .int .i64 0]] 8 rfl (World.shaped_of_RefB (by kernel_rfl) (by kernel_rfl)) (by kernel_rfl) (by kernel_rfl) (by kernel_rfl) (door_met os _)) ?_
  intro W base args ds gs before hval0 hW _ _ hL _
  have hval : ∀ (j : Nat) t v, Tryd.f6.params[j]? = some t → args[j]? = some v → Value.okWide Tryd.prog W .any base t v := hval0
  have hW' := hW
  obtain ⟨p, q, hA0, hV, rfl, hfz, hnd⟩ := hW
  have hA : DataW.TrodAll enc Tryd.prog W 0 (fun _ => true) true Tryd.f6.params.toList args.toList ds p := hA0
  rw [Tryd.params6] at hA hval
  obtain ⟨v0, vs0, d0, ds0, p0, q0, hargs, rfl, rfl, h0, r0⟩ := trodAll_cons hA
  obtain ⟨rfl, rfl, rfl⟩ := trodAll_nil r0
  obtain rfl : args = #[v0] := by cases args; simp_all
  obtain ⟨rfl, rfl⟩ := trodVars_none hV
  obtain ⟨rfl, ⟨l0, rfl, e0, f0⟩, k0⟩ := flat_open (n := 8) (c := 6) (L := [(0, .int .i64), (1, .int .i64), (2, .int .i64), (3, .int .i64), (4, .int .i64), (5, .int .i64)]) Tryd.underlying24 (by kernel_rfl) (by kernel_rfl) (hval 0 24 v0 rfl rfl) h0
  obtain ⟨a0c0, a0c1, a0c2, a0c3, a0c4, a0c5, rfl, w0c0, w0c1, w0c2, w0c3, w0c4, w0c5⟩ := fits24 e0 f0
  clear hA0 hval0
  simp only [List.append_nil] at hW'
  refine (walk a0c0 a0c1 a0c2 a0c3 a0c4 a0c5 w0c0 w0c1 w0c2 w0c3 w0c4 w0c5 W (of_laid hL)).mono fun e W' ⟨he, hg⟩ => ?_
  subst he
  exact ⟨_, rfl, post_of_same (pa := []) (pv := []) hW' (fun _ _ _ => (trodAll_cons_mk (shut_bool Tryd.underlying4 _) trodAll_mk0)) (fun sp _ => (trodAll_cons_mk (k0 _ _ _ _) trodAll_mk0)) (fun _ _ => rfl) rfl
    (hg.frame _) hg.2.1 (ok_one (by kernel_rfl) rfl (okWide_bool_mk Tryd.underlying4 _))⟩

theorem over : Rows.opcodeEncodesRow.holds Tryd.pinned (OpenSpec.ofChange Rows.opcodeEncodesSpec) :=
  OpenClaim.holds_of_wide 6 Tryd.f6 rfl rfl rfl rfl rfl rfl rfl ⟨rfl, rfl, rfl, rfl, rfl⟩ rfl rfl rfl rfl rfl (by kernel_rfl) Tryd.func6 (by kernel_rfl)
    (of_decide_eq_true (by kernel_rfl)) (by unfold Func.isWrapper; first | (rw [if_pos (by decide +kernel)]; kernel_rfl) | (rw [if_neg (by decide +kernel)]; exact ⟨rfl, rfl⟩))
    (fun os started H enc _ => lifted os started H enc)

theorem card : Rows.OpcodeEncodesCardSaid :=
  Claim7.holds_tied_plain_at .later [] Rows.opcodeEncodesCard.laidKinds true Rows.opcodeEncodesCard.stood.harness false
    over (fun _ h => by cases h) (by kernel_rfl) (fun _ h => by cases h) opcodeEncodes_row_tie rfl ⟨rfl, rfl⟩ (by kernel_rfl) rfl
    (fun f fn hf hfn => by
      obtain rfl : f = 6 := Option.some.inj ((show Tryd.prog.funcNamed Rows.opcodeEncodesRow.func = some 6 by kernel_rfl).symm.trans hf) |>.symm
      obtain rfl : fn = Tryd.f6 := (Option.some.inj (Tryd.func6.symm.trans hfn)).symm
      exact ⟨by kernel_rfl, fun j t ht => by
        rw [Tryd.params6] at ht
        have hm : t ∈ [24] := by simpa using Array.mem_of_getElem? ht
        have hall : ([24].all fun u => !Tryd.prog.wantsStandIn u) = true := by kernel_rfl
        exact (show Tryd.prog.wantsStandIn t = false by simpa using List.all_eq_true.1 hall t hm)⟩)
    (by kernel_rfl)
end Go.Proofs.YtcooghpjdjkmhaaDoor.opcodeEncodes
namespace Go.Proofs.YtcooghpjdjkmhaaDoor
theorem opcodeEncodes_holds : Rows.OpcodeEncodesCardSaid := opcodeEncodes.card
end Go.Proofs.YtcooghpjdjkmhaaDoor
