/- What was decoded is encoded as it was, with the prefix or without it, unless it is illegal: for every opcode. -/
import Derived.Test.YtcooghpjdjkmhaaDoorRows
import Derived.WalkKit
import Derived.ProofKit
import Derived.OpenShut
import Derived.ShutString
import Derived.Deep.RegionHeld3
import Derived.Deep.DeepCutAuto
import Derived.LaidMore
import Derived.Stop.Joined
import Derived.SevenTiedAt
import Derived.Test.YtcooghpjdjkmhaaDoorCards
import Derived.Test.YtcooghpjdjkmhaaDoorTie
import Derived.Test.YtcooghpjdjkmhaaDoorLaidOp
import Derived.Test.YtcooghpjdjkmhaaDoorFlat
import Derived.Test.YtcooghpjdjkmhaaDoorShown5
import Derived.Test.YtcooghpjdjkmhaaDoorOp6
import Derived.Test.YtcooghpjdjkmhaaDoorEnc2
namespace Go.Proofs.YtcooghpjdjkmhaaDoor.opcodeBack
open Go.ChangeShapes Go.WideShapes Go.ChangeAt Go.RowKit
open Go.ChangeMaps (open_string shut_string)
set_option linter.unusedVariables false

theorem own : ownKnob Tryd.prog.godebug = none := by kernel_rfl

set_option maxRecDepth 100000 in
set_option maxHeartbeats 8000000 in
theorem walk (a0 : Int) (w0 : (Lit.int .u8 a0).wf = true) (w : World) (lay : Has w 0 #[.int .i64 43, .int .i64 4, .int .i64 44, .int .i64 3, .int .i64 45, .int .i64 4, .int .i64 46, .int .i64 4]) :
    Calls Tryd.prog 7 #[.int .u8 a0] w fun e w' => e = .returned (.bool true) ∧ Grown w w' := by
  obtain ⟨l0, l1⟩ := bounds_u8 w0
  obtain ⟨n, rfl⟩ := Int.eq_ofNat_of_zero_le l0
  have hn : n < 256 := by omega
  obtain ⟨d, hd⟩ : ∃ d, decOf (n : Int) = d := ⟨_, rfl⟩
  obtain ⟨c, hc⟩ : ∃ c, cbOf (n : Int) = c := ⟨_, rfl⟩
  have HD := hid hd
  have HC := hid hc
  have ec := enc_of_cb n hn
  rw [hc] at ec
  have EC := hid ec
  clear ec hc
  cases hi : illOf (n : Int)
  · have ed := enc_of_dec n hn hi
    rw [hd] at ed
    have ED := hid ed
    have IL := hid hi
    clear ed hd hi
    go_enter Tryd.func7, Tryd.ntmps7
    go_wp2_with fail
    refine (shown5_any _ lay).mono ?_
    rintro e u1 ⟨rfl, g1⟩
    have G1 := hid (grown_trans (Grown.refl w) g1)
    go_wp2_with fail
    refine (decode_any (n : Int) _ l0 l1).mono ?_
    rintro e u2 ⟨rfl, g2⟩
    rw [HD.out]
    have G2 := hid (grown_trans G1.out g2)
    go_wp2_with fail
    refine (encode_any d _ (has_grown G2.out lay)).mono ?_
    rintro e u3 ⟨rfl, g3⟩
    first | rw [ED.out.1, ED.out.2.1, ED.out.2.2]
    have G3 := hid (grown_trans G2.out g3)
    go_wp2_with fail
    refine (decodeCB_any (n : Int) _ l0 l1 (has_grown G3.out lay)).mono ?_
    rintro e u4 ⟨rfl, g4⟩
    rw [HC.out]
    have G4 := hid (grown_trans G3.out g4)
    go_wp2_with fail
    refine (encode_any c _ (has_grown G4.out lay)).mono ?_
    rintro e u5 ⟨rfl, g5⟩
    rw [EC.out.1, EC.out.2.1, EC.out.2.2]
    have G5 := hid (grown_trans G4.out g5)
    go_wp2_with fail
    refine (illegal_any (n : Int) _ l0 l1).mono ?_
    rintro e u6 ⟨rfl, g6⟩
    rw [IL.out]
    have G6 := hid (grown_trans G5.out g6)
    go_wp2
    go_ret
    exact ⟨rfl, G6.out⟩
  · have ed : encA d = 0 ∧ encB d = false ∧ encE d = 7 := enc5 d (by rw [← hd]; exact hi)
    have ED := hid ed
    have IL := hid hi
    clear ed hd hi
    go_enter Tryd.func7, Tryd.ntmps7
    go_wp2_with fail
    refine (shown5_any _ lay).mono ?_
    rintro e u1 ⟨rfl, g1⟩
    have G1 := hid (grown_trans (Grown.refl w) g1)
    go_wp2_with fail
    refine (decode_any (n : Int) _ l0 l1).mono ?_
    rintro e u2 ⟨rfl, g2⟩
    rw [HD.out]
    have G2 := hid (grown_trans G1.out g2)
    go_wp2_with fail
    refine (encode_any d _ (has_grown G2.out lay)).mono ?_
    rintro e u3 ⟨rfl, g3⟩
    first | rw [ED.out.1, ED.out.2.1, ED.out.2.2]
    have G3 := hid (grown_trans G2.out g3)
    go_wp2_with fail
    refine (decodeCB_any (n : Int) _ l0 l1 (has_grown G3.out lay)).mono ?_
    rintro e u4 ⟨rfl, g4⟩
    rw [HC.out]
    have G4 := hid (grown_trans G3.out g4)
    go_wp2_with fail
    refine (encode_any c _ (has_grown G4.out lay)).mono ?_
    rintro e u5 ⟨rfl, g5⟩
    rw [EC.out.1, EC.out.2.1, EC.out.2.2]
    have G5 := hid (grown_trans G4.out g5)
    go_wp2_with fail
    refine (illegal_any (n : Int) _ l0 l1).mono ?_
    rintro e u6 ⟨rfl, g6⟩
    rw [IL.out]
    have G6 := hid (grown_trans G5.out g6)
    go_wp2
    go_ret
    exact ⟨rfl, G6.out⟩

set_option maxRecDepth 100000 in
theorem lifted (os : Os) (started : os.Started) (H : Type) (enc : TypeId × Value → H) :
    ReturnsInHanded {} Tryd.checked os 7 .any (fun w args => (Rows.opcodeBackSpec.pre enc Tryd.prog Tryd.f7 [] false w args ∧ laidMetH Tryd.prog Rows.opcodeBackRow.laid w) ∧ sizedMet enc Tryd.prog Tryd.f7 (OpenSpec.ofChange Rows.opcodeBackSpec) false w args) (Rows.opcodeBackSpec.post enc Tryd.prog Tryd.f7 false true false false) := by
  refine returnsInHanded_of_change_and (C := Tryd.checked) (X := fun w _ => laidMetH Tryd.prog Rows.opcodeBackRow.laid w) (fun _ _ _ hh h => h.of_heap hh) own started (by kernel_rfl) Tryd.func7
    (ChangeSpec.witness_shaped (enc := enc) (C := Tryd.checked) (os := os) (X := fun w _ => laidMetH Tryd.prog Rows.opcodeBackRow.laid w) false (World.doorLaid Tryd.prog 400 os) #[.int .u8 0] 8 rfl (World.shaped_of_RefB (by kernel_rfl) (by kernel_rfl)) (by kernel_rfl) (by kernel_rfl) (by kernel_rfl) (door_met os _)) ?_
  intro W base args ds gs before hval0 hW _ _ hL _
  have hval : ∀ (j : Nat) t v, Tryd.f7.params[j]? = some t → args[j]? = some v → Value.okWide Tryd.prog W .any base t v := hval0
  have hW' := hW
  obtain ⟨p, q, hA0, hV, rfl, hfz, hnd⟩ := hW
  have hA : DataW.TrodAll enc Tryd.prog W 0 (fun _ => true) true Tryd.f7.params.toList args.toList ds p := hA0
  rw [Tryd.params7] at hA hval
  obtain ⟨v0, vs0, d0, ds0, p0, q0, hargs, rfl, rfl, h0, r0⟩ := trodAll_cons hA
  obtain ⟨rfl, rfl, rfl⟩ := trodAll_nil r0
  obtain rfl : args = #[v0] := by cases args; simp_all
  obtain ⟨rfl, rfl⟩ := trodVars_none hV
  obtain ⟨a0, rfl, rfl, rfl, w0⟩ := open_int Tryd.underlying5 (hval 0 5 v0 rfl rfl) h0
  clear hA0 hval0
  simp only [List.append_nil] at hW'
  refine (walk a0 w0 W (of_laid hL)).mono fun e W' ⟨he, hg⟩ => ?_
  subst he
  exact ⟨_, rfl, post_of_same (pa := []) (pv := []) hW' (fun _ _ _ => (trodAll_cons_mk (shut_bool Tryd.underlying4 _) trodAll_mk0)) (fun sp _ => (trodAll_cons_mk (shut_int Tryd.underlying5 w0) trodAll_mk0)) (fun _ _ => rfl) rfl
    (hg.frame _) hg.2.1 (ok_one (by kernel_rfl) rfl (okWide_bool_mk Tryd.underlying4 _))⟩

theorem over : Rows.opcodeBackRow.holds Tryd.pinned (OpenSpec.ofChange Rows.opcodeBackSpec) :=
  OpenClaim.holds_of_wide 7 Tryd.f7 rfl rfl rfl rfl rfl rfl rfl ⟨rfl, rfl, rfl, rfl, rfl⟩ rfl rfl rfl rfl rfl (by kernel_rfl) Tryd.func7 (by kernel_rfl)
    (of_decide_eq_true (by kernel_rfl)) (by unfold Func.isWrapper; first | (rw [if_pos (by decide +kernel)]; kernel_rfl) | (rw [if_neg (by decide +kernel)]; exact ⟨rfl, rfl⟩))
    (fun os started H enc _ => lifted os started H enc)

theorem card : Rows.OpcodeBackCardSaid :=
  Claim7.holds_tied_plain_at .later [] Rows.opcodeBackCard.laidKinds true Rows.opcodeBackCard.stood.harness false
    over (fun _ h => by cases h) (by kernel_rfl) (fun _ h => by cases h) opcodeBack_row_tie rfl ⟨rfl, rfl⟩ (by kernel_rfl) rfl
    (fun f fn hf hfn => by
      obtain rfl : f = 7 := Option.some.inj ((show Tryd.prog.funcNamed Rows.opcodeBackRow.func = some 7 by kernel_rfl).symm.trans hf) |>.symm
      obtain rfl : fn = Tryd.f7 := (Option.some.inj (Tryd.func7.symm.trans hfn)).symm
      exact ⟨by kernel_rfl, fun j t ht => by
        rw [Tryd.params7] at ht
        have hm : t ∈ [5] := by simpa using Array.mem_of_getElem? ht
        have hall : ([5].all fun u => !Tryd.prog.wantsStandIn u) = true := by kernel_rfl
        exact (show Tryd.prog.wantsStandIn t = false by simpa using List.all_eq_true.1 hall t hm)⟩)
    (by kernel_rfl)
end Go.Proofs.YtcooghpjdjkmhaaDoor.opcodeBack
namespace Go.Proofs.YtcooghpjdjkmhaaDoor
theorem opcodeBack_holds : Rows.OpcodeBackCardSaid := opcodeBack.card
end Go.Proofs.YtcooghpjdjkmhaaDoor
