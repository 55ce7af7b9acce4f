/- From whichever opcode on one goes through all of them, eleven are illegal. -/
import Derived.Test.YtcooghpjdjkmhabDoorRows
import Derived.WalkKit
import Derived.ProofKit
import Derived.OpenShut
import Derived.ShutString
import Derived.Deep.RegionHeld3
import Derived.Deep.DeepCutAuto
import Derived.LaidMore
import Derived.Stop.Joined
import Derived.SevenTiedAt
import Derived.Test.YtcooghpjdjkmhabDoorCards
import Derived.Test.YtcooghpjdjkmhabDoorTie
import Derived.Test.YtcooghpjdjkmhabDoorLaidOp
import Derived.Test.YtcooghpjdjkmhabDoorFlat
import Derived.Test.YtcooghpjdjkmhabDoorShown5
import Derived.Test.YtcooghpjdjkmhabDoorEnc2
namespace Go.Proofs.YtcooghpjdjkmhabDoor.opcodeCounts
open Go.ChangeShapes Go.WideShapes Go.ChangeAt Go.RowKit
open Go.ChangeMaps (open_string shut_string)
set_option linter.unusedVariables false

theorem own : ownKnob Tryd.prog.godebug = none := by kernel_rfl

set_option maxRecDepth 100000 in
set_option maxHeartbeats 8000000 in
theorem walk (a0 : Int) (w0 : (Lit.int .u8 a0).wf = true) (w : World) (lay : Has w 0 #[.int .i64 43, .int .i64 4, .int .i64 44, .int .i64 3, .int .i64 45, .int .i64 4, .int .i64 46, .int .i64 4]) :
    Calls Tryd.prog 4 #[.int .u8 a0] w fun e w' => e = .returned (.bool true) ∧ Grown w w' := by
  obtain ⟨l0, l1⟩ := bounds_u8 w0
  obtain ⟨n, rfl⟩ := Int.eq_ofNat_of_zero_le l0
  have n2 : n < 256 := by omega
  have F := hid (cnt_fin ⟨n, n2⟩)
  go_enter Tryd.func4, Tryd.ntmps4
  go_wp2_with fail
  refine (shown5_any _ lay).mono ?_
  rintro e u1 ⟨rfl, g1⟩
  have G1 := hid (grown_trans (Grown.refl w) g1)
  go_wp2
  go_loopw [4, 5] (fun c i wr => ∃ k : Nat, k ≤ 256 ∧ c = .int .i64 (cnt n k : Int) ∧ i = .int .i64 (k : Int) ∧ Grown w wr) (fun _ i _ => 256 - (intOf i).toNat)
  case atStart => exact ⟨0, Nat.zero_le _, rfl, rfl, G1.out⟩
  case round =>
    obtain ⟨k, hk, rfl, rfl, G⟩ := hrel
    have GG := hid G
    clear G
    by_cases hlt : k < 256
    · have km : (k : Int) % 256 = k := by omega
      have kw : IntKind.u8.wrap (k : Int) = k := by rw [IntKind.wrap_u8]; omega
      have ia := ill_at n k
      have cl := cnt_le n k
      by_cases hi : illN (n + k) = 1
      · have IA := hid (show illOf (((n : Int) + (k : Int)) % 256) = true by rw [ia]; simp [hi])
        have CN := hid (cnt_yes n k hi)
        clear ia hi
        generalize cnt n k = C at *
        go_wp2_with fail
        refine (illegal_any _ _ (by omega) (by omega)).mono ?_
        rintro e u2 ⟨rfl, g2⟩
        rw [IA.out]
        go_wp2
        go_roundw
        case rel => exact ⟨k + 1, by omega, by rw [CN.out]; go_num, by go_num, grown_trans GG.out g2⟩
        case measure => first | omega | (simp; omega) | (simp [intOf]; omega)
      · have IA := hid (show illOf (((n : Int) + (k : Int)) % 256) = false by rw [ia]; simp [hi])
        have CN := hid (cnt_no n k hi)
        clear ia hi
        generalize cnt n k = C at *
        go_wp2_with fail
        refine (illegal_any _ _ (by omega) (by omega)).mono ?_
        rintro e u2 ⟨rfl, g2⟩
        rw [IA.out]
        go_wp2
        go_roundw
        case rel => exact ⟨k + 1, by omega, by rw [CN.out], by go_num, grown_trans GG.out g2⟩
        case measure => first | omega | (simp; omega) | (simp [intOf]; omega)
    · obtain rfl : k = 256 := by omega
      rw [F.out]
      go_wp2
      go_ret
      exact ⟨rfl, GG.out⟩

set_option maxRecDepth 100000 in
theorem lifted (os : Os) (started : os.Started) (H : Type) (enc : TypeId × Value → H) :
    ReturnsInHanded {} Tryd.checked os 4 .any (fun w args => (Rows.opcodeCountsSpec.pre enc Tryd.prog Tryd.f4 [] false w args ∧ laidMetH Tryd.prog Rows.opcodeCountsRow.laid w) ∧ sizedMet enc Tryd.prog Tryd.f4 (OpenSpec.ofChange Rows.opcodeCountsSpec) false w args) (Rows.opcodeCountsSpec.post enc Tryd.prog Tryd.f4 false true false false) := by
  refine returnsInHanded_of_change_and (C := Tryd.checked) (X := fun w _ => laidMetH Tryd.prog Rows.opcodeCountsRow.laid w) (fun _ _ _ hh h => h.of_heap hh) own started (by kernel_rfl) Tryd.func4
    (ChangeSpec.witness_shaped (enc := enc) (C := Tryd.checked) (os := os) (X := fun w _ => laidMetH Tryd.prog Rows.opcodeCountsRow.laid w) false (World.doorLaid Tryd.prog 400 os) #[.int .u8 0] 8 rfl (World.shaped_of_RefB (by kernel_rfl) (by kernel_rfl)) (by kernel_rfl) (by kernel_rfl) (by kernel_rfl) (door_met os _)) ?_
  intro W base args ds gs before hval0 hW _ _ hL _
  have hval : ∀ (j : Nat) t v, Tryd.f4.params[j]? = some t → args[j]? = some v → Value.okWide Tryd.prog W .any base t v := hval0
  have hW' := hW
  obtain ⟨p, q, hA0, hV, rfl, hfz, hnd⟩ := hW
  have hA : DataW.TrodAll enc Tryd.prog W 0 (fun _ => true) true Tryd.f4.params.toList args.toList ds p := hA0
  rw [Tryd.params4] at hA hval
  obtain ⟨v0, vs0, d0, ds0, p0, q0, hargs, rfl, rfl, h0, r0⟩ := trodAll_cons hA
  obtain ⟨rfl, rfl, rfl⟩ := trodAll_nil r0
  obtain rfl : args = #[v0] := by cases args; simp_all
  obtain ⟨rfl, rfl⟩ := trodVars_none hV
  obtain ⟨a0, rfl, rfl, rfl, w0⟩ := open_int Tryd.underlying5 (hval 0 5 v0 rfl rfl) h0
  clear hA0 hval0
  simp only [List.append_nil] at hW'
  refine (walk a0 w0 W (of_laid hL)).mono fun e W' ⟨he, hg⟩ => ?_
  subst he
  exact ⟨_, rfl, post_of_same (pa := []) (pv := []) hW' (fun _ _ _ => (trodAll_cons_mk (shut_bool Tryd.underlying4 _) trodAll_mk0)) (fun sp _ => (trodAll_cons_mk (shut_int Tryd.underlying5 w0) trodAll_mk0)) (fun _ _ => rfl) rfl
    (hg.frame _) hg.2.1 (ok_one (by kernel_rfl) rfl (okWide_bool_mk Tryd.underlying4 _))⟩

theorem over : Rows.opcodeCountsRow.holds Tryd.pinned (OpenSpec.ofChange Rows.opcodeCountsSpec) :=
  OpenClaim.holds_of_wide 4 Tryd.f4 rfl rfl rfl rfl rfl rfl rfl ⟨rfl, rfl, rfl, rfl, rfl⟩ rfl rfl rfl rfl rfl (by kernel_rfl) Tryd.func4 (by kernel_rfl)
    (of_decide_eq_true (by kernel_rfl)) (by unfold Func.isWrapper; first | (rw [if_pos (by decide +kernel)]; kernel_rfl) | (rw [if_neg (by decide +kernel)]; exact ⟨rfl, rfl⟩))
    (fun os started H enc _ => lifted os started H enc)

theorem card : Rows.OpcodeCountsCardSaid :=
  Claim7.holds_tied_plain_at .later [] Rows.opcodeCountsCard.laidKinds true Rows.opcodeCountsCard.stood.harness false
    over (fun _ h => by cases h) (by kernel_rfl) (fun _ h => by cases h) opcodeCounts_row_tie rfl ⟨rfl, rfl⟩ (by kernel_rfl) rfl
    (fun f fn hf hfn => by
      obtain rfl : f = 4 := Option.some.inj ((show Tryd.prog.funcNamed Rows.opcodeCountsRow.func = some 4 by kernel_rfl).symm.trans hf) |>.symm
      obtain rfl : fn = Tryd.f4 := (Option.some.inj (Tryd.func4.symm.trans hfn)).symm
      exact ⟨by kernel_rfl, fun j t ht => by
        rw [Tryd.params4] at ht
        have hm : t ∈ [5] := by simpa using Array.mem_of_getElem? ht
        have hall : ([5].all fun u => !Tryd.prog.wantsStandIn u) = true := by kernel_rfl
        exact (show Tryd.prog.wantsStandIn t = false by simpa using List.all_eq_true.1 hall t hm)⟩)
    (by kernel_rfl)
end Go.Proofs.YtcooghpjdjkmhabDoor.opcodeCounts
namespace Go.Proofs.YtcooghpjdjkmhabDoor
theorem opcodeCounts_holds : Rows.OpcodeCountsCardSaid := opcodeCounts.card
end Go.Proofs.YtcooghpjdjkmhabDoor
