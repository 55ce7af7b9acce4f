/- For every slice of lines the bytes that they are assembled to, or that they are refused, are the document's. No condition. -/
import Derived.Test.YtlchkflpaehgcaaGreatDoorRows
import Derived.WalkKit
import Derived.ProofKit
import Derived.OpenShut
import Derived.ShutString
import Derived.ChangeOld
import Derived.Deep.RegionHeld3
import Derived.Deep.DeepCutAuto
import Derived.LaidMore
import Derived.Stop.Joined
import Derived.SevenTiedAt
import Derived.Deep.DeepHandedRow
import Derived.Deep.DeepWitnessRowRef
import Derived.SizedLaws
import Derived.SliceStrings
import Derived.Test.YtlchkflpaehgcaaGreatDoorCards
import Derived.Test.YtlchkflpaehgcaaGreatDoorTie
import Derived.Test.YtlchkflpaehgcaaGreatDoorCc
import Derived.Test.YtlchkflpaehgcaaGreatDoorDc
namespace Go.Proofs.YtlchkflpaehgcaaGreatDoor.listingAlls
open Go.ChangeShapes Go.WideShapes Go.ChangeAt Go.RowKit
open Go.ChangeMaps (open_string shut_string)
set_option linter.unusedVariables false

theorem own : ownKnob Tryz.prog.godebug = none := by kernel_rfl
theorem laidOut : laidOutB Tryz.prog = true := by kernel_rfl

set_option maxRecDepth 100000 in
set_option maxHeartbeats 8000000 in
theorem walk (a0 : Option Addr) (cap0 : Nat) (s0 : List ByteArray) (w : World) (r0 : SRow w a0 s0) (l0 : s0.length ≤ cap0) (m0 : cap0 ≤ maxLen) (b0 : s0.length ≤ 8796093022000) (lay : Lay w) :
    Calls Tryz.prog 5 #[.slice a0 s0.length cap0] w fun e w' => e = .returned (.bool true) ∧ Kept w w' := by
  obtain ⟨E, hE⟩ : ∃ v, allE s0 = v := ⟨_, rfl⟩
  obtain ⟨M, hM⟩ : ∃ v, allB s0 = v := ⟨_, rfl⟩
  have C2 := hid (fun u r h => lall_any s0 a0 cap0 u r b0 h)
  have C3 := hid (fun u r => rall_any s0 a0 cap0 u r b0)
  rw [hE, hM] at C2 C3
  clear hE hM
  go_enter Tryz.func5, Tryz.ntmps5
  go_wp2_with fail
  refine (shown6_any _ lay).mono ?_
  rintro e u1 ⟨rfl, g1⟩
  have K1 := hid ((Kept.refl w).trans g1)
  go_wp2_with fail
  refine (C2.out _ (srow_kept K1.out r0) (lay.kept K1.out)).mono ?_
  rintro e u2 ⟨v2, rfl, o2, g2⟩
  have K2 := hid (K1.out.trans g2)
  go_wp2_with fail
  refine (C3.out _ (srow_kept K2.out r0)).mono ?_
  rintro e u3 ⟨v3, rfl, o3, g3⟩
  have K3 := hid (K2.out.trans g3)
  have cv3 := conv_own o3
  have cv2 := conv_own (owns_kept g3 o2)
  clear o2 o3 g3 g2 g1
  go_wp2
  go_ret
  exact ⟨rfl, K3.out⟩

set_option maxRecDepth 100000 in
theorem contract (H : Type) (enc : TypeId × Value → H) (fi : Stop.Interp) (W : World) (base : Nat) (args : Array Value) (ds gs : List (DataW H)) (before : List MemPlace)
    (hval : ∀ (j : Nat) t v, Tryz.f5.params[j]? = some t → args[j]? = some v → Value.okWide Tryz.prog W .any base t v)
    (hW : DataW.Whole enc Tryz.prog Tryz.f5.params.toList (OpenSpec.ofChange Rows.listingAllsSpec).vars false W args.toList ds gs before)
    (hk0 : ∀ k, (OpenSpec.ofChange Rows.listingAllsSpec).cond = some k → k H (ds ++ gs) = true)
    (hsz0 : (DataW.weightsEach Tryz.prog (Tryz.f5.params.toList ++ (OpenSpec.ofChange Rows.listingAllsSpec).bare.plain.varTypes Tryz.prog) (ds ++ gs)).all (· ≤ reachBytes) = true) (hL : laidMetH Tryz.prog Rows.listingAllsRow.laid W) :
    Calls Tryz.prog 5 args W fun e W' => ∃ v, e = .returned v ∧ ((OpenSpec.ofChange Rows.listingAllsSpec).at fi).post enc Tryz.prog Tryz.f5 false true false false W args v W' := by
  have hW' := hW
  obtain ⟨p, q, hA0, hV, rfl, hfz, hnd⟩ := hW
  have hA : DataW.TrodAll enc Tryz.prog W 0 (fun _ => true) true Tryz.f5.params.toList args.toList ds p := hA0
  rw [Tryz.params5] at hA hval
  obtain ⟨v0, vs0, d0, ds0, p0, q0, hargs, rfl, rfl, h0, r0x⟩ := trodAll_cons hA
  obtain ⟨rfl, rfl, rfl⟩ := trodAll_nil r0x
  obtain rfl : args = #[v0] := by cases args; simp_all
  obtain ⟨rfl, rfl⟩ := trodVars_none hV
  have hsz : (DataW.weightsEach Tryz.prog [25] [d0]).all (· ≤ reachBytes) = true := by
    have q := hsz0
    rw [show Tryz.f5.params.toList ++ (OpenSpec.ofChange Rows.listingAllsSpec).bare.plain.varTypes Tryz.prog = [25] by kernel_rfl] at q
    simpa using q
  obtain ⟨a0, len0, cap0, rfl⟩ := okWide_slice Tryz.underlying25 (hval 0 25 v0 rfl rfl)
  have k0 := h0
  have lt0 : ∀ x ∈ p0, x.block < W.heap.size := by obtain ⟨m, hm⟩ := k0; exact DataW.trod_lt m _ _ _ hm
  obtain ⟨s0, rfl, r0, l0, m0, b0⟩ : ∃ zs : List ByteArray, len0 = zs.length ∧ SRow W a0 zs ∧ zs.length ≤ cap0 ∧ cap0 ≤ maxLen ∧ zs.length ≤ 8796093022000 := by
    obtain ⟨fuel, hf⟩ := h0
    rcases open_strings Tryz.underlying25 Tryz.underlying9 (by kernel_rfl) hf with ⟨hcs, hx⟩ | ⟨x, l, c, zs, hcs, hb, hl, hm, hz, hx, hcell, hwz⟩
    · simp [Value.cells] at hcs
      obtain ⟨rfl, rfl, rfl⟩ := hcs
      exact ⟨[], rfl, srow_nil W none, by simp, by simp, by simp⟩
    · simp [Value.cells] at hcs
      obtain ⟨rfl, rfl, rfl⟩ := hcs
      simp only [if_true] at hz
      obtain ⟨hd, hp⟩ := Prod.mk.inj hx
      have tk : (zs.take len0).length = len0 := by rw [List.length_take, hz]; omega
      have sz := sized_slice (j := 0) (t := 25) (e := 9) hsz rfl (by rw [hd]; rfl) Tryz.underlying25
      rw [show Tryz.prog.bytesOf 9 = 16 by kernel_rfl] at sz
      have rl : reachBytes = 140737488351232 := rfl
      simp only [Go.ChangeShapes.strs, List.length_map, tk] at sz
      refine ⟨zs.take len0, tk.symm, srow_of (by omega) hcell (fun q hq => str_sized hsz (j := 0) (t := 25) (e := 9) rfl (by rw [hd]; rfl) Tryz.underlying25 q hq) , by omega, hm, by omega⟩

  clear hA0
  refine (walk a0 cap0 s0 W r0 l0 m0 b0 (of_laid hL)).mono fun e W' ⟨he, hg⟩ => ?_
  subst he
  exact ⟨_, rfl, _, _, _, [], _, [], hW', trodAll_mk1 (shut_bool Tryz.underlying4 _), (trodAll_cons_mk (Kept.trod laidOut (by kernel_rfl) (of_decide_eq_true (by kernel_rfl)) k0 hg lt0) trodAll_mk0), rfl, hg.frame _, fun h => by cases h⟩
theorem reads (os : Os) {H : Type} (enc : TypeId × Value → H) : ∃ places, DataW.whole enc Tryz.prog ((World.laidAll Tryz.prog os Rows.listingLinesRow.laid).forCall (fun _ _ => 0) ⟨#[], #[.slice none 0 0], []⟩).memory Tryz.f5.params.toList (OpenSpec.ofChange Rows.listingAllsSpec).vars false #[.slice none 0 0].toList 8 = some ([.nil], [], places) :=
  ⟨[], by kernel_rfl⟩
set_option maxRecDepth 100000 in
theorem lifted (os : Os) (started : os.Started) (H : Type) (enc : TypeId × Value → H) (fi : Stop.Interp) :
    ReturnsInHanded {} Tryz.checked os 5 .any ((OpenSpec.ofChange Rows.listingAllsSpec).preRow enc Tryz.prog Tryz.f5 Rows.listingAllsRow.domain false Rows.listingAllsRow.laid) (((OpenSpec.ofChange Rows.listingAllsSpec).at fi).post enc Tryz.prog Tryz.f5 false true false false) := by
  obtain ⟨places, hx⟩ := reads os enc
  refine returnsInHanded_of_row (C := Tryz.checked) (s := (OpenSpec.ofChange Rows.listingAllsSpec)) own started (by kernel_rfl) Tryz.func5
    (witness_row_atRef (enc := enc) (C := Tryz.checked) false (World.laidAll Tryz.prog os Rows.listingLinesRow.laid) #[.slice none 0 0] (World.laidAll_os _ _ _) (by kernel_rfl) (by kernel_rfl) (by kernel_rfl)
      (OpenSpec.preRow_of_cond 8 hx (by kernel_rfl) (fun k hk => by cases hk) (by kernel_rfl) (start_met os _))) ?_
  intro W base args ds gs before hval hW _ hk hsz hL _ _
  exact contract H enc fi W base args ds gs before hval hW hk hsz hL
theorem said : Rows.ListingAllsSaid :=
  OpenClaim.holds_of_cond 5 Tryz.f5 rfl rfl rfl rfl rfl rfl rfl ⟨rfl, rfl, rfl, rfl, rfl⟩ rfl rfl rfl rfl rfl (by kernel_rfl) Tryz.func5 (by kernel_rfl)
    (of_decide_eq_true (by kernel_rfl)) (by unfold Func.isWrapper; first | (rw [if_pos (by decide +kernel)]; kernel_rfl) | (rw [if_neg (by decide +kernel)]; exact ⟨rfl, rfl⟩))
    (fun os started H enc _ fi => by rw [OpenClaim.pre_eq_preRow]; exact lifted os started H enc fi)
theorem plain (f : FuncId) (fn : Func) (hf : Tryz.pinned.checked.prog.funcNamed Rows.listingAllsRow.func = some f) (hfn : Tryz.pinned.checked.prog.funcs[f]? = some fn) :
    false = Tryz.pinned.checked.prog.looks [] ∧ ∀ (j : Nat) t, fn.params[j]? = some t → Tryz.pinned.checked.prog.wantsStandIn t = false := by
  obtain rfl : f = 5 := Option.some.inj ((show Tryz.prog.funcNamed Rows.listingAllsRow.func = some 5 by kernel_rfl).symm.trans hf) |>.symm
  obtain rfl : fn = Tryz.f5 := (Option.some.inj (Tryz.func5.symm.trans hfn)).symm
  refine ⟨by kernel_rfl, fun j t ht => ?_⟩
  rw [Tryz.params5] at ht
  have hm : t ∈ [25] := by simpa using Array.mem_of_getElem? ht
  have hall : ([25].all fun u => !Tryz.prog.wantsStandIn u) = true := by kernel_rfl
  exact (show Tryz.prog.wantsStandIn t = false by simpa using List.all_eq_true.1 hall t hm)
theorem card : Rows.ListingAllsCardSaid :=
  Claim7.holds_tied_plain_at .later [] _ _ _ _ said (fun _ h => by cases h) (by kernel_rfl) (fun _ h => by cases h) listingAlls_row_tie rfl ⟨rfl, rfl⟩ (by kernel_rfl) rfl plain (by kernel_rfl)
end Go.Proofs.YtlchkflpaehgcaaGreatDoor.listingAlls
namespace Go.Proofs.YtlchkflpaehgcaaGreatDoor
theorem listingAlls_holds : Rows.ListingAllsCardSaid := listingAlls.card
end Go.Proofs.YtlchkflpaehgcaaGreatDoor
