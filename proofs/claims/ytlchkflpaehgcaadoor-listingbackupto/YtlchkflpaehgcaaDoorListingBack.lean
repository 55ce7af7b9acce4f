/- For every slice of bytes of at most 1048576 values, its lines are assembled to it again, all at once and one by one. -/
import Derived.Test.YtlchkflpaehgcaaDoorRows
import Derived.WalkKit
import Derived.ProofKit
import Derived.OpenShut
import Derived.ShutString
import Derived.ChangeOld
import Derived.Deep.RegionHeld3
import Derived.Deep.DeepCutAuto
import Derived.LaidMore
import Derived.Stop.Joined
import Derived.SevenTiedAt
import Derived.Deep.DeepHandedRow
import Derived.Deep.DeepWitnessRowRef
import Derived.SizedLaws
import Derived.SliceStrings
import Derived.Test.YtlchkflpaehgcaaDoorCards
import Derived.Test.YtlchkflpaehgcaaDoorTie
import Derived.Test.YtlchkflpaehgcaaDoorCc
import Derived.Test.YtlchkflpaehgcaaDoorDc
import Derived.Test.YtlchkflpaehgcaaDoorDd
namespace Go.Proofs.YtlchkflpaehgcaaDoor.listingBack
open Go.ChangeShapes Go.WideShapes Go.ChangeAt Go.RowKit
open Go.ChangeMaps (open_string shut_string)
set_option linter.unusedVariables false

theorem own : ownKnob Tryd.prog.godebug = none := by kernel_rfl
theorem laidOut : laidOutB Tryd.prog = true := by kernel_rfl

set_option maxRecDepth 100000 in
set_option maxHeartbeats 8000000 in
theorem walk (a0 : Option Addr) (cap0 : Nat) (z0 : List Int) (w : World) (r0 : Row w a0 z0) (l0 : z0.length ≤ cap0) (m0 : cap0 ≤ maxLen) (b0 : z0.length ≤ 140737488355328) (u0 : z0.length ≤ 1048576) (lay : Lay w) :
    Calls Tryd.prog 5 #[.slice a0 z0.length cap0] w fun e w' => e = .returned (.bool true) ∧ Kept w w' := by
  have C2 := hid (fun u r h => llines_any z0 a0 cap0 u r l0 m0 (by omega) h)
  have LB := hid (lines_len z0 r0.2.1)
  obtain ⟨bk, ok⟩ := lines_back z0.length z0 (Nat.le_refl _) r0.2.1
  have LS := hid (lines_size z0.length z0 (Nat.le_refl _) r0.2.1)
  obtain ⟨L, hL⟩ : ∃ v, linesOf z0 = v := ⟨_, rfl⟩
  rw [hL] at C2 LB bk ok LS
  clear hL
  have BK := hid bk
  have OK := hid ok
  have AA := hid (show allB L = z0 ∧ allE L = 0 by
    have k : allOk L = true := by unfold allOk; rw [List.all_eq_true]; intro s hs; simp [ok s hs]
    simp [allB, allE, k, bk])
  have R0 := hid r0
  obtain ⟨NZ, hNZ⟩ : ∃ n, z0.length = n := ⟨_, rfl⟩
  have HNZ := hid hNZ
  have nz : NZ ≤ 1048576 := by omega
  rw [hNZ] at C2 l0 u0
  rw [hNZ]
  clear bk ok hNZ b0 r0
  go_enter Tryd.func5, Tryd.ntmps5
  go_wp2_with fail
  refine (shown6_any _ lay).mono ?_
  rintro e u1 ⟨rfl, g1⟩
  have K1 := hid g1
  clear g1
  go_wp2_with fail
  refine (C2.out _ (row_kept K1.out R0.out) (lay.kept K1.out)).mono ?_
  rintro e u2 ⟨v2, rfl, o2, g2⟩
  have K2 := hid (K1.out.trans g2)
  obtain ⟨aL, cL, rfl, sL⟩ := srow_own o2 LS.out
  have SL := hid sL
  obtain ⟨NL, hNL⟩ : ∃ n, L.length = n := ⟨_, rfl⟩
  have HNL := hid hNL
  have nl : NL ≤ 1048576 := by have := LB.out; have := HNZ.out; omega
  have C3 := hid (fun u r h => lall_any L aL cL u r (by omega) h)
  rw [hNL, AA.out.2, AA.out.1] at C3
  rw [hNL]
  clear o2 g2 sL C2 hNL
  go_wp2_with fail
  refine (C3.out _ SL.out (lay.kept K2.out)).mono ?_
  rintro e u3 ⟨v3, rfl, o3, g3⟩
  have K3 := hid (K2.out.trans g3)
  have SL3 := hid (srow_kept g3 SL.out)
  have O3 := hid o3
  clear o3 g3 C3 SL
  go_wp2
  go_loopw [7, 8] (fun n i wr => ∃ k : Nat, k ≤ NL ∧ n = .int .i64 ((outTo L k).length : Int) ∧ i = .int .i64 (k : Int) ∧ Kept u3 wr) (fun _ i _ => NL - (intOf i).toNat)
  case atStart => exact ⟨0, Nat.zero_le _, rfl, rfl, Kept.refl _⟩
  case round =>
    obtain ⟨k, hk, rfl, rfl, hkp⟩ := hrel
    have HK := hid hkp
    clear hkp
    by_cases hlt : k < NL
    · have hl2 : (k : Int) < (NL : Int) := by omega
      have hl3 : k < L.length := by rw [HNL.out]; exact hlt
      obtain ⟨hsz, hx0⟩ := srow_kept HK.out SL3.out
      obtain ⟨x, rfl, hxb, hc⟩ : ∃ x : Addr, aL = some x ∧ x.block < wr.heap.size ∧ ∀ i, i < L.length → wr.cell? (x.add i) = some (.string (L.getD i ByteArray.empty)) := by
        rcases hx0 with h | h
        · rw [h] at hl3; simp at hl3
        · exact h
      have ck := hc k hl3
      have OA := hid (out_at L z0 k hl3 BK.out)
      have OS := hid (out_step L k hl3)
      have E0 := hid (OK.out (L.getD k ByteArray.empty) (by rw [getD_get L k hl3]; exact List.getElem_mem hl3))
      have AL := asm_len (L.getD k ByteArray.empty)
      have sk := hsz (L.getD k ByteArray.empty) (by rw [getD_get L k hl3]; exact List.getElem_mem hl3)
      have CC := hid (lassemble_any (L.getD k ByteArray.empty) wr sk (lay.kept (K3.out.trans HK.out)))
      obtain ⟨M, hM⟩ : ∃ v, asmB (L.getD k ByteArray.empty) = v := ⟨_, rfl⟩
      rw [hM] at CC OA OS AL
      rw [E0.out] at CC AL
      obtain ⟨m1, m3⟩ : 1 ≤ M.length ∧ M.length ≤ 3 := by
        rcases AL with ⟨_, h⟩ | h
        · exact h
        · cases h
      generalize L.getD k ByteArray.empty = S at *
      obtain ⟨ON, hON⟩ : ∃ n, (outTo L k).length = n := ⟨_, rfl⟩
      rw [hON] at OA
      have OL := hid (show (outTo L (k + 1)).length = ON + M.length by rw [OS.out, List.length_append, hON])
      obtain ⟨on1, on2⟩ : ON + M.length ≤ NZ ∧ ON ≤ z0.length := by
        have q := congrArg List.length OA.out
        rw [List.length_append, List.length_drop, HNZ.out] at q
        have := HNZ.out
        omega
      have x0s : ∃ y, a0 = some y := by
        rcases R0.out.2.2 with h | ⟨y, h, _⟩
        · have := HNZ.out; rw [h] at this; simp at this; omega
        · exact ⟨y, h⟩
      obtain ⟨y, rfl⟩ := x0s
      rw [hON]
      clear hsz hx0 hc hl3 sk AL hM hON OS
      go_wp2_with fail
      refine CC.out.mono ?_
      rintro e u5 ⟨v5, rfl, o5, g5⟩
      have K5 := hid (K3.out.trans (HK.out.trans g5))
      have HK5 := hid (HK.out.trans g5)
      obtain ⟨g, c5, rfl⟩ := byts_form o5 m1
      have cv5 : ∀ n, (convert 27 9 (.slice (some ⟨g, 0, none⟩) M.length c5)).run Tryd.prog (u5.drewN n) = .ok (.string (strOf M)) (u5.drewN n) := fun n => conv_byts (w := u5.drewN n) o5
      have cvz : ∀ n cap, (convert 27 9 (.slice (some (y.add ON)) M.length cap)).run Tryd.prog (u5.drewN n) = .ok (.string (strOf M)) (u5.drewN n) := fun n cap => conv_part (row_kept (K5.out.drewN (n := n)) R0.out) on2 OA.out m1
      obtain ⟨T, hT⟩ : ∃ T, strOf M = T := ⟨_, rfl⟩
      simp only [hT] at cvz cv5
      have tt : (T.toList == T.toList) = true := by simp
      obtain ⟨ML, hML⟩ : ∃ n, M.length = n := ⟨_, rfl⟩
      rw [hML] at m1 m3 OL on1
      simp only [hML] at cvz cv5
      rw [hML]
      have i1 : ¬ ((ML : Int) < 1) := by omega
      have i3 : ¬ ((3 : Int) < (ML : Int)) := by omega
      have i4 : (ON : Int) + (ML : Int) ≤ (NZ : Int) := by omega
      have i5 : (ON : Int) + (ML : Int) ≤ (cap0 : Int) := by omega
      have i6 : ¬ ((NZ : Int) < (ON : Int) + (ML : Int)) := by omega
      have i7 : ON + ML - ON = ML := by omega
      have i8 : (ON : Int) ≤ (ON : Int) + (ML : Int) := by omega
      have i9 : ON ≤ 1048576 := by omega
      have i10 : (cap0 : Int) ≤ 9223372036854775807 := by unfold maxLen at m0; omega
      have j1 : decide ((ML : Int) < 1) = false := decide_eq_false i1
      have j3 : decide ((3 : Int) < (ML : Int)) = false := decide_eq_false i3
      have j6 : decide ((NZ : Int) < (ON : Int) + (ML : Int)) = false := decide_eq_false i6
      have i11 : IntKind.i64.wrap ((ON : Int) + (ML : Int)) = (ON : Int) + (ML : Int) := by rw [IntKind.wrap_i64]; omega
      have OLL := hid OL.out
      clear hT hML o5 g5 CC OA E0 OL
      go_wp2
      go_quiet (fail)
      go_wp2
      go_roundw
      case rel => exact ⟨k + 1, by omega, by rw [OLL.out]; go_num, by go_num, by first | exact HK5.out.drewN | exact HK5.out.drew⟩
      case measure => first | omega | (simp; omega) | (simp [intOf]; omega)
    · obtain rfl : k = NL := by omega
      have hl2 : ¬ ((k : Int) < (k : Int)) := by omega
      have cva := conv_own (owns_kept HK.out O3.out)
      have on : (outTo L k).length = NZ := by
        have q := out_all L k
        rw [BK.out, ← HNL.out, List.drop_length] at q
        simp only [List.flatMap_nil, List.append_nil] at q
        rw [← HNL.out, q, HNZ.out]
      rw [on]
      have K9 := hid (K3.out.trans HK.out)
      have cvz : (convert 27 9 (.slice a0 NZ cap0)).run Tryd.prog wr = .ok (.string (strOf z0)) wr := by
        have q := conv_any (cap := cap0) (row_kept K9.out R0.out)
        rw [HNZ.out] at q
        exact q
      obtain ⟨T, hT⟩ : ∃ T, strOf z0 = T := ⟨_, rfl⟩
      rw [hT] at cva cvz
      clear hT on
      go_wp2
      go_ret
      exact ⟨rfl, K9.out⟩

set_option maxRecDepth 100000 in
theorem contract (H : Type) (enc : TypeId × Value → H) (fi : Stop.Interp) (W : World) (base : Nat) (args : Array Value) (ds gs : List (DataW H)) (before : List MemPlace)
    (hval : ∀ (j : Nat) t v, Tryd.f5.params[j]? = some t → args[j]? = some v → Value.okWide Tryd.prog W .any base t v)
    (hW : DataW.Whole enc Tryd.prog Tryd.f5.params.toList (Rows.OpenSpec.upto Rows.listingBackSpec).vars false W args.toList ds gs before)
    (hk0 : ∀ k, (Rows.OpenSpec.upto Rows.listingBackSpec).cond = some k → k H (ds ++ gs) = true)
    (hsz0 : (DataW.weightsEach Tryd.prog (Tryd.f5.params.toList ++ (Rows.OpenSpec.upto Rows.listingBackSpec).bare.plain.varTypes Tryd.prog) (ds ++ gs)).all (· ≤ reachBytes) = true) (hL : laidMetH Tryd.prog Rows.listingBackUptoRow.laid W) :
    Calls Tryd.prog 5 args W fun e W' => ∃ v, e = .returned v ∧ ((Rows.OpenSpec.upto Rows.listingBackSpec).at fi).post enc Tryd.prog Tryd.f5 false true false false W args v W' := by
  have hW' := hW
  obtain ⟨p, q, hA0, hV, rfl, hfz, hnd⟩ := hW
  have hA : DataW.TrodAll enc Tryd.prog W 0 (fun _ => true) true Tryd.f5.params.toList args.toList ds p := hA0
  rw [Tryd.params5] at hA hval
  obtain ⟨v0, vs0, d0, ds0, p0, q0, hargs, rfl, rfl, h0, r0x⟩ := trodAll_cons hA
  obtain ⟨rfl, rfl, rfl⟩ := trodAll_nil r0x
  obtain rfl : args = #[v0] := by cases args; simp_all
  obtain ⟨rfl, rfl⟩ := trodVars_none hV
  have hsz : (DataW.weightsEach Tryd.prog [27] [d0]).all (· ≤ reachBytes) = true := by
    have q := hsz0
    rw [show Tryd.f5.params.toList ++ (Rows.OpenSpec.upto Rows.listingBackSpec).bare.plain.varTypes Tryd.prog = [27] by kernel_rfl] at q
    simpa using q
  have hk : Rows.uptoSmall H [d0] = true := by have q := hk0 _ rfl; simpa using q
  obtain ⟨a0, len0, cap0, rfl⟩ := okWide_slice Tryd.underlying27 (hval 0 27 v0 rfl rfl)
  have k0 := h0
  have lt0 : ∀ x ∈ p0, x.block < W.heap.size := by obtain ⟨m, hm⟩ := k0; exact DataW.trod_lt m _ _ _ hm
  obtain ⟨z0, rfl, r0, l0, m0, b0, u0⟩ : ∃ zs : List Int, len0 = zs.length ∧ Row W a0 zs ∧ zs.length ≤ cap0 ∧ cap0 ≤ maxLen ∧ zs.length ≤ 140737488355328 ∧ zs.length ≤ 1048576 := by
    obtain ⟨fuel, hf⟩ := h0
    rcases open_ints Tryd.underlying27 Tryd.underlying5 (by kernel_rfl) hf with ⟨hcs, hx⟩ | ⟨x, l, c, zs, hcs, hb, hl, hm, hz, hx, hcell, hwz⟩
    · simp [Value.cells] at hcs
      obtain ⟨rfl, rfl, rfl⟩ := hcs
      exact ⟨[], rfl, row_nil W none, by simp, by simp, by simp, by simp⟩
    · simp [Value.cells] at hcs
      obtain ⟨rfl, rfl, rfl⟩ := hcs
      simp only [if_true] at hz
      obtain ⟨hd, hp⟩ := Prod.mk.inj hx
      have tk : (zs.take len0).length = len0 := by rw [List.length_take, hz]; omega
      have sz := sized_slice (j := 0) (t := 27) (e := 5) hsz rfl (by rw [hd]; rfl) Tryd.underlying27
      rw [show Tryd.prog.bytesOf 5 = 1 by kernel_rfl] at sz
      have rl : reachBytes = 140737488351232 := rfl
      simp only [lits, List.length_map, tk] at sz
      refine ⟨zs.take len0, tk.symm, row_of (by omega) hcell (fun z hz => bounds_u8 (hwz z hz)) (by omega), by omega, hm, by omega, ?_⟩
      have q := bulk_slice hk (elems := _) (spare := _) (show DataW.slice _ _ ∈ _ from by rw [← hd]; simp)
      simp only [lits, List.length_map, tk] at q
      omega

  clear hA0
  refine (walk a0 cap0 z0 W r0 l0 m0 b0 u0 (of_laid hL)).mono fun e W' ⟨he, hg⟩ => ?_
  subst he
  exact ⟨_, rfl, _, _, _, [], _, [], hW', trodAll_mk1 (shut_bool Tryd.underlying4 _), (trodAll_cons_mk (Kept.trod laidOut (by kernel_rfl) (of_decide_eq_true (by kernel_rfl)) k0 hg lt0) trodAll_mk0), rfl, hg.frame _, fun h => by cases h⟩
theorem reads (os : Os) {H : Type} (enc : TypeId × Value → H) : ∃ places, DataW.whole enc Tryd.prog ((World.laidAll Tryd.prog os Rows.listingTextsRow.laid).forCall (fun _ _ => 0) ⟨#[], #[.slice none 0 0], []⟩).memory Tryd.f5.params.toList (Rows.OpenSpec.upto Rows.listingBackSpec).vars false #[.slice none 0 0].toList 8 = some ([.nil], [], places) :=
  ⟨[], by kernel_rfl⟩
set_option maxRecDepth 100000 in
theorem lifted (os : Os) (started : os.Started) (H : Type) (enc : TypeId × Value → H) (fi : Stop.Interp) :
    ReturnsInHanded {} Tryd.checked os 5 .any ((Rows.OpenSpec.upto Rows.listingBackSpec).preRow enc Tryd.prog Tryd.f5 Rows.listingBackUptoRow.domain false Rows.listingBackUptoRow.laid) (((Rows.OpenSpec.upto Rows.listingBackSpec).at fi).post enc Tryd.prog Tryd.f5 false true false false) := by
  obtain ⟨places, hx⟩ := reads os enc
  refine returnsInHanded_of_row (C := Tryd.checked) (s := (Rows.OpenSpec.upto Rows.listingBackSpec)) own started (by kernel_rfl) Tryd.func5
    (witness_row_atRef (enc := enc) (C := Tryd.checked) false (World.laidAll Tryd.prog os Rows.listingTextsRow.laid) #[.slice none 0 0] (World.laidAll_os _ _ _) (by kernel_rfl) (by kernel_rfl) (by kernel_rfl)
      (OpenSpec.preRow_of_cond 8 hx (by kernel_rfl) (fun k hk => by cases hk; kernel_rfl) (by kernel_rfl) (start_met os _))) ?_
  intro W base args ds gs before hval hW _ hk hsz hL _ _
  exact contract H enc fi W base args ds gs before hval hW hk hsz hL
theorem said : Rows.ListingBackUptoSaid :=
  OpenClaim.holds_of_cond 5 Tryd.f5 rfl rfl rfl rfl rfl rfl rfl ⟨rfl, rfl, rfl, rfl, rfl⟩ rfl rfl rfl rfl rfl (by kernel_rfl) Tryd.func5 (by kernel_rfl)
    (of_decide_eq_true (by kernel_rfl)) (by unfold Func.isWrapper; first | (rw [if_pos (by decide +kernel)]; kernel_rfl) | (rw [if_neg (by decide +kernel)]; exact ⟨rfl, rfl⟩))
    (fun os started H enc _ fi => by rw [OpenClaim.pre_eq_preRow]; exact lifted os started H enc fi)
theorem plain (f : FuncId) (fn : Func) (hf : Tryd.pinned.checked.prog.funcNamed Rows.listingBackUptoRow.func = some f) (hfn : Tryd.pinned.checked.prog.funcs[f]? = some fn) :
    false = Tryd.pinned.checked.prog.looks [] ∧ ∀ (j : Nat) t, fn.params[j]? = some t → Tryd.pinned.checked.prog.wantsStandIn t = false := by
  obtain rfl : f = 5 := Option.some.inj ((show Tryd.prog.funcNamed Rows.listingBackUptoRow.func = some 5 by kernel_rfl).symm.trans hf) |>.symm
  obtain rfl : fn = Tryd.f5 := (Option.some.inj (Tryd.func5.symm.trans hfn)).symm
  refine ⟨by kernel_rfl, fun j t ht => ?_⟩
  rw [Tryd.params5] at ht
  have hm : t ∈ [27] := by simpa using Array.mem_of_getElem? ht
  have hall : ([27].all fun u => !Tryd.prog.wantsStandIn u) = true := by kernel_rfl
  exact (show Tryd.prog.wantsStandIn t = false by simpa using List.all_eq_true.1 hall t hm)
theorem card : Rows.ListingBackUptoCardSaid :=
  Claim7.holds_tied_plain_at .later [] _ _ _ _ said (fun _ h => by cases h) (by kernel_rfl) (fun _ h => by cases h) listingBackUpto_row_tie rfl ⟨rfl, rfl⟩ (by kernel_rfl) rfl plain (by kernel_rfl)
end Go.Proofs.YtlchkflpaehgcaaDoor.listingBack
namespace Go.Proofs.YtlchkflpaehgcaaDoor
theorem listingBackUpto_holds : Rows.ListingBackUptoCardSaid := listingBack.card
end Go.Proofs.YtlchkflpaehgcaaDoor
