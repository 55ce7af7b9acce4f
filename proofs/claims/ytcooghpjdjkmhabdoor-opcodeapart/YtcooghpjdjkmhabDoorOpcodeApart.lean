/- Two unlike opcodes have unlike forms, unless both are illegal; with the prefix and without it no form is the same: for every two opcodes. -/
import Derived.Test.YtcooghpjdjkmhabDoorRows
import Derived.WalkKit
import Derived.ProofKit
import Derived.OpenShut
import Derived.ShutString
import Derived.Deep.RegionHeld3
import Derived.Deep.DeepCutAuto
import Derived.LaidMore
import Derived.Stop.Joined
import Derived.SevenTiedAt
import Derived.Test.YtcooghpjdjkmhabDoorCards
import Derived.Test.YtcooghpjdjkmhabDoorTie
import Derived.Test.YtcooghpjdjkmhabDoorLaidOp
import Derived.Test.YtcooghpjdjkmhabDoorFlat
import Derived.Test.YtcooghpjdjkmhabDoorShown5
import Derived.Test.YtcooghpjdjkmhabDoorEqF
import Derived.Test.YtcooghpjdjkmhabDoorEnc2
namespace Go.Proofs.YtcooghpjdjkmhabDoor.opcodeApart
open Go.ChangeShapes Go.WideShapes Go.ChangeAt Go.RowKit
open Go.ChangeMaps (open_string shut_string)
set_option linter.unusedVariables false

theorem own : ownKnob Tryd.prog.godebug = none := by kernel_rfl

set_option maxRecDepth 100000 in
set_option maxHeartbeats 8000000 in
theorem walk (a0 : Int) (a1 : Int) (w0 : (Lit.int .u8 a0).wf = true) (w1 : (Lit.int .u8 a1).wf = true) (w : World) (lay : Has w 0 #[.int .i64 43, .int .i64 4, .int .i64 44, .int .i64 3, .int .i64 45, .int .i64 4, .int .i64 46, .int .i64 4]) :
    Calls Tryd.prog 3 #[.int .u8 a0, .int .u8 a1] w fun e w' => e = .returned (.bool true) ∧ Grown w w' := by
  obtain ⟨l0, l1⟩ := bounds_u8 w0
  obtain ⟨m0, m1⟩ := bounds_u8 w1
  obtain ⟨n, hn⟩ := Int.eq_ofNat_of_zero_le l0
  obtain ⟨m, hm⟩ := Int.eq_ofNat_of_zero_le m0
  have n2 : n < 256 := by omega
  have m2 : m < 256 := by omega
  have cc := cb_cb n m n2 m2
  have dc := dec_cb n m n2 m2
  have ii := ill_same n m n2 m2
  have ni : illOf (m : Int) = false → _ := dec_dec n m n2 m2
  have nj : illOf (n : Int) = false → (decOf (n : Int)).same (decOf (m : Int)) = decide (n = m) := fun h => by
    have q := dec_dec m n m2 n2 h
    by_cases e : n = m
    · rw [← e]; simp [same_refl]
    · have e2 : ¬ m = n := fun x => e x.symm
      cases s : (decOf (n : Int)).same (decOf (m : Int))
      · simp [e]
      · rw [(same_iff _ _).1 s, same_refl] at q
        simp [e2] at q
  have ab : (a0 == a1) = decide (n = m) := by
    rw [hn, hm]
    by_cases e : n = m
    · simp [e]
    · have e3 : ¬ (n : Int) = (m : Int) := by omega
      simp [e, e3]
  have sa : (decOf a0).same (decOf a0) = true := same_refl _
  rw [← hn, ← hm] at cc dc ii
  rw [← hm] at ni
  rw [← hn] at nj ni
  rw [← hm] at nj
  have same_ab : n = m → a0 = a1 := fun e => by rw [hn, hm, e]
  obtain ⟨da, hda⟩ : ∃ d, decOf a0 = d := ⟨_, rfl⟩
  obtain ⟨db, hdb⟩ : ∃ d, decOf a1 = d := ⟨_, rfl⟩
  obtain ⟨ca, hca⟩ : ∃ d, cbOf a0 = d := ⟨_, rfl⟩
  obtain ⟨cb, hcb⟩ : ∃ d, cbOf a1 = d := ⟨_, rfl⟩
  have DA := hid hda
  have DB := hid hdb
  have CA := hid hca
  have CB := hid hcb
  have x1 := eq_forms da db
  have x2 := eq_forms ca cb
  have x3 := eq_forms da cb
  rw [hda, hdb] at ii ni nj
  rw [hca, hcb] at cc
  rw [hda, hcb] at dc
  rw [cc] at x2
  rw [dc] at x3
  clear cc dc sa
  by_cases e : n = m
  · have ea := same_ab e
    have s1 : da.same db = true := by rw [← hda, ← hdb, ea]; exact same_refl _
    rw [s1] at x1
    simp only [e, decide_true] at x2 ab
    have ib2 : illOf a1 = illOf a0 := by rw [ea]
    clear ii ni nj hda hdb hca hcb hn hm n2 m2 same_ab ea s1
    cases ia : illOf a0
    · have IA := hid ia
      clear ia ib2 e
      go_enter Tryd.func3, Tryd.ntmps3
      go_wp2_with fail
      refine (shown5_any _ lay).mono ?_
      rintro e u1 ⟨rfl, g1⟩
      have G1 := hid (grown_trans (Grown.refl w) g1)
      go_wp2_with fail
      refine (decode_any a0 _ l0 l1).mono ?_
      rintro e u2 ⟨rfl, g2⟩
      rw [DA.out]
      have G2 := hid (grown_trans G1.out g2)
      go_wp2_with fail
      refine (decode_any a1 _ m0 m1).mono ?_
      rintro e u3 ⟨rfl, g3⟩
      rw [DB.out]
      have G3 := hid (grown_trans G2.out g3)
      go_wp2_with fail
      refine (illegal_any a0 _ l0 l1).mono ?_
      rintro e u4 ⟨rfl, g4⟩
      rw [IA.out]
      have G4 := hid (grown_trans G3.out g4)
      go_wp2_with fail
      refine (decodeCB_any a0 _ l0 l1 (has_grown G4.out lay)).mono ?_
      rintro e u5 ⟨rfl, g5⟩
      rw [CA.out]
      have G5 := hid (grown_trans G4.out g5)
      go_wp2_with fail
      refine (decodeCB_any a1 _ m0 m1 (has_grown G5.out lay)).mono ?_
      rintro e u6 ⟨rfl, g6⟩
      rw [CB.out]
      have G6 := hid (grown_trans G5.out g6)
      go_wp2_with fail
      refine (decode_any a0 _ l0 l1).mono ?_
      rintro e u7 ⟨rfl, g7⟩
      rw [DA.out]
      have G7 := hid (grown_trans G6.out g7)
      go_wp2_with fail
      refine (decodeCB_any a1 _ m0 m1 (has_grown G7.out lay)).mono ?_
      rintro e u8 ⟨rfl, g8⟩
      rw [CB.out]
      have G8 := hid (grown_trans G7.out g8)
      go_wp2
      go_ret
      exact ⟨rfl, G8.out⟩
    · have IA := hid ia
      have IB := hid (ib2.trans ia)
      clear ia ib2 e
      go_enter Tryd.func3, Tryd.ntmps3
      go_wp2_with fail
      refine (shown5_any _ lay).mono ?_
      rintro e u1 ⟨rfl, g1⟩
      have G1 := hid (grown_trans (Grown.refl w) g1)
      go_wp2_with fail
      refine (decode_any a0 _ l0 l1).mono ?_
      rintro e u2 ⟨rfl, g2⟩
      rw [DA.out]
      have G2 := hid (grown_trans G1.out g2)
      go_wp2_with fail
      refine (decode_any a1 _ m0 m1).mono ?_
      rintro e u3 ⟨rfl, g3⟩
      rw [DB.out]
      have G3 := hid (grown_trans G2.out g3)
      go_wp2_with fail
      refine (illegal_any a0 _ l0 l1).mono ?_
      rintro e u4 ⟨rfl, g4⟩
      rw [IA.out]
      have G4 := hid (grown_trans G3.out g4)
      go_wp2_with fail
      refine (illegal_any a1 _ m0 m1).mono ?_
      rintro e u5 ⟨rfl, g5⟩
      rw [IB.out]
      have G5 := hid (grown_trans G4.out g5)
      go_wp2_with fail
      refine (decodeCB_any a0 _ l0 l1 (has_grown G5.out lay)).mono ?_
      rintro e u6 ⟨rfl, g6⟩
      rw [CA.out]
      have G6 := hid (grown_trans G5.out g6)
      go_wp2_with fail
      refine (decodeCB_any a1 _ m0 m1 (has_grown G6.out lay)).mono ?_
      rintro e u7 ⟨rfl, g7⟩
      rw [CB.out]
      have G7 := hid (grown_trans G6.out g7)
      go_wp2_with fail
      refine (decode_any a0 _ l0 l1).mono ?_
      rintro e u8 ⟨rfl, g8⟩
      rw [DA.out]
      have G8 := hid (grown_trans G7.out g8)
      go_wp2_with fail
      refine (decodeCB_any a1 _ m0 m1 (has_grown G8.out lay)).mono ?_
      rintro e u9 ⟨rfl, g9⟩
      rw [CB.out]
      have G9 := hid (grown_trans G8.out g9)
      go_wp2
      go_ret
      exact ⟨rfl, G9.out⟩
  · have nd : decide (n = m) = false := by simp [e]
    rw [nd] at x2 ab ni nj
    clear hda hdb hca hcb hn hm n2 m2 same_ab
    cases ia : illOf a0
    · rw [nj ia] at x1
      have IA := hid ia
      clear ia ii ni nj e nd
      go_enter Tryd.func3, Tryd.ntmps3
      go_wp2_with fail
      refine (shown5_any _ lay).mono ?_
      rintro e u1 ⟨rfl, g1⟩
      have G1 := hid (grown_trans (Grown.refl w) g1)
      go_wp2_with fail
      refine (decode_any a0 _ l0 l1).mono ?_
      rintro e u2 ⟨rfl, g2⟩
      rw [DA.out]
      have G2 := hid (grown_trans G1.out g2)
      go_wp2_with fail
      refine (decode_any a1 _ m0 m1).mono ?_
      rintro e u3 ⟨rfl, g3⟩
      rw [DB.out]
      have G3 := hid (grown_trans G2.out g3)
      go_wp2_with fail
      refine (illegal_any a0 _ l0 l1).mono ?_
      rintro e u4 ⟨rfl, g4⟩
      rw [IA.out]
      have G4 := hid (grown_trans G3.out g4)
      go_wp2_with fail
      refine (decodeCB_any a0 _ l0 l1 (has_grown G4.out lay)).mono ?_
      rintro e u5 ⟨rfl, g5⟩
      rw [CA.out]
      have G5 := hid (grown_trans G4.out g5)
      go_wp2_with fail
      refine (decodeCB_any a1 _ m0 m1 (has_grown G5.out lay)).mono ?_
      rintro e u6 ⟨rfl, g6⟩
      rw [CB.out]
      have G6 := hid (grown_trans G5.out g6)
      go_wp2_with fail
      refine (decode_any a0 _ l0 l1).mono ?_
      rintro e u7 ⟨rfl, g7⟩
      rw [DA.out]
      have G7 := hid (grown_trans G6.out g7)
      go_wp2_with fail
      refine (decodeCB_any a1 _ m0 m1 (has_grown G7.out lay)).mono ?_
      rintro e u8 ⟨rfl, g8⟩
      rw [CB.out]
      have G8 := hid (grown_trans G7.out g8)
      go_wp2
      go_ret
      exact ⟨rfl, G8.out⟩
    · cases ib : illOf a1
      · rw [ni ib] at x1
        have IA := hid ia
        have IB := hid ib
        clear ia ib ii ni nj e nd
        go_enter Tryd.func3, Tryd.ntmps3
        go_wp2_with fail
        refine (shown5_any _ lay).mono ?_
        rintro e u1 ⟨rfl, g1⟩
        have G1 := hid (grown_trans (Grown.refl w) g1)
        go_wp2_with fail
        refine (decode_any a0 _ l0 l1).mono ?_
        rintro e u2 ⟨rfl, g2⟩
        rw [DA.out]
        have G2 := hid (grown_trans G1.out g2)
        go_wp2_with fail
        refine (decode_any a1 _ m0 m1).mono ?_
        rintro e u3 ⟨rfl, g3⟩
        rw [DB.out]
        have G3 := hid (grown_trans G2.out g3)
        go_wp2_with fail
        refine (illegal_any a0 _ l0 l1).mono ?_
        rintro e u4 ⟨rfl, g4⟩
        rw [IA.out]
        have G4 := hid (grown_trans G3.out g4)
        go_wp2_with fail
        refine (illegal_any a1 _ m0 m1).mono ?_
        rintro e u5 ⟨rfl, g5⟩
        rw [IB.out]
        have G5 := hid (grown_trans G4.out g5)
        go_wp2_with fail
        refine (decodeCB_any a0 _ l0 l1 (has_grown G5.out lay)).mono ?_
        rintro e u6 ⟨rfl, g6⟩
        rw [CA.out]
        have G6 := hid (grown_trans G5.out g6)
        go_wp2_with fail
        refine (decodeCB_any a1 _ m0 m1 (has_grown G6.out lay)).mono ?_
        rintro e u7 ⟨rfl, g7⟩
        rw [CB.out]
        have G7 := hid (grown_trans G6.out g7)
        go_wp2_with fail
        refine (decode_any a0 _ l0 l1).mono ?_
        rintro e u8 ⟨rfl, g8⟩
        rw [DA.out]
        have G8 := hid (grown_trans G7.out g8)
        go_wp2_with fail
        refine (decodeCB_any a1 _ m0 m1 (has_grown G8.out lay)).mono ?_
        rintro e u9 ⟨rfl, g9⟩
        rw [CB.out]
        have G9 := hid (grown_trans G8.out g9)
        go_wp2
        go_ret
        exact ⟨rfl, G9.out⟩
      · rw [ii ia ib] at x1
        have IA := hid ia
        have IB := hid ib
        clear ia ib ii ni nj e nd
        go_enter Tryd.func3, Tryd.ntmps3
        go_wp2_with fail
        refine (shown5_any _ lay).mono ?_
        rintro e u1 ⟨rfl, g1⟩
        have G1 := hid (grown_trans (Grown.refl w) g1)
        go_wp2_with fail
        refine (decode_any a0 _ l0 l1).mono ?_
        rintro e u2 ⟨rfl, g2⟩
        rw [DA.out]
        have G2 := hid (grown_trans G1.out g2)
        go_wp2_with fail
        refine (decode_any a1 _ m0 m1).mono ?_
        rintro e u3 ⟨rfl, g3⟩
        rw [DB.out]
        have G3 := hid (grown_trans G2.out g3)
        go_wp2_with fail
        refine (illegal_any a0 _ l0 l1).mono ?_
        rintro e u4 ⟨rfl, g4⟩
        rw [IA.out]
        have G4 := hid (grown_trans G3.out g4)
        go_wp2_with fail
        refine (illegal_any a1 _ m0 m1).mono ?_
        rintro e u5 ⟨rfl, g5⟩
        rw [IB.out]
        have G5 := hid (grown_trans G4.out g5)
        go_wp2_with fail
        refine (decodeCB_any a0 _ l0 l1 (has_grown G5.out lay)).mono ?_
        rintro e u6 ⟨rfl, g6⟩
        rw [CA.out]
        have G6 := hid (grown_trans G5.out g6)
        go_wp2_with fail
        refine (decodeCB_any a1 _ m0 m1 (has_grown G6.out lay)).mono ?_
        rintro e u7 ⟨rfl, g7⟩
        rw [CB.out]
        have G7 := hid (grown_trans G6.out g7)
        go_wp2_with fail
        refine (decode_any a0 _ l0 l1).mono ?_
        rintro e u8 ⟨rfl, g8⟩
        rw [DA.out]
        have G8 := hid (grown_trans G7.out g8)
        go_wp2_with fail
        refine (decodeCB_any a1 _ m0 m1 (has_grown G8.out lay)).mono ?_
        rintro e u9 ⟨rfl, g9⟩
        rw [CB.out]
        have G9 := hid (grown_trans G8.out g9)
        go_wp2
        go_ret
        exact ⟨rfl, G9.out⟩

set_option maxRecDepth 100000 in
theorem lifted (os : Os) (started : os.Started) (H : Type) (enc : TypeId × Value → H) :
    ReturnsInHanded {} Tryd.checked os 3 .any (fun w args => (Rows.opcodeApartSpec.pre enc Tryd.prog Tryd.f3 [] false w args ∧ laidMetH Tryd.prog Rows.opcodeApartRow.laid w) ∧ sizedMet enc Tryd.prog Tryd.f3 (OpenSpec.ofChange Rows.opcodeApartSpec) false w args) (Rows.opcodeApartSpec.post enc Tryd.prog Tryd.f3 false true false false) := by
  refine returnsInHanded_of_change_and (C := Tryd.checked) (X := fun w _ => laidMetH Tryd.prog Rows.opcodeApartRow.laid w) (fun _ _ _ hh h => h.of_heap hh) own started (by kernel_rfl) Tryd.func3
    (ChangeSpec.witness_shaped (enc := enc) (C := Tryd.checked) (os := os) (X := fun w _ => laidMetH Tryd.prog Rows.opcodeApartRow.laid w) false (World.doorLaid Tryd.prog 400 os) #[.int .u8 0, .int .u8 0] 8 rfl (World.shaped_of_RefB (by kernel_rfl) (by kernel_rfl)) (by kernel_rfl) (by kernel_rfl) (by kernel_rfl) (door_met os _)) ?_
  intro W base args ds gs before hval0 hW _ _ hL _
  have hval : ∀ (j : Nat) t v, Tryd.f3.params[j]? = some t → args[j]? = some v → Value.okWide Tryd.prog W .any base t v := hval0
  have hW' := hW
  obtain ⟨p, q, hA0, hV, rfl, hfz, hnd⟩ := hW
  have hA : DataW.TrodAll enc Tryd.prog W 0 (fun _ => true) true Tryd.f3.params.toList args.toList ds p := hA0
  rw [Tryd.params3] at hA hval
  obtain ⟨v0, vs0, d0, ds0, p0, q0, hargs, rfl, rfl, h0, r0⟩ := trodAll_cons hA
  obtain ⟨v1, vs1, d1, ds1, p1, q1, rfl, rfl, rfl, h1, r1⟩ := trodAll_cons r0
  obtain ⟨rfl, rfl, rfl⟩ := trodAll_nil r1
  obtain rfl : args = #[v0, v1] := by cases args; simp_all
  obtain ⟨rfl, rfl⟩ := trodVars_none hV
  obtain ⟨a0, rfl, rfl, rfl, w0⟩ := open_int Tryd.underlying5 (hval 0 5 v0 rfl rfl) h0
  obtain ⟨a1, rfl, rfl, rfl, w1⟩ := open_int Tryd.underlying5 (hval 1 5 v1 rfl rfl) h1
  clear hA0 hval0
  simp only [List.append_nil] at hW'
  refine (walk a0 a1 w0 w1 W (of_laid hL)).mono fun e W' ⟨he, hg⟩ => ?_
  subst he
  exact ⟨_, rfl, post_of_same (pa := []) (pv := []) hW' (fun _ _ _ => (trodAll_cons_mk (shut_bool Tryd.underlying4 _) trodAll_mk0)) (fun sp _ => (trodAll_cons_mk (shut_int Tryd.underlying5 w0) (trodAll_cons_mk (shut_int Tryd.underlying5 w1) trodAll_mk0))) (fun _ _ => rfl) rfl
    (hg.frame _) hg.2.1 (ok_one (by kernel_rfl) rfl (okWide_bool_mk Tryd.underlying4 _))⟩

theorem over : Rows.opcodeApartRow.holds Tryd.pinned (OpenSpec.ofChange Rows.opcodeApartSpec) :=
  OpenClaim.holds_of_wide 3 Tryd.f3 rfl rfl rfl rfl rfl rfl rfl ⟨rfl, rfl, rfl, rfl, rfl⟩ rfl rfl rfl rfl rfl (by kernel_rfl) Tryd.func3 (by kernel_rfl)
    (of_decide_eq_true (by kernel_rfl)) (by unfold Func.isWrapper; first | (rw [if_pos (by decide +kernel)]; kernel_rfl) | (rw [if_neg (by decide +kernel)]; exact ⟨rfl, rfl⟩))
    (fun os started H enc _ => lifted os started H enc)

theorem card : Rows.OpcodeApartCardSaid :=
  Claim7.holds_tied_plain_at .later [] Rows.opcodeApartCard.laidKinds true Rows.opcodeApartCard.stood.harness false
    over (fun _ h => by cases h) (by kernel_rfl) (fun _ h => by cases h) opcodeApart_row_tie rfl ⟨rfl, rfl⟩ (by kernel_rfl) rfl
    (fun f fn hf hfn => by
      obtain rfl : f = 3 := Option.some.inj ((show Tryd.prog.funcNamed Rows.opcodeApartRow.func = some 3 by kernel_rfl).symm.trans hf) |>.symm
      obtain rfl : fn = Tryd.f3 := (Option.some.inj (Tryd.func3.symm.trans hfn)).symm
      exact ⟨by kernel_rfl, fun j t ht => by
        rw [Tryd.params3] at ht
        have hm : t ∈ [5, 5] := by simpa using Array.mem_of_getElem? ht
        have hall : ([5, 5].all fun u => !Tryd.prog.wantsStandIn u) = true := by kernel_rfl
        exact (show Tryd.prog.wantsStandIn t = false by simpa using List.all_eq_true.1 hall t hm)⟩)
    (by kernel_rfl)
end Go.Proofs.YtcooghpjdjkmhabDoor.opcodeApart
namespace Go.Proofs.YtcooghpjdjkmhabDoor
theorem opcodeApart_holds : Rows.OpcodeApartCardSaid := opcodeApart.card
end Go.Proofs.YtcooghpjdjkmhabDoor
