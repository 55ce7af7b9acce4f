/- HeaderTurned: whatever is wished, an image that is made and of which one byte from 308 to 333 is turned is refused by Parse; the law returns true and its arguments stay as they were. Condition: the tables header.kinds and header.ramSizes begin as the program's text lays them (tied card). -/
import Derived.Test.YtfmehkaojfjdjaaDoorRows
import Derived.WalkKit
import Derived.ProofKit
import Derived.OpenShut
import Derived.ShutString
import Derived.ChangeOld
import Derived.Deep.RegionHeld3
import Derived.Deep.DeepCutAuto
import Derived.LaidMore
import Derived.Lay
import Derived.Stop.Joined
import Derived.SevenTiedAt
import Derived.Deep.DeepHandedRow
import Derived.Deep.DeepWitnessRowRef
import Derived.SizedLaws
import Derived.SliceStrings
import Derived.Test.YtfmehkaojfjdjaaDoorCards
import Derived.Test.YtfmehkaojfjdjaaDoorTie
import Derived.Test.YtfmehkaojfjdjaaDoorPg7d
import Derived.Test.YtfmehkaojfjdjaaDoorWish7
import Derived.Test.YtfmehkaojfjdjaaDoorShown7
import Derived.Test.YtfmehkaojfjdjaaDoorH9
namespace Go.Proofs.YtfmehkaojfjdjaaDoor.headerTurned
open Go.ChangeShapes Go.WideShapes Go.ChangeAt Go.RowKit
open Go.ChangeMaps (open_string shut_string)
set_option linter.unusedVariables false

theorem own : ownKnob Tryd.prog.godebug = none := by kernel_rfl
theorem laidOut : laidOutB Tryd.prog = true := by kernel_rfl

set_option maxRecDepth 100000 in
set_option maxHeartbeats 8000000 in
theorem walk (t0 : ByteArray) (x0k x0r x0m : Int) (a0 : Option Addr) (cap0 : Nat) (z0 : List Int) (a1 : Int) (a2 : Int) (w : World) (s0 : t0.size ≤ maxLen) (w0k : (Lit.int .u8 x0k).wf = true) (w0r : (Lit.int .u8 x0r).wf = true) (w0m : (Lit.int .u8 x0m).wf = true) (r0 : Row w a0 z0) (l0 : z0.length ≤ cap0) (m0 : cap0 ≤ maxLen) (n0 : a0 = none → cap0 = 0) (b0 : z0.length ≤ 140737488355328) (w1 : (Lit.int .u8 a1).wf = true) (w2 : (Lit.int .u8 a2).wf = true) (lay : Lay7 w) :
    Calls Tryd.prog 7 #[.agg #[.string t0, .int .u8 x0k, .int .u8 x0r, .int .u8 x0m, .slice a0 z0.length cap0], .int .u8 a1, .int .u8 a2] w fun e w' => e = .returned (.bool true) ∧ Kept w w' := by
  have S := hid (fun u (g : Kept w u) => shown7 u (lay.kept g))
  obtain ⟨k0, k1⟩ := bounds_u8 w0k
  obtain ⟨q0, q1⟩ := bounds_u8 w0r
  obtain ⟨p0, p1⟩ := bounds_u8 w0m
  obtain ⟨at0, at1⟩ := bounds_u8 w1
  obtain ⟨by0, by1⟩ := bounds_u8 w2
  have A := hid (fun u (g : Kept w u) => hmake_any t0 x0k x0r x0m z0 a0 cap0 u (lay.kept g) (row_kept g r0) b0 k0 k1 q0 q1 p0 p1 s0)
  have OK := hid (fun h => (make_ok (byL t0) x0k x0r x0m z0 h).1)
  have MH := hid (fun h => (made_head t0 x0k x0r x0m z0 h).1)
  have MI := hid (made_in t0 x0k x0r x0m z0 ⟨k0, k1⟩ ⟨q0, q1⟩ ⟨p0, p1⟩ r0.2.1)
  have MN := hid (madeL_len (byL t0) x0k x0r x0m z0)
  have ZL := r0.1
  obtain ⟨E, hE⟩ : ∃ v, makeE (byL t0) x0k x0r x0m z0 = v := ⟨_, rfl⟩
  rw [hE] at A OK MH
  generalize makeB (byL t0) x0k x0r x0m z0 = L at *
  generalize madeL (byL t0) x0k x0r x0m z0 = M at *
  clear hE
  go_enter Tryd.func7, Tryd.ntmps7
  go_wp2_with fail
  refine (S.out _ ((Kept.refl w).alloc _)).mono ?_
  rintro e u1 ⟨rfl, k1⟩
  have K0 := hid (((Kept.refl w).alloc _).trans k1)
  have HB := fun i => (k1.cell (x := ⟨w.heap.size, i, none⟩) (by simp)).trans ((has_alloc w #[.string t0, .int .u8 x0k, .int .u8 x0r, .int .u8 x0m, .slice a0 z0.length cap0] 39).2 i)
  have e0 := HB 0
  have e1 := HB 1
  have e2 := HB 2
  have e3 := HB 3
  have e4 := HB 4
  simp at e0 e1 e2 e3 e4
  have z1 := k1.size
  simp at z1
  have zB : w.heap.size < u1.heap.size := by omega
  clear k1 HB
  go_wp2_with fail
  refine (A.out _ K0.out).mono ?_
  rintro e u2 ⟨v1, rfl, o1, k2⟩
  have K2 := hid (K0.out.trans k2)
  have gb0 := K0.out.size
  have O1 := hid o1
  clear e0 e1 e2 e3 e4 o1 k2
  by_cases hE : E = 0
  · obtain rfl := OK.out hE
    have PE := hid (MH.out hE)
    subst hE
    by_cases hby : a2 = 0
    · subst hby
      go_wp2
      go_ret
      exact ⟨rfl, K2.out⟩
    · have hb2 : (a2 == 0) = false := by simpa using hby
      have hl : 336 ≤ L.length := by rw [MN.out]; omega
      obtain ⟨g, cp, rfl, O, c1, c2⟩ := own_cases O1.out (by omega)
      obtain ⟨j, hj⟩ : ∃ j : Nat, Int.tmod a1 26 = (j : Int) := ⟨(a1 % 26).toNat, by rw [Int.tmod_eq_emod_of_nonneg at0]; omega⟩
      have hj2 : j < 26 := by rw [Int.tmod_eq_emod_of_nonneg at0] at hj; omega
      obtain ⟨LN, hLN⟩ : ∃ n : Nat, L.length = n := ⟨_, rfl⟩
      have HLN := hid hLN
      have OW := hid O
      have cj := ownB_cell O (308 + j) (by omega)
      have fg := fun o => ownB_froz O o
      have zg := (ownB_lt O).2
      have aj := ownB_add g (308 + j)
      obtain ⟨y, hy⟩ : ∃ y, L.getD (308 + j) 0 = y := ⟨_, rfl⟩
      have HY := hid hy
      rw [hy] at cj
      rw [hLN] at hl c1 ⊢
      have hl1 : ¬ ((LN : Int) < 336) := by omega
      have hl2 : 308 + (j : Int) < (LN : Int) := by omega
      have tn : (308 + (j : Int)).toNat = 308 + j := by omega
      have hj3 : (j : Int) < 26 := by omega
      clear hy hLN O
      have yi := getD_in MI.out (308 + j)
      rw [HY.out] at yi
      have NP := hid (turned_no L (L.set (308 + j) (bits .xor .u8 y a2)) j hj2 (fun i _ hn => (getD_set_ne L (308 + j) (308 + i) _ (by omega)).symm) (by rw [HY.out]; exact yi) (by rw [getD_set_eq _ _ _ (by rw [HLN.out]; omega)]; exact xor_in _ _) (by rw [getD_set_eq _ _ _ (by rw [HLN.out]; omega), HY.out]; exact fun e => xor_other y a2 yi.1 yi.2 by0 by1 hby e.symm) PE.out)
      have PH := hid (parse_no _ NP.out)
      have O3 := hid (ownB_set OW.out (308 + j) (bits .xor .u8 y a2))
      have gb := (ownB_lt OW.out).1
      have K3 := hid (K2.out.setCell (g := g) (by omega) (308 + j) (.int .u8 (bits .xor .u8 y a2)))
      have CP := hid (hparse_any _ (some ⟨g, 0, none⟩) cp _ (lay.kept K3.out) (ownB_row O3.out (set_in MI.out _ _ (xor_in _ _)) (by rw [List.length_set, HLN.out]; omega)) (by rw [List.length_set, HLN.out]; exact c1) c2)
      rw [List.length_set, HLN.out, PH.out] at CP
      simp only [hd0] at CP
      obtain ⟨E2, hE2⟩ : ∃ v, parseE (L.set (308 + j) (bits .xor .u8 y a2)) = v := ⟨_, rfl⟩
      rw [hE2] at CP NP
      have nb : (E2 != 0) = true := by simpa using NP.out
      clear hE2
      go_wp2_with fail
      refine CP.out.mono ?_
      rintro e u3 ⟨rfl, k3⟩
      have K4 := hid (K3.out.trans k3)
      clear k3
      go_wp2
      go_ret
      exact ⟨rfl, K4.out.alloc _⟩
  · have hE2 : (E != 0) = true := by simpa using hE
    go_wp2
    go_ret
    exact ⟨rfl, K2.out⟩

set_option maxRecDepth 100000 in
theorem contract (H : Type) (enc : TypeId × Value → H) (fi : Stop.Interp) (W : World) (base : Nat) (args : Array Value) (ds gs : List (DataW H)) (before : List MemPlace)
    (hval : ∀ (j : Nat) t v, Tryd.f7.params[j]? = some t → args[j]? = some v → Value.okWide Tryd.prog W .any base t v)
    (hW : DataW.Whole enc Tryd.prog Tryd.f7.params.toList (OpenSpec.ofChange Rows.headerTurnedSpec).vars false W args.toList ds gs before)
    (hk0 : ∀ k, (OpenSpec.ofChange Rows.headerTurnedSpec).cond = some k → k H (ds ++ gs) = true)
    (hsz0 : (DataW.weightsEach Tryd.prog (Tryd.f7.params.toList ++ (OpenSpec.ofChange Rows.headerTurnedSpec).bare.plain.varTypes Tryd.prog) (ds ++ gs)).all (· ≤ reachBytes) = true) (hL : laidMetH Tryd.prog Rows.headerTurnedRow.laid W) :
    Calls Tryd.prog 7 args W fun e W' => ∃ v, e = .returned v ∧ ((OpenSpec.ofChange Rows.headerTurnedSpec).at fi).post enc Tryd.prog Tryd.f7 false true false false W args v W' := by
  have hW' := hW
  obtain ⟨p, q, hA0, hV, rfl, hfz, hnd⟩ := hW
  have hA : DataW.TrodAll enc Tryd.prog W 0 (fun _ => true) true Tryd.f7.params.toList args.toList ds p := hA0
  rw [Tryd.params7] at hA hval
  obtain ⟨v0, vs0, d0, ds0, p0, q0, hargs, rfl, rfl, h0, r0x⟩ := trodAll_cons hA
  obtain ⟨v1, vs1, d1, ds1, p1, q1, rfl, rfl, rfl, h1, r1x⟩ := trodAll_cons r0x
  obtain ⟨v2, vs2, d2, ds2, p2, q2, rfl, rfl, rfl, h2, r2x⟩ := trodAll_cons r1x
  obtain ⟨rfl, rfl, rfl⟩ := trodAll_nil r2x
  obtain rfl : args = #[v0, v1, v2] := by cases args; simp_all
  obtain ⟨rfl, rfl⟩ := trodVars_none hV
  have hsz : (DataW.weightsEach Tryd.prog [39, 5, 5] [d0, d1, d2]).all (· ≤ reachBytes) = true := by
    have q := hsz0
    rw [show Tryd.f7.params.toList ++ (OpenSpec.ofChange Rows.headerTurnedSpec).bare.plain.varTypes Tryd.prog = [39, 5, 5] by kernel_rfl] at q
    simpa using q
  have k0 := h0
  have lt0 : ∀ x ∈ p0, x.block < W.heap.size := by obtain ⟨m, hm⟩ := k0; exact DataW.trod_lt m _ _ _ hm
  obtain ⟨t0, x0k, x0r, x0m, a0, cap0, z0, rfl, s0, w0k, w0r, w0m, r0, l0, m0, n0, b0x⟩ := open_wish (hval 0 39 v0 rfl rfl) h0
  have b0 := b0x (sized_part hsz (j := 0) (t := 39) rfl rfl)
  obtain ⟨a1, rfl, rfl, rfl, w1⟩ := open_int Tryd.underlying5 (hval 1 5 v1 rfl rfl) h1
  obtain ⟨a2, rfl, rfl, rfl, w2⟩ := open_int Tryd.underlying5 (hval 2 5 v2 rfl rfl) h2
  clear hA0
  refine (walk t0 x0k x0r x0m a0 cap0 z0 a1 a2 W s0 w0k w0r w0m r0 l0 m0 n0 b0 w1 w2 (of_laid hL)).mono fun e W' ⟨he, hg⟩ => ?_
  subst he
  exact ⟨_, rfl, _, _, _, [], _, [], hW', trodAll_mk1 (shut_bool Tryd.underlying4 _), (trodAll_cons_mk (Kept.trod laidOut (by kernel_rfl) (of_decide_eq_true (by kernel_rfl)) k0 hg lt0) (trodAll_cons_mk (shut_int Tryd.underlying5 w1) (trodAll_cons_mk (shut_int Tryd.underlying5 w2) trodAll_mk0))), rfl, hg.frame _, fun h => by cases h⟩
theorem reads (os : Os) {H : Type} (enc : TypeId × Value → H) : ∃ places, DataW.whole enc Tryd.prog ((World.laidAll Tryd.prog os Rows.headerParsesRow.laid).forCall (fun _ _ => 0) ⟨#[], #[.agg #[.string ByteArray.empty, .int .u8 0, .int .u8 0, .int .u8 0, .slice none 0 0], .int .u8 0, .int .u8 0], []⟩).memory Tryd.f7.params.toList (OpenSpec.ofChange Rows.headerTurnedSpec).vars false #[.agg #[.string ByteArray.empty, .int .u8 0, .int .u8 0, .int .u8 0, .slice none 0 0], .int .u8 0, .int .u8 0].toList 8 = some ([.agg [.lit (.string []), .lit (.int .u8 0), .lit (.int .u8 0), .lit (.int .u8 0), .nil], .lit (.int .u8 0), .lit (.int .u8 0)], [], places) :=
  ⟨[], by kernel_rfl⟩
set_option maxRecDepth 100000 in
theorem lifted (os : Os) (started : os.Started) (H : Type) (enc : TypeId × Value → H) (fi : Stop.Interp) :
    ReturnsInHanded {} Tryd.checked os 7 .any ((OpenSpec.ofChange Rows.headerTurnedSpec).preRow enc Tryd.prog Tryd.f7 Rows.headerTurnedRow.domain false Rows.headerTurnedRow.laid) (((OpenSpec.ofChange Rows.headerTurnedSpec).at fi).post enc Tryd.prog Tryd.f7 false true false false) := by
  obtain ⟨places, hx⟩ := reads os enc
  refine returnsInHanded_of_row (C := Tryd.checked) (s := (OpenSpec.ofChange Rows.headerTurnedSpec)) own started (by kernel_rfl) Tryd.func7
    (witness_row_atRef (enc := enc) (C := Tryd.checked) false (World.laidAll Tryd.prog os Rows.headerParsesRow.laid) #[.agg #[.string ByteArray.empty, .int .u8 0, .int .u8 0, .int .u8 0, .slice none 0 0], .int .u8 0, .int .u8 0] (World.laidAll_os _ _ _) (by kernel_rfl) (by kernel_rfl) (by kernel_rfl)
      (OpenSpec.preRow_of_cond 8 hx (by kernel_rfl) (fun k hk => by cases hk) (by kernel_rfl) (start_met os _))) ?_
  intro W base args ds gs before hval hW _ hk hsz hL _ _
  exact contract H enc fi W base args ds gs before hval hW hk hsz hL
theorem said : Rows.HeaderTurnedSaid :=
  OpenClaim.holds_of_cond 7 Tryd.f7 rfl rfl rfl rfl rfl rfl rfl ⟨rfl, rfl, rfl, rfl, rfl⟩ rfl rfl rfl rfl rfl (by kernel_rfl) Tryd.func7 (by kernel_rfl)
    (of_decide_eq_true (by kernel_rfl)) (by unfold Func.isWrapper; first | (rw [if_pos (by decide +kernel)]; kernel_rfl) | (rw [if_neg (by decide +kernel)]; exact ⟨rfl, rfl⟩))
    (fun os started H enc _ fi => by rw [OpenClaim.pre_eq_preRow]; exact lifted os started H enc fi)
theorem plain (f : FuncId) (fn : Func) (hf : Tryd.pinned.checked.prog.funcNamed Rows.headerTurnedRow.func = some f) (hfn : Tryd.pinned.checked.prog.funcs[f]? = some fn) :
    true = Tryd.pinned.checked.prog.looks [] ∧ ∀ (j : Nat) t, fn.params[j]? = some t → Tryd.pinned.checked.prog.wantsStandIn t = false := by
  obtain rfl : f = 7 := Option.some.inj ((show Tryd.prog.funcNamed Rows.headerTurnedRow.func = some 7 by kernel_rfl).symm.trans hf) |>.symm
  obtain rfl : fn = Tryd.f7 := (Option.some.inj (Tryd.func7.symm.trans hfn)).symm
  refine ⟨by kernel_rfl, fun j t ht => ?_⟩
  rw [Tryd.params7] at ht
  have hm : t ∈ [39, 5, 5] := by simpa using Array.mem_of_getElem? ht
  have hall : ([39, 5, 5].all fun u => !Tryd.prog.wantsStandIn u) = true := by kernel_rfl
  exact (show Tryd.prog.wantsStandIn t = false by simpa using List.all_eq_true.1 hall t hm)
theorem card : Rows.HeaderTurnedCardSaid :=
  Claim7.holds_tied_plain_at .later [] _ _ _ _ said (fun _ h => by cases h) (by kernel_rfl) (fun _ h => by cases h) headerTurned_row_tie rfl ⟨rfl, rfl⟩ (by kernel_rfl) rfl plain (by kernel_rfl)
end Go.Proofs.YtfmehkaojfjdjaaDoor.headerTurned
namespace Go.Proofs.YtfmehkaojfjdjaaDoor
theorem headerTurned_holds : Rows.HeaderTurnedCardSaid := headerTurned.card
end Go.Proofs.YtfmehkaojfjdjaaDoor
