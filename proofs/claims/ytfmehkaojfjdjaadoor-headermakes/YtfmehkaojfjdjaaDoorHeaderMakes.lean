/- HeaderMakes: whatever is wished, the program's Make makes, or refuses, the image that the document's makes, or refuses; the law returns true and the wish stays as it was. Condition: the tables header.kinds and header.ramSizes begin as the program's text lays them (tied card). -/
import Derived.Test.YtfmehkaojfjdjaaDoorRows
import Derived.WalkKit
import Derived.ProofKit
import Derived.OpenShut
import Derived.ShutString
import Derived.ChangeOld
import Derived.Deep.RegionHeld3
import Derived.Deep.DeepCutAuto
import Derived.LaidMore
import Derived.Lay
import Derived.Stop.Joined
import Derived.SevenTiedAt
import Derived.Deep.DeepHandedRow
import Derived.Deep.DeepWitnessRowRef
import Derived.SizedLaws
import Derived.SliceStrings
import Derived.Test.YtfmehkaojfjdjaaDoorCards
import Derived.Test.YtfmehkaojfjdjaaDoorTie
import Derived.Test.YtfmehkaojfjdjaaDoorPg7d
import Derived.Test.YtfmehkaojfjdjaaDoorWish7
import Derived.Test.YtfmehkaojfjdjaaDoorShown7
namespace Go.Proofs.YtfmehkaojfjdjaaDoor.headerMakes
open Go.ChangeShapes Go.WideShapes Go.ChangeAt Go.RowKit
open Go.ChangeMaps (open_string shut_string)
set_option linter.unusedVariables false

theorem own : ownKnob Tryd.prog.godebug = none := by kernel_rfl
theorem laidOut : laidOutB Tryd.prog = true := by kernel_rfl

set_option maxRecDepth 100000 in
set_option maxHeartbeats 8000000 in
theorem walk (t0 : ByteArray) (x0k x0r x0m : Int) (a0 : Option Addr) (cap0 : Nat) (z0 : List Int) (w : World) (s0 : t0.size ≤ maxLen) (w0k : (Lit.int .u8 x0k).wf = true) (w0r : (Lit.int .u8 x0r).wf = true) (w0m : (Lit.int .u8 x0m).wf = true) (r0 : Row w a0 z0) (l0 : z0.length ≤ cap0) (m0 : cap0 ≤ maxLen) (n0 : a0 = none → cap0 = 0) (b0 : z0.length ≤ 140737488355328) (lay : Lay7 w) :
    Calls Tryd.prog 5 #[.agg #[.string t0, .int .u8 x0k, .int .u8 x0r, .int .u8 x0m, .slice a0 z0.length cap0]] w fun e w' => e = .returned (.bool true) ∧ Kept w w' := by
  have S := hid (fun u (g : Kept w u) => shown7 u (lay.kept g))
  obtain ⟨k0, k1⟩ := bounds_u8 w0k
  obtain ⟨q0, q1⟩ := bounds_u8 w0r
  obtain ⟨p0, p1⟩ := bounds_u8 w0m
  have A := hid (fun u (g : Kept w u) => hmake_any t0 x0k x0r x0m z0 a0 cap0 u (lay.kept g) (row_kept g r0) b0 k0 k1 q0 q1 p0 p1 s0)
  have B := hid (fun u (g : Kept w u) => rmake_any t0 x0k x0r x0m z0 a0 cap0 u (row_kept g r0) n0 k0 k1 q0 p0 s0)
  generalize makeE (byL t0) x0k x0r x0m z0 = E at *
  generalize makeB (byL t0) x0k x0r x0m z0 = L at *
  go_enter Tryd.func5, Tryd.ntmps5
  go_wp2_with fail
  refine (S.out _ ((Kept.refl w).alloc _)).mono ?_
  rintro e u1 ⟨rfl, k1⟩
  have K0 := hid (((Kept.refl w).alloc _).trans k1)
  have HB := fun i => (k1.cell (x := ⟨w.heap.size, i, none⟩) (by simp)).trans ((has_alloc w #[.string t0, .int .u8 x0k, .int .u8 x0r, .int .u8 x0m, .slice a0 z0.length cap0] 39).2 i)
  have e0 := HB 0
  have e1 := HB 1
  have e2 := HB 2
  have e3 := HB 3
  have e4 := HB 4
  simp at e0 e1 e2 e3 e4
  have z1 := k1.size
  simp at z1
  have zB : w.heap.size < u1.heap.size := by omega
  clear k1 HB
  go_wp2_with fail
  refine (A.out _ K0.out).mono ?_
  rintro e u2 ⟨v1, rfl, o1, k2⟩
  have K2 := hid (K0.out.trans k2)
  have f0 : u2.cell? ⟨w.heap.size, 0, none⟩ = _ := (k2.cell (x := ⟨w.heap.size, 0, none⟩) zB).trans e0
  have f1 : u2.cell? ⟨w.heap.size, 1, none⟩ = _ := (k2.cell (x := ⟨w.heap.size, 1, none⟩) zB).trans e1
  have f2 : u2.cell? ⟨w.heap.size, 2, none⟩ = _ := (k2.cell (x := ⟨w.heap.size, 2, none⟩) zB).trans e2
  have f3 : u2.cell? ⟨w.heap.size, 3, none⟩ = _ := (k2.cell (x := ⟨w.heap.size, 3, none⟩) zB).trans e3
  have f4 : u2.cell? ⟨w.heap.size, 4, none⟩ = _ := (k2.cell (x := ⟨w.heap.size, 4, none⟩) zB).trans e4
  have O1 := hid o1
  have zC : w.heap.size < u2.heap.size := Nat.lt_of_lt_of_le zB k2.size
  clear e0 e1 e2 e3 e4 o1 k2
  go_wp2_with fail
  refine (B.out _ K2.out).mono ?_
  rintro e u3 ⟨v2, rfl, o2, k3⟩
  have K3 := hid (K2.out.trans k3)
  have c1 := conv_own (owns_kept k3 O1.out)
  have c2 := conv_own o2
  generalize strB L = SL at *
  clear f0 f1 f2 f3 f4 o2 k3
  go_wp2
  go_ret
  exact ⟨rfl, K3.out⟩

set_option maxRecDepth 100000 in
theorem contract (H : Type) (enc : TypeId × Value → H) (fi : Stop.Interp) (W : World) (base : Nat) (args : Array Value) (ds gs : List (DataW H)) (before : List MemPlace)
    (hval : ∀ (j : Nat) t v, Tryd.f5.params[j]? = some t → args[j]? = some v → Value.okWide Tryd.prog W .any base t v)
    (hW : DataW.Whole enc Tryd.prog Tryd.f5.params.toList (OpenSpec.ofChange Rows.headerMakesSpec).vars false W args.toList ds gs before)
    (hk0 : ∀ k, (OpenSpec.ofChange Rows.headerMakesSpec).cond = some k → k H (ds ++ gs) = true)
    (hsz0 : (DataW.weightsEach Tryd.prog (Tryd.f5.params.toList ++ (OpenSpec.ofChange Rows.headerMakesSpec).bare.plain.varTypes Tryd.prog) (ds ++ gs)).all (· ≤ reachBytes) = true) (hL : laidMetH Tryd.prog Rows.headerMakesRow.laid W) :
    Calls Tryd.prog 5 args W fun e W' => ∃ v, e = .returned v ∧ ((OpenSpec.ofChange Rows.headerMakesSpec).at fi).post enc Tryd.prog Tryd.f5 false true false false W args v W' := by
  have hW' := hW
  obtain ⟨p, q, hA0, hV, rfl, hfz, hnd⟩ := hW
  have hA : DataW.TrodAll enc Tryd.prog W 0 (fun _ => true) true Tryd.f5.params.toList args.toList ds p := hA0
  rw [Tryd.params5] at hA hval
  obtain ⟨v0, vs0, d0, ds0, p0, q0, hargs, rfl, rfl, h0, r0x⟩ := trodAll_cons hA
  obtain ⟨rfl, rfl, rfl⟩ := trodAll_nil r0x
  obtain rfl : args = #[v0] := by cases args; simp_all
  obtain ⟨rfl, rfl⟩ := trodVars_none hV
  have hsz : (DataW.weightsEach Tryd.prog [39] [d0]).all (· ≤ reachBytes) = true := by
    have q := hsz0
    rw [show Tryd.f5.params.toList ++ (OpenSpec.ofChange Rows.headerMakesSpec).bare.plain.varTypes Tryd.prog = [39] by kernel_rfl] at q
    simpa using q
  have k0 := h0
  have lt0 : ∀ x ∈ p0, x.block < W.heap.size := by obtain ⟨m, hm⟩ := k0; exact DataW.trod_lt m _ _ _ hm
  obtain ⟨t0, x0k, x0r, x0m, a0, cap0, z0, rfl, s0, w0k, w0r, w0m, r0, l0, m0, n0, b0x⟩ := open_wish (hval 0 39 v0 rfl rfl) h0
  have b0 := b0x (sized_part hsz (j := 0) (t := 39) rfl rfl)
  clear hA0
  refine (walk t0 x0k x0r x0m a0 cap0 z0 W s0 w0k w0r w0m r0 l0 m0 n0 b0 (of_laid hL)).mono fun e W' ⟨he, hg⟩ => ?_
  subst he
  exact ⟨_, rfl, _, _, _, [], _, [], hW', trodAll_mk1 (shut_bool Tryd.underlying4 _), (trodAll_cons_mk (Kept.trod laidOut (by kernel_rfl) (of_decide_eq_true (by kernel_rfl)) k0 hg lt0) trodAll_mk0), rfl, hg.frame _, fun h => by cases h⟩
theorem reads (os : Os) {H : Type} (enc : TypeId × Value → H) : ∃ places, DataW.whole enc Tryd.prog ((World.laidAll Tryd.prog os Rows.headerParsesRow.laid).forCall (fun _ _ => 0) ⟨#[], #[.agg #[.string ByteArray.empty, .int .u8 0, .int .u8 0, .int .u8 0, .slice none 0 0]], []⟩).memory Tryd.f5.params.toList (OpenSpec.ofChange Rows.headerMakesSpec).vars false #[.agg #[.string ByteArray.empty, .int .u8 0, .int .u8 0, .int .u8 0, .slice none 0 0]].toList 8 = some ([.agg [.lit (.string []), .lit (.int .u8 0), .lit (.int .u8 0), .lit (.int .u8 0), .nil]], [], places) :=
  ⟨[], by kernel_rfl⟩
set_option maxRecDepth 100000 in
theorem lifted (os : Os) (started : os.Started) (H : Type) (enc : TypeId × Value → H) (fi : Stop.Interp) :
    ReturnsInHanded {} Tryd.checked os 5 .any ((OpenSpec.ofChange Rows.headerMakesSpec).preRow enc Tryd.prog Tryd.f5 Rows.headerMakesRow.domain false Rows.headerMakesRow.laid) (((OpenSpec.ofChange Rows.headerMakesSpec).at fi).post enc Tryd.prog Tryd.f5 false true false false) := by
  obtain ⟨places, hx⟩ := reads os enc
  refine returnsInHanded_of_row (C := Tryd.checked) (s := (OpenSpec.ofChange Rows.headerMakesSpec)) own started (by kernel_rfl) Tryd.func5
    (witness_row_atRef (enc := enc) (C := Tryd.checked) false (World.laidAll Tryd.prog os Rows.headerParsesRow.laid) #[.agg #[.string ByteArray.empty, .int .u8 0, .int .u8 0, .int .u8 0, .slice none 0 0]] (World.laidAll_os _ _ _) (by kernel_rfl) (by kernel_rfl) (by kernel_rfl)
      (OpenSpec.preRow_of_cond 8 hx (by kernel_rfl) (fun k hk => by cases hk) (by kernel_rfl) (start_met os _))) ?_
  intro W base args ds gs before hval hW _ hk hsz hL _ _
  exact contract H enc fi W base args ds gs before hval hW hk hsz hL
theorem said : Rows.HeaderMakesSaid :=
  OpenClaim.holds_of_cond 5 Tryd.f5 rfl rfl rfl rfl rfl rfl rfl ⟨rfl, rfl, rfl, rfl, rfl⟩ rfl rfl rfl rfl rfl (by kernel_rfl) Tryd.func5 (by kernel_rfl)
    (of_decide_eq_true (by kernel_rfl)) (by unfold Func.isWrapper; first | (rw [if_pos (by decide +kernel)]; kernel_rfl) | (rw [if_neg (by decide +kernel)]; exact ⟨rfl, rfl⟩))
    (fun os started H enc _ fi => by rw [OpenClaim.pre_eq_preRow]; exact lifted os started H enc fi)
theorem plain (f : FuncId) (fn : Func) (hf : Tryd.pinned.checked.prog.funcNamed Rows.headerMakesRow.func = some f) (hfn : Tryd.pinned.checked.prog.funcs[f]? = some fn) :
    true = Tryd.pinned.checked.prog.looks [] ∧ ∀ (j : Nat) t, fn.params[j]? = some t → Tryd.pinned.checked.prog.wantsStandIn t = false := by
  obtain rfl : f = 5 := Option.some.inj ((show Tryd.prog.funcNamed Rows.headerMakesRow.func = some 5 by kernel_rfl).symm.trans hf) |>.symm
  obtain rfl : fn = Tryd.f5 := (Option.some.inj (Tryd.func5.symm.trans hfn)).symm
  refine ⟨by kernel_rfl, fun j t ht => ?_⟩
  rw [Tryd.params5] at ht
  have hm : t ∈ [39] := by simpa using Array.mem_of_getElem? ht
  have hall : ([39].all fun u => !Tryd.prog.wantsStandIn u) = true := by kernel_rfl
  exact (show Tryd.prog.wantsStandIn t = false by simpa using List.all_eq_true.1 hall t hm)
theorem card : Rows.HeaderMakesCardSaid :=
  Claim7.holds_tied_plain_at .later [] _ _ _ _ said (fun _ h => by cases h) (by kernel_rfl) (fun _ h => by cases h) headerMakes_row_tie rfl ⟨rfl, rfl⟩ (by kernel_rfl) rfl plain (by kernel_rfl)
end Go.Proofs.YtfmehkaojfjdjaaDoor.headerMakes
namespace Go.Proofs.YtfmehkaojfjdjaaDoor
theorem headerMakes_holds : Rows.HeaderMakesCardSaid := headerMakes.card
end Go.Proofs.YtfmehkaojfjdjaaDoor
