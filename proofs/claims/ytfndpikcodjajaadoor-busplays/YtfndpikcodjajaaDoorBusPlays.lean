/- Whatever is put, and got, in whatever order, memories answer as the document says. -/
import Derived.Test.YtfndpikcodjajaaDoorRows
import Derived.WalkKit
import Derived.ProofKit
import Derived.OpenShut
import Derived.ShutString
import Derived.ChangeOld
import Derived.Deep.RegionHeld3
import Derived.Deep.DeepCutAuto
import Derived.LaidMore
import Derived.Lay
import Derived.Stop.Joined
import Derived.SevenTiedAt
import Derived.Deep.DeepHandedRow
import Derived.Deep.DeepWitnessRowRef
import Derived.SizedLaws
import Derived.SliceStrings
import Derived.Test.YtfndpikcodjajaaDoorCards
import Derived.Test.YtfndpikcodjajaaDoorTie
import Derived.Test.YtfndpikcodjajaaDoorPb20a
import Derived.Test.YtfndpikcodjajaaDoorFlats
import Derived.Test.YtfndpikcodjajaaDoorK6
import Derived.Test.YtfndpikcodjajaaDoorLb20c
namespace Go.Proofs.YtfndpikcodjajaaDoor.busPlays
open Go.ChangeShapes Go.WideShapes Go.ChangeAt Go.RowKit
open Go.ChangeMaps (open_string shut_string)
set_option linter.unusedVariables false

theorem own : ownKnob Tryd.prog.godebug = none := by kernel_rfl
theorem laidOut : laidOutB Tryd.prog = true := by kernel_rfl
theorem fits38 {l : List Value} (e : l.length = 3) (f : fitAll [(0, .int .i64), (1, .int .u16), (2, .int .u8)] l) :
    ∃ (x0 : Int) (x1 : Int) (x2 : Int), l = [.int .i64 x0, .int .u16 x1, .int .u8 x2] ∧ (Lit.int .i64 x0).wf = true ∧ (Lit.int .u16 x1).wf = true ∧ (Lit.int .u8 x2).wf = true := by
  match l, e with
  | [c0, c1, c2], _ =>
    obtain ⟨⟨v0, g0, x0, h0, w0⟩, ⟨v1, g1, x1, h1, w1⟩, ⟨v2, g2, x2, h2, w2⟩, _⟩ := f
    have e0 : c0 = v0 := Option.some.inj g0
    subst h0 e0
    have e1 : c1 = v1 := Option.some.inj g1
    subst h1 e1
    have e2 : c2 = v2 := Option.some.inj g2
    subst h2 e2
    exact ⟨x0, x1, x2, rfl, w0, w1, w2⟩

def el38 (x : Int × Int × Int) : List Value := [.int .i64 x.1, .int .u16 x.2.1, .int .u8 x.2.2]

set_option maxRecDepth 100000 in
set_option maxHeartbeats 8000000 in
theorem walk (a0 : Option Addr) (cap0 : Nat) (s0 : List (Int × Int × Int)) (w : World) (r0 : FRow w a0 3 (s0.map el38)) (q0 : ∀ x ∈ s0, (Lit.int .i64 x.1).wf = true ∧ (Lit.int .u16 x.2.1).wf = true ∧ (Lit.int .u8 x.2.2).wf = true) (l0 : s0.length ≤ cap0) (m0 : cap0 ≤ maxLen) (n0 : a0 = none → cap0 = 0) (b0 : s0.length * Tryd.prog.bytesOf 38 ≤ 140737488351232) (lay : Lay20 w) :
    Calls Tryd.prog 6 #[.slice a0 s0.length cap0] w fun e w' => e = .returned (.bool true) ∧ Kept w w' := by
  exact plays20 a0 cap0 s0 w lay r0 (fun x hx => ⟨bounds_u16 (q0 x hx).2.1, bounds_u8 (q0 x hx).2.2⟩) l0 m0

set_option maxRecDepth 100000 in
theorem contract (H : Type) (enc : TypeId × Value → H) (fi : Stop.Interp) (W : World) (base : Nat) (args : Array Value) (ds gs : List (DataW H)) (before : List MemPlace)
    (hval : ∀ (j : Nat) t v, Tryd.f6.params[j]? = some t → args[j]? = some v → Value.okWide Tryd.prog W .any base t v)
    (hW : DataW.Whole enc Tryd.prog Tryd.f6.params.toList (OpenSpec.ofChange Rows.busPlaysSpec).vars false W args.toList ds gs before)
    (hk0 : ∀ k, (OpenSpec.ofChange Rows.busPlaysSpec).cond = some k → k H (ds ++ gs) = true)
    (hsz0 : (DataW.weightsEach Tryd.prog (Tryd.f6.params.toList ++ (OpenSpec.ofChange Rows.busPlaysSpec).bare.plain.varTypes Tryd.prog) (ds ++ gs)).all (· ≤ reachBytes) = true) (hL : laidMetH Tryd.prog Rows.busPlaysRow.laid W) :
    Calls Tryd.prog 6 args W fun e W' => ∃ v, e = .returned v ∧ ((OpenSpec.ofChange Rows.busPlaysSpec).at fi).post enc Tryd.prog Tryd.f6 false true false false W args v W' := by
  have hW' := hW
  obtain ⟨p, q, hA0, hV, rfl, hfz, hnd⟩ := hW
  have hA : DataW.TrodAll enc Tryd.prog W 0 (fun _ => true) true Tryd.f6.params.toList args.toList ds p := hA0
  rw [Tryd.params6] at hA hval
  obtain ⟨v0, vs0, d0, ds0, p0, q0, hargs, rfl, rfl, h0, r0x⟩ := trodAll_cons hA
  obtain ⟨rfl, rfl, rfl⟩ := trodAll_nil r0x
  obtain rfl : args = #[v0] := by cases args; simp_all
  obtain ⟨rfl, rfl⟩ := trodVars_none hV
  have hsz : (DataW.weightsEach Tryd.prog [30] [d0]).all (· ≤ reachBytes) = true := by
    have q := hsz0
    rw [show Tryd.f6.params.toList ++ (OpenSpec.ofChange Rows.busPlaysSpec).bare.plain.varTypes Tryd.prog = [30] by kernel_rfl] at q
    simpa using q
  have k0 := h0
  have lt0 : ∀ x ∈ p0, x.block < W.heap.size := by obtain ⟨m, hm⟩ := k0; exact DataW.trod_lt m _ _ _ hm
  obtain ⟨a0, len0, cap0, rfl⟩ := okWide_slice Tryd.underlying30 (hval 0 30 v0 rfl rfl)
  obtain ⟨fuel0, hf0⟩ := h0
  obtain ⟨a0x, cap0x, els0, ev0, r0, fe0, l0, m0, n0, b0x⟩ := open_flats (n := 8) (c := 3) (L := [(0, .int .i64), (1, .int .u16), (2, .int .u8)]) Tryd.underlying30 (by kernel_rfl) (by kernel_rfl) (by decide) hf0
  cases ev0
  have b0 := b0x (sized_part8 hsz (j := 0) (t := 30) rfl rfl)
  obtain ⟨s0, rfl, q0⟩ := list_choose (f := el38) (p := fun x => (Lit.int .i64 x.1).wf = true ∧ (Lit.int .u16 x.2.1).wf = true ∧ (Lit.int .u8 x.2.2).wf = true) els0 (fun cs hcs => by
    obtain ⟨y0, y1, y2, hx, g0, g1, g2⟩ := fits38 (fe0 cs hcs).1 (fe0 cs hcs).2
    exact ⟨(y0, y1, y2), hx, g0, g1, g2⟩)
  rw [List.length_map] at l0 b0
  simp only [List.length_map] at *
  clear hA0
  refine (walk a0 cap0 s0 W r0 q0 l0 m0 n0 b0 (of_laid hL)).mono fun e W' ⟨he, hg⟩ => ?_
  subst he
  exact ⟨_, rfl, _, _, _, [], _, [], hW', trodAll_mk1 (shut_bool Tryd.underlying4 _), (trodAll_cons_mk (Kept.trod laidOut (by kernel_rfl) (of_decide_eq_true (by kernel_rfl)) k0 hg lt0) trodAll_mk0), rfl, hg.frame _, fun h => by cases h⟩
theorem reads (os : Os) {H : Type} (enc : TypeId × Value → H) : ∃ places, DataW.whole enc Tryd.prog ((World.laidAll Tryd.prog os Rows.busRegionsRow.laid).forCall (fun _ _ => 0) ⟨#[], #[.slice none 0 0], []⟩).memory Tryd.f6.params.toList (OpenSpec.ofChange Rows.busPlaysSpec).vars false #[.slice none 0 0].toList 8 = some ([.nil], [], places) :=
  ⟨[], by kernel_rfl⟩
set_option maxRecDepth 100000 in
theorem lifted (os : Os) (started : os.Started) (H : Type) (enc : TypeId × Value → H) (fi : Stop.Interp) :
    ReturnsInHanded {} Tryd.checked os 6 .any ((OpenSpec.ofChange Rows.busPlaysSpec).preRow enc Tryd.prog Tryd.f6 Rows.busPlaysRow.domain false Rows.busPlaysRow.laid) (((OpenSpec.ofChange Rows.busPlaysSpec).at fi).post enc Tryd.prog Tryd.f6 false true false false) := by
  obtain ⟨places, hx⟩ := reads os enc
  refine returnsInHanded_of_row (C := Tryd.checked) (s := (OpenSpec.ofChange Rows.busPlaysSpec)) own started (by kernel_rfl) Tryd.func6
    (witness_row_atRef (enc := enc) (C := Tryd.checked) false (World.laidAll Tryd.prog os Rows.busRegionsRow.laid) #[.slice none 0 0] (World.laidAll_os _ _ _) (by kernel_rfl) (by kernel_rfl) (by kernel_rfl)
      (OpenSpec.preRow_of_cond 8 hx (by kernel_rfl) (fun k hk => by cases hk) (by kernel_rfl) (start_met os _))) ?_
  intro W base args ds gs before hval hW _ hk hsz hL _ _
  exact contract H enc fi W base args ds gs before hval hW hk hsz hL
theorem said : Rows.BusPlaysSaid :=
  OpenClaim.holds_of_cond 6 Tryd.f6 rfl rfl rfl rfl rfl rfl rfl ⟨rfl, rfl, rfl, rfl, rfl⟩ rfl rfl rfl rfl rfl (by kernel_rfl) Tryd.func6 (by kernel_rfl)
    (of_decide_eq_true (by kernel_rfl)) (by unfold Func.isWrapper; first | (rw [if_pos (by decide +kernel)]; kernel_rfl) | (rw [if_neg (by decide +kernel)]; exact ⟨rfl, rfl⟩))
    (fun os started H enc _ fi => by rw [OpenClaim.pre_eq_preRow]; exact lifted os started H enc fi)
theorem plain (f : FuncId) (fn : Func) (hf : Tryd.pinned.checked.prog.funcNamed Rows.busPlaysRow.func = some f) (hfn : Tryd.pinned.checked.prog.funcs[f]? = some fn) :
    false = Tryd.pinned.checked.prog.looks [] ∧ ∀ (j : Nat) t, fn.params[j]? = some t → Tryd.pinned.checked.prog.wantsStandIn t = false := by
  obtain rfl : f = 6 := Option.some.inj ((show Tryd.prog.funcNamed Rows.busPlaysRow.func = some 6 by kernel_rfl).symm.trans hf) |>.symm
  obtain rfl : fn = Tryd.f6 := (Option.some.inj (Tryd.func6.symm.trans hfn)).symm
  refine ⟨by kernel_rfl, fun j t ht => ?_⟩
  rw [Tryd.params6] at ht
  have hm : t ∈ [30] := by simpa using Array.mem_of_getElem? ht
  have hall : ([30].all fun u => !Tryd.prog.wantsStandIn u) = true := by kernel_rfl
  exact (show Tryd.prog.wantsStandIn t = false by simpa using List.all_eq_true.1 hall t hm)
theorem card : Rows.BusPlaysCardSaid :=
  Claim7.holds_tied_plain_at .later [] _ _ _ _ said (fun _ h => by cases h) (by kernel_rfl) (fun _ h => by cases h) busPlays_row_tie rfl ⟨rfl, rfl⟩ (by kernel_rfl) rfl plain (by kernel_rfl)
end Go.Proofs.YtfndpikcodjajaaDoor.busPlays
namespace Go.Proofs.YtfndpikcodjajaaDoor
theorem busPlays_holds : Rows.BusPlaysCardSaid := busPlays.card
end Go.Proofs.YtfndpikcodjajaaDoor
