/- ObjectsSorted. -/
import Derived.Test.YtaknbjignaefkaaRows
import Derived.WalkKit
import Derived.ProofKit
import Derived.OpenShut
import Derived.ShutString
import Derived.ChangeOld
import Derived.Deep.RegionHeld3
import Derived.Deep.DeepCutAuto
import Derived.LaidMore
import Derived.Lay
import Derived.Stop.Joined
import Derived.SevenTiedAt
import Derived.Deep.DeepHandedRow
import Derived.Deep.DeepWitnessRowRef
import Derived.SizedLaws
import Derived.SliceStrings
import Derived.Test.YtaknbjignaefkaaK6
import Derived.Test.YtaknbjignaefkaaFlat
import Derived.Test.YtaknbjignaefkaaFlats
import Derived.Test.YtaknbjignaefkaaLo16c
namespace Go.Proofs.Ytaknbjignaefkaa.objectsSorted
open Go.ChangeShapes Go.WideShapes Go.ChangeAt Go.RowKit
open Go.ChangeMaps (open_string shut_string)
set_option linter.unusedVariables false

theorem own : ownKnob Try.prog.godebug = none := by kernel_rfl
theorem laidOut : laidOutB Try.prog = true := by kernel_rfl
theorem fits31 {l : List Value} (e : l.length = 5) (f : fitAll [(0, .int .u8), (1, .int .u8), (2, .int .u8), (3, .int .u8), (4, .int .u8)] l) :
    ∃ (x0 : Int) (x1 : Int) (x2 : Int) (x3 : Int) (x4 : Int), l = [.int .u8 x0, .int .u8 x1, .int .u8 x2, .int .u8 x3, .int .u8 x4] ∧ (Lit.int .u8 x0).wf = true ∧ (Lit.int .u8 x1).wf = true ∧ (Lit.int .u8 x2).wf = true ∧ (Lit.int .u8 x3).wf = true ∧ (Lit.int .u8 x4).wf = true := by
  match l, e with
  | [c0, c1, c2, c3, c4], _ =>
    obtain ⟨⟨v0, g0, x0, h0, w0⟩, ⟨v1, g1, x1, h1, w1⟩, ⟨v2, g2, x2, h2, w2⟩, ⟨v3, g3, x3, h3, w3⟩, ⟨v4, g4, x4, h4, w4⟩, _⟩ := f
    have e0 : c0 = v0 := Option.some.inj g0
    subst h0 e0
    have e1 : c1 = v1 := Option.some.inj g1
    subst h1 e1
    have e2 : c2 = v2 := Option.some.inj g2
    subst h2 e2
    have e3 : c3 = v3 := Option.some.inj g3
    subst h3 e3
    have e4 : c4 = v4 := Option.some.inj g4
    subst h4 e4
    exact ⟨x0, x1, x2, x3, x4, rfl, w0, w1, w2, w3, w4⟩

set_option maxRecDepth 100000 in
set_option maxHeartbeats 8000000 in
theorem walk (a0 : Option Addr) (cap0 : Nat) (s0 : List Ob) (w : World) (r0 : SlO w a0 cap0 s0) (b0 : s0.length * Try.prog.bytesOf 31 ≤ 140737488351232) :
    Calls Try.prog 8 #[.slice a0 s0.length cap0] w fun e w' => e = .returned (.bool true) ∧ Kept w w' := by
  exact sorted16 a0 cap0 s0 w r0 (by rw [show Try.prog.bytesOf 31 = 5 by kernel_rfl] at b0; omega)

set_option maxRecDepth 100000 in
theorem contract (H : Type) (enc : TypeId × Value → H) (fi : Stop.Interp) (W : World) (base : Nat) (args : Array Value) (ds gs : List (DataW H)) (before : List MemPlace)
    (hval : ∀ (j : Nat) t v, Try.f8.params[j]? = some t → args[j]? = some v → Value.okWide Try.prog W .any base t v)
    (hW : DataW.Whole enc Try.prog Try.f8.params.toList (OpenSpec.ofChange Rows.objectsSortedSpec).vars false W args.toList ds gs before)
    (hk0 : ∀ k, (OpenSpec.ofChange Rows.objectsSortedSpec).cond = some k → k H (ds ++ gs) = true)
    (hsz0 : (DataW.weightsEach Try.prog (Try.f8.params.toList ++ (OpenSpec.ofChange Rows.objectsSortedSpec).bare.plain.varTypes Try.prog) (ds ++ gs)).all (· ≤ reachBytes) = true) (hL : laidMetH Try.prog Rows.objectsSortedRow.laid W) :
    Calls Try.prog 8 args W fun e W' => ∃ v, e = .returned v ∧ ((OpenSpec.ofChange Rows.objectsSortedSpec).at fi).post enc Try.prog Try.f8 false true false false W args v W' := by
  have hW' := hW
  obtain ⟨p, q, hA0, hV, rfl, hfz, hnd⟩ := hW
  have hA : DataW.TrodAll enc Try.prog W 0 (fun _ => true) true Try.f8.params.toList args.toList ds p := hA0
  rw [Try.params8] at hA hval
  obtain ⟨v0, vs0, d0, ds0, p0, q0, hargs, rfl, rfl, h0, r0x⟩ := trodAll_cons hA
  obtain ⟨rfl, rfl, rfl⟩ := trodAll_nil r0x
  obtain rfl : args = #[v0] := by cases args; simp_all
  obtain ⟨rfl, rfl⟩ := trodVars_none hV
  have hsz : (DataW.weightsEach Try.prog [25] [d0]).all (· ≤ reachBytes) = true := by
    have q := hsz0
    rw [show Try.f8.params.toList ++ (OpenSpec.ofChange Rows.objectsSortedSpec).bare.plain.varTypes Try.prog = [25] by kernel_rfl] at q
    simpa using q
  have k0 := h0
  have lt0 : ∀ x ∈ p0, x.block < W.heap.size := by obtain ⟨m, hm⟩ := k0; exact DataW.trod_lt m _ _ _ hm
  obtain ⟨a0, len0, cap0, rfl⟩ := okWide_slice Try.underlying25 (hval 0 25 v0 rfl rfl)
  obtain ⟨fuel0, hf0⟩ := h0
  obtain ⟨a0x, cap0x, els0, ev0, r0, fe0, l0, m0, n0, b0x⟩ := open_flats (n := 8) (c := 5) (L := [(0, .int .u8), (1, .int .u8), (2, .int .u8), (3, .int .u8), (4, .int .u8)]) Try.underlying25 (by kernel_rfl) (by kernel_rfl) (by decide) hf0
  cases ev0
  have b0 := b0x (sized_part8 hsz (j := 0) (t := 25) rfl rfl)
  obtain ⟨s0, rfl, q0⟩ := list_choose (f := obC) (p := fun _ => True) els0 (fun cs hcs => by
    obtain ⟨y0, y1, y2, y3, y4, hx, g0, g1, g2, g3, g4⟩ := fits31 (fe0 cs hcs).1 (fe0 cs hcs).2
    obtain ⟨v0, rfl⟩ := fin_of (bounds_u8 g0).1 (bounds_u8 g0).2
    obtain ⟨v1, rfl⟩ := fin_of (bounds_u8 g1).1 (bounds_u8 g1).2
    obtain ⟨v2, rfl⟩ := fin_of (bounds_u8 g2).1 (bounds_u8 g2).2
    obtain ⟨v3, rfl⟩ := fin_of (bounds_u8 g3).1 (bounds_u8 g3).2
    obtain ⟨v4, rfl⟩ := fin_of (bounds_u8 g4).1 (bounds_u8 g4).2
    exact ⟨(v0, v1, v2, v3, v4), hx, trivial⟩)
  rw [List.length_map] at l0 b0
  simp only [List.length_map] at *
  clear hA0
  refine (walk a0 cap0 s0 W ⟨r0, l0, m0, n0⟩ b0).mono fun e W' ⟨he, hg⟩ => ?_
  subst he
  exact ⟨_, rfl, _, _, _, [], _, [], hW', trodAll_mk1 (shut_bool Try.underlying4 _), (trodAll_cons_mk (Kept.trod laidOut (by kernel_rfl) (of_decide_eq_true (by kernel_rfl)) k0 hg lt0) trodAll_mk0), rfl, hg.frame _, fun h => by cases h⟩
theorem start_met (os : Os) (args : Array Value) : laidMetH Try.prog Rows.objectsSortedRow.laid ((World.laidAll Try.prog os Rows.objectsSortedRow.laid).forCall (fun _ _ => 0) ⟨#[], args, []⟩).memory := by
  exact ⟨[], rfl, List.nodup_nil, fun _ _ h => by cases h⟩
theorem reads (os : Os) {H : Type} (enc : TypeId × Value → H) : ∃ places, DataW.whole enc Try.prog ((World.laidAll Try.prog os Rows.objectsSortedRow.laid).forCall (fun _ _ => 0) ⟨#[], #[.slice none 0 0], []⟩).memory Try.f8.params.toList (OpenSpec.ofChange Rows.objectsSortedSpec).vars false #[.slice none 0 0].toList 8 = some ([.nil], [], places) :=
  ⟨[], by kernel_rfl⟩
set_option maxRecDepth 100000 in
theorem lifted (os : Os) (started : os.Started) (H : Type) (enc : TypeId × Value → H) (fi : Stop.Interp) :
    ReturnsInHanded {} Try.checked os 8 .any ((OpenSpec.ofChange Rows.objectsSortedSpec).preRow enc Try.prog Try.f8 Rows.objectsSortedRow.domain false Rows.objectsSortedRow.laid) (((OpenSpec.ofChange Rows.objectsSortedSpec).at fi).post enc Try.prog Try.f8 false true false false) := by
  obtain ⟨places, hx⟩ := reads os enc
  refine returnsInHanded_of_row (C := Try.checked) (s := (OpenSpec.ofChange Rows.objectsSortedSpec)) own started (by kernel_rfl) Try.func8
    (witness_row_atRef (enc := enc) (C := Try.checked) false (World.laidAll Try.prog os Rows.objectsSortedRow.laid) #[.slice none 0 0] (World.laidAll_os _ _ _) (by kernel_rfl) (by kernel_rfl) (by kernel_rfl)
      (OpenSpec.preRow_of_cond 8 hx (by kernel_rfl) (fun k hk => by cases hk) (by kernel_rfl) (start_met os _))) ?_
  intro W base args ds gs before hval hW _ hk hsz hL _ _
  exact contract H enc fi W base args ds gs before hval hW hk hsz hL
theorem said : Rows.ObjectsSortedSaid :=
  OpenClaim.holds_of_cond 8 Try.f8 rfl rfl rfl rfl rfl rfl rfl ⟨rfl, rfl, rfl, rfl, rfl⟩ rfl rfl rfl rfl rfl (by kernel_rfl) Try.func8 (by kernel_rfl)
    (of_decide_eq_true (by kernel_rfl)) (by unfold Func.isWrapper; first | (rw [if_pos (by decide +kernel)]; kernel_rfl) | (rw [if_neg (by decide +kernel)]; exact ⟨rfl, rfl⟩))
    (fun os started H enc _ fi => by rw [OpenClaim.pre_eq_preRow]; exact lifted os started H enc fi)
end Go.Proofs.Ytaknbjignaefkaa.objectsSorted
namespace Go.Proofs.Ytaknbjignaefkaa
theorem objectsSorted_holds : Rows.ObjectsSortedSaid := objectsSorted.said
end Go.Proofs.Ytaknbjignaefkaa
