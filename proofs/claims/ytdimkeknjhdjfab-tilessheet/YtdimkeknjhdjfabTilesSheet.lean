/- A sheet tells each pixel as the document says, as its memory was when it was made, and counts how often it was asked; one that nobody made tells nothing; for every memory and all that is asked. -/
import Derived.Test.YtdimkeknjhdjfabRows
import Derived.WalkKit
import Derived.ProofKit
import Derived.OpenShut
import Derived.ShutString
import Derived.ChangeOld
import Derived.Deep.RegionHeld3
import Derived.Deep.DeepCutAuto
import Derived.LaidMore
import Derived.Lay
import Derived.Stop.Joined
import Derived.SevenTiedAt
import Derived.Deep.DeepHandedRow
import Derived.Deep.DeepWitnessRowRef
import Derived.SizedLaws
import Derived.SliceStrings
import Derived.Test.YtdimkeknjhdjfabWish7
import Derived.Test.YtdimkeknjhdjfabFlats
import Derived.Test.YtdimkeknjhdjfabK6
import Derived.Test.YtdimkeknjhdjfabFlat
import Derived.Test.YtdimkeknjhdjfabFlats
import Derived.Test.YtdimkeknjhdjfabWish7
import Derived.Test.YtdimkeknjhdjfabLt17s
namespace Go.Proofs.Ytdimkeknjhdjfab.tilesSheet
open Go.ChangeShapes Go.WideShapes Go.ChangeAt Go.RowKit
open Go.ChangeMaps (open_string shut_string)
set_option linter.unusedVariables false

theorem own : ownKnob Try.prog.godebug = none := by kernel_rfl
theorem laidOut : laidOutB Try.prog = true := by kernel_rfl
theorem fits28 {l : List Value} (e : l.length = 3) (f : fitAll [(0, .int .i64), (1, .int .i64), (2, .int .i64)] l) :
    ∃ (x0 : Int) (x1 : Int) (x2 : Int), l = [.int .i64 x0, .int .i64 x1, .int .i64 x2] ∧ (Lit.int .i64 x0).wf = true ∧ (Lit.int .i64 x1).wf = true ∧ (Lit.int .i64 x2).wf = true := by
  match l, e with
  | [c0, c1, c2], _ =>
    obtain ⟨⟨v0, g0, x0, h0, w0⟩, ⟨v1, g1, x1, h1, w1⟩, ⟨v2, g2, x2, h2, w2⟩, _⟩ := f
    have e0 : c0 = v0 := Option.some.inj g0
    subst h0 e0
    have e1 : c1 = v1 := Option.some.inj g1
    subst h1 e1
    have e2 : c2 = v2 := Option.some.inj g2
    subst h2 e2
    exact ⟨x0, x1, x2, rfl, w0, w1, w2⟩

def el28 (x : Int × Int × Int) : List Value := [.int .i64 x.1, .int .i64 x.2.1, .int .i64 x.2.2]

set_option maxRecDepth 100000 in
set_option maxHeartbeats 8000000 in
theorem walk (a0 : Option Addr) (cap0 : Nat) (z0 : List Int) (a1 : Option Addr) (cap1 : Nat) (s1 : List (Int × Int × Int)) (w : World) (r0 : Row w a0 z0) (l0 : z0.length ≤ cap0) (m0 : cap0 ≤ maxLen) (b0 : z0.length ≤ 140737488355328) (n0 : a0 = none → cap0 = 0) (r1 : FRow w a1 3 (s1.map el28)) (q1 : ∀ x ∈ s1, (Lit.int .i64 x.1).wf = true ∧ (Lit.int .i64 x.2.1).wf = true ∧ (Lit.int .i64 x.2.2).wf = true) (l1 : s1.length ≤ cap1) (m1 : cap1 ≤ maxLen) (n1 : a1 = none → cap1 = 0) (b1 : s1.length * Try.prog.bytesOf 28 ≤ 140737488351232) :
    Calls Try.prog 3 #[.slice a0 z0.length cap0, .slice a1 s1.length cap1] w fun e w' => e = .returned (.bool true) ∧ Kept w w' := by
  exact sheet_any a0 cap0 z0 a1 cap1 s1 w r0 l0 m0 b0 n0 r1 l1 m1

set_option maxRecDepth 100000 in
theorem contract (H : Type) (enc : TypeId × Value → H) (fi : Stop.Interp) (W : World) (base : Nat) (args : Array Value) (ds gs : List (DataW H)) (before : List MemPlace)
    (hval : ∀ (j : Nat) t v, Try.f3.params[j]? = some t → args[j]? = some v → Value.okWide Try.prog W .any base t v)
    (hW : DataW.Whole enc Try.prog Try.f3.params.toList (OpenSpec.ofChange Rows.tilesSheetSpec).vars false W args.toList ds gs before)
    (hk0 : ∀ k, (OpenSpec.ofChange Rows.tilesSheetSpec).cond = some k → k H (ds ++ gs) = true)
    (hsz0 : (DataW.weightsEach Try.prog (Try.f3.params.toList ++ (OpenSpec.ofChange Rows.tilesSheetSpec).bare.plain.varTypes Try.prog) (ds ++ gs)).all (· ≤ reachBytes) = true) (hL : laidMetH Try.prog Rows.tilesSheetRow.laid W) :
    Calls Try.prog 3 args W fun e W' => ∃ v, e = .returned v ∧ ((OpenSpec.ofChange Rows.tilesSheetSpec).at fi).post enc Try.prog Try.f3 false true false false W args v W' := by
  have hW' := hW
  obtain ⟨p, q, hA0, hV, rfl, hfz, hnd⟩ := hW
  have hA : DataW.TrodAll enc Try.prog W 0 (fun _ => true) true Try.f3.params.toList args.toList ds p := hA0
  rw [Try.params3] at hA hval
  obtain ⟨v0, vs0, d0, ds0, p0, q0, hargs, rfl, rfl, h0, r0x⟩ := trodAll_cons hA
  obtain ⟨v1, vs1, d1, ds1, p1, q1, rfl, rfl, rfl, h1, r1x⟩ := trodAll_cons r0x
  obtain ⟨rfl, rfl, rfl⟩ := trodAll_nil r1x
  obtain rfl : args = #[v0, v1] := by cases args; simp_all
  obtain ⟨rfl, rfl⟩ := trodVars_none hV
  have hsz : (DataW.weightsEach Try.prog [22, 23] [d0, d1]).all (· ≤ reachBytes) = true := by
    have q := hsz0
    rw [show Try.f3.params.toList ++ (OpenSpec.ofChange Rows.tilesSheetSpec).bare.plain.varTypes Try.prog = [22, 23] by kernel_rfl] at q
    simpa using q
  obtain ⟨a0, len0, cap0, rfl⟩ := okWide_slice Try.underlying22 (hval 0 22 v0 rfl rfl)
  have k0 := h0
  have lt0 : ∀ x ∈ p0, x.block < W.heap.size := by obtain ⟨m, hm⟩ := k0; exact DataW.trod_lt m _ _ _ hm
  obtain ⟨z0, rfl, r0, l0, m0, b0, n0⟩ : ∃ zs : List Int, len0 = zs.length ∧ Row W a0 zs ∧ zs.length ≤ cap0 ∧ cap0 ≤ maxLen ∧ zs.length ≤ 140737488355328 ∧ (a0 = none → cap0 = 0) := by
    obtain ⟨fuel, hf⟩ := h0
    rcases open_ints Try.underlying22 Try.underlying5 (by kernel_rfl) hf with ⟨hcs, hx⟩ | ⟨x, l, c, zs, hcs, hb, hl, hm, hz, hx, hcell, hwz⟩
    · simp [Value.cells] at hcs
      obtain ⟨rfl, rfl, rfl⟩ := hcs
      exact ⟨[], rfl, row_nil7 W none, by simp, by simp, by simp, fun _ => rfl⟩
    · simp [Value.cells] at hcs
      obtain ⟨rfl, rfl, rfl⟩ := hcs
      simp only [if_true] at hz
      obtain ⟨hd, hp⟩ := Prod.mk.inj hx
      have tk : (zs.take len0).length = len0 := by rw [List.length_take, hz]; omega
      have sz := sized_slice (j := 0) (t := 22) (e := 5) hsz rfl (by rw [hd]; rfl) Try.underlying22
      rw [show Try.prog.bytesOf 5 = 1 by kernel_rfl] at sz
      have rl : reachBytes = 140737488351232 := rfl
      simp only [lits, List.length_map, tk] at sz
      refine ⟨zs.take len0, tk.symm, row_of7 (by omega) hcell (fun z hz => bounds_u8 (hwz z hz)) (by omega), by omega, hm, by omega, fun e => by cases e⟩

  have k1 := h1
  have lt1 : ∀ x ∈ p1, x.block < W.heap.size := by obtain ⟨m, hm⟩ := k1; exact DataW.trod_lt m _ _ _ hm
  obtain ⟨a1, len1, cap1, rfl⟩ := okWide_slice Try.underlying23 (hval 1 23 v1 rfl rfl)
  obtain ⟨fuel1, hf1⟩ := h1
  obtain ⟨a1x, cap1x, els1, ev1, r1, fe1, l1, m1, n1, b1x⟩ := open_flats (n := 8) (c := 3) (L := [(0, .int .i64), (1, .int .i64), (2, .int .i64)]) Try.underlying23 (by kernel_rfl) (by kernel_rfl) (by decide) hf1
  cases ev1
  have b1 := b1x (sized_part8 hsz (j := 1) (t := 23) rfl rfl)
  obtain ⟨s1, rfl, q1⟩ := list_choose (f := el28) (p := fun x => (Lit.int .i64 x.1).wf = true ∧ (Lit.int .i64 x.2.1).wf = true ∧ (Lit.int .i64 x.2.2).wf = true) els1 (fun cs hcs => by
    obtain ⟨y0, y1, y2, hx, g0, g1, g2⟩ := fits28 (fe1 cs hcs).1 (fe1 cs hcs).2
    exact ⟨(y0, y1, y2), hx, g0, g1, g2⟩)
  rw [List.length_map] at l1 b1
  simp only [List.length_map] at *
  clear hA0
  refine (walk a0 cap0 z0 a1 cap1 s1 W r0 l0 m0 b0 n0 r1 q1 l1 m1 n1 b1).mono fun e W' ⟨he, hg⟩ => ?_
  subst he
  exact ⟨_, rfl, _, _, _, [], _, [], hW', trodAll_mk1 (shut_bool Try.underlying4 _), (trodAll_cons_mk (Kept.trod laidOut (by kernel_rfl) (of_decide_eq_true (by kernel_rfl)) k0 hg lt0) (trodAll_cons_mk (Kept.trod laidOut (by kernel_rfl) (of_decide_eq_true (by kernel_rfl)) k1 hg lt1) trodAll_mk0)), rfl, hg.frame _, fun h => by cases h⟩
theorem start_met (os : Os) (args : Array Value) : laidMetH Try.prog Rows.tilesSheetRow.laid ((World.laidAll Try.prog os Rows.tilesSheetRow.laid).forCall (fun _ _ => 0) ⟨#[], args, []⟩).memory := by
  exact ⟨[], rfl, List.nodup_nil, fun _ _ h => by cases h⟩
theorem reads (os : Os) {H : Type} (enc : TypeId × Value → H) : ∃ places, DataW.whole enc Try.prog ((World.laidAll Try.prog os Rows.tilesSheetRow.laid).forCall (fun _ _ => 0) ⟨#[], #[.slice none 0 0, .slice none 0 0], []⟩).memory Try.f3.params.toList (OpenSpec.ofChange Rows.tilesSheetSpec).vars false #[.slice none 0 0, .slice none 0 0].toList 8 = some ([.nil, .nil], [], places) :=
  ⟨[], by kernel_rfl⟩
set_option maxRecDepth 100000 in
theorem lifted (os : Os) (started : os.Started) (H : Type) (enc : TypeId × Value → H) (fi : Stop.Interp) :
    ReturnsInHanded {} Try.checked os 3 .any ((OpenSpec.ofChange Rows.tilesSheetSpec).preRow enc Try.prog Try.f3 Rows.tilesSheetRow.domain false Rows.tilesSheetRow.laid) (((OpenSpec.ofChange Rows.tilesSheetSpec).at fi).post enc Try.prog Try.f3 false true false false) := by
  obtain ⟨places, hx⟩ := reads os enc
  refine returnsInHanded_of_row (C := Try.checked) (s := (OpenSpec.ofChange Rows.tilesSheetSpec)) own started (by kernel_rfl) Try.func3
    (witness_row_atRef (enc := enc) (C := Try.checked) false (World.laidAll Try.prog os Rows.tilesSheetRow.laid) #[.slice none 0 0, .slice none 0 0] (World.laidAll_os _ _ _) (by kernel_rfl) (by kernel_rfl) (by kernel_rfl)
      (OpenSpec.preRow_of_cond 8 hx (by kernel_rfl) (fun k hk => by cases hk) (by kernel_rfl) (start_met os _))) ?_
  intro W base args ds gs before hval hW _ hk hsz hL _ _
  exact contract H enc fi W base args ds gs before hval hW hk hsz hL
theorem said : Rows.TilesSheetSaid :=
  OpenClaim.holds_of_cond 3 Try.f3 rfl rfl rfl rfl rfl rfl rfl ⟨rfl, rfl, rfl, rfl, rfl⟩ rfl rfl rfl rfl rfl (by kernel_rfl) Try.func3 (by kernel_rfl)
    (of_decide_eq_true (by kernel_rfl)) (by unfold Func.isWrapper; first | (rw [if_pos (by decide +kernel)]; kernel_rfl) | (rw [if_neg (by decide +kernel)]; exact ⟨rfl, rfl⟩))
    (fun os started H enc _ fi => by rw [OpenClaim.pre_eq_preRow]; exact lifted os started H enc fi)
end Go.Proofs.Ytdimkeknjhdjfab.tilesSheet
namespace Go.Proofs.Ytdimkeknjhdjfab
theorem tilesSheet_holds : Rows.TilesSheetSaid := tilesSheet.said
end Go.Proofs.Ytdimkeknjhdjfab
