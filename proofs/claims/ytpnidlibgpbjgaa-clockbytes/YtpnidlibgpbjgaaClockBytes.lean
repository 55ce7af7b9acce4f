/- For every two clocks: the law ClockBytes returns true (no condition). -/
import Derived.Test.YtpnidlibgpbjgaaRows
import Derived.WalkKit
import Derived.ProofKit
import Derived.OpenShut
import Derived.ShutString
import Derived.ChangeOld
import Derived.Deep.RegionHeld3
import Derived.Deep.DeepCutAuto
import Derived.LaidMore
import Derived.Lay
import Derived.Stop.Joined
import Derived.SevenTiedAt
import Derived.Deep.DeepHandedRow
import Derived.Deep.DeepWitnessRowRef
import Derived.SizedLaws
import Derived.SliceStrings
import Derived.Test.YtpnidlibgpbjgaaFlat
import Derived.Test.YtpnidlibgpbjgaaK6
import Derived.Test.YtpnidlibgpbjgaaShown9
import Derived.Test.YtpnidlibgpbjgaaConv7
import Derived.Test.YtpnidlibgpbjgaaPg9d
namespace Go.Proofs.Ytpnidlibgpbjgaa.clockBytes
open Go.ChangeShapes Go.WideShapes Go.ChangeAt Go.RowKit
open Go.ChangeMaps (open_string shut_string)
set_option linter.unusedVariables false

theorem own : ownKnob Try.prog.godebug = none := by kernel_rfl
theorem laidOut : laidOutB Try.prog = true := by kernel_rfl
theorem fits24 {l : List Value} (e : l.length = 6) (f : fitAll [(0, .int .u8), (1, .int .u8), (2, .int .u8), (3, .int .u16), (4, .bool), (5, .bool)] l) :
    ∃ (x0 : Int) (x1 : Int) (x2 : Int) (x3 : Int) (x4 : Bool) (x5 : Bool), l = [.int .u8 x0, .int .u8 x1, .int .u8 x2, .int .u16 x3, .bool x4, .bool x5] ∧ (Lit.int .u8 x0).wf = true ∧ (Lit.int .u8 x1).wf = true ∧ (Lit.int .u8 x2).wf = true ∧ (Lit.int .u16 x3).wf = true := by
  match l, e with
  | [c0, c1, c2, c3, c4, c5], _ =>
    obtain ⟨⟨v0, g0, x0, h0, w0⟩, ⟨v1, g1, x1, h1, w1⟩, ⟨v2, g2, x2, h2, w2⟩, ⟨v3, g3, x3, h3, w3⟩, ⟨v4, g4, x4, h4⟩, ⟨v5, g5, x5, h5⟩, _⟩ := f
    have e0 : c0 = v0 := Option.some.inj g0
    subst h0 e0
    have e1 : c1 = v1 := Option.some.inj g1
    subst h1 e1
    have e2 : c2 = v2 := Option.some.inj g2
    subst h2 e2
    have e3 : c3 = v3 := Option.some.inj g3
    subst h3 e3
    have e4 : c4 = v4 := Option.some.inj g4
    subst h4 e4
    have e5 : c5 = v5 := Option.some.inj g5
    subst h5 e5
    exact ⟨x0, x1, x2, x3, x4, x5, rfl, w0, w1, w2, w3⟩
theorem conv_nil9 (w : World) : (convert 41 9 (.slice none 0 0)).run Try.prog w = .ok (.string (strB [])) w := by kernel_rfl
theorem conv_own9 {w : World} {base : Nat} {v : Value} {L : List Int} (o : w.ownsRow base 5 1 v L.length (L.map (Value.int .u8))) : (convert 41 9 v).run Try.prog w = .ok (.string (strB L)) w := by
  rcases id o.2 with ⟨rfl, q⟩ | ⟨g, cap, cur, rfl, _⟩
  · obtain rfl := List.eq_nil_of_length_eq_zero q
    exact conv_nil9 w
  · exact conv_cells w _ cap L (o.cells rfl)

set_option maxRecDepth 100000 in
set_option maxHeartbeats 8000000 in
theorem walk (a0c0 : Int) (a0c1 : Int) (a0c2 : Int) (a0c3 : Int) (a0c4 : Bool) (a0c5 : Bool) (a1c0 : Int) (a1c1 : Int) (a1c2 : Int) (a1c3 : Int) (a1c4 : Bool) (a1c5 : Bool) (w : World) (w0c0 : (Lit.int .u8 a0c0).wf = true) (w0c1 : (Lit.int .u8 a0c1).wf = true) (w0c2 : (Lit.int .u8 a0c2).wf = true) (w0c3 : (Lit.int .u16 a0c3).wf = true) (w1c0 : (Lit.int .u8 a1c0).wf = true) (w1c1 : (Lit.int .u8 a1c1).wf = true) (w1c2 : (Lit.int .u8 a1c2).wf = true) (w1c3 : (Lit.int .u16 a1c3).wf = true) :
    Calls Try.prog 7 #[.agg #[.int .u8 a0c0, .int .u8 a0c1, .int .u8 a0c2, .int .u16 a0c3, .bool a0c4, .bool a0c5], .agg #[.int .u8 a1c0, .int .u8 a1c1, .int .u8 a1c2, .int .u16 a1c3, .bool a1c4, .bool a1c5]] w fun e w' => e = .returned (.bool true) ∧ Kept w w' := by
  have CI : CkIn ⟨a0c0, a0c1, a0c2, a0c3, a0c4, a0c5⟩ := ⟨(bounds_u8 w0c0).1, (bounds_u8 w0c0).2, (bounds_u8 w0c1).1, (bounds_u8 w0c1).2, (bounds_u8 w0c2).1, (bounds_u8 w0c2).2, (bounds_u16 w0c3).1, (bounds_u16 w0c3).2⟩
  have CJ : CkIn ⟨a1c0, a1c1, a1c2, a1c3, a1c4, a1c5⟩ := ⟨(bounds_u8 w1c0).1, (bounds_u8 w1c0).2, (bounds_u8 w1c1).1, (bounds_u8 w1c1).2, (bounds_u8 w1c2).1, (bounds_u8 w1c2).2, (bounds_u16 w1c3).1, (bounds_u16 w1c3).2⟩
  have S := hid (fun u => shown9 u)
  have A := hid (fun u => cbytes_any ⟨a0c0, a0c1, a0c2, a0c3, a0c4, a0c5⟩ ⟨a1c0, a1c1, a1c2, a1c3, a1c4, a1c5⟩ u CI CJ)
  have B := hid (fun u => rbytes_any ⟨a0c0, a0c1, a0c2, a0c3, a0c4, a0c5⟩ ⟨a1c0, a1c1, a1c2, a1c3, a1c4, a1c5⟩ u CI CJ)
  generalize bytesL ⟨a0c0, a0c1, a0c2, a0c3, a0c4, a0c5⟩ ⟨a1c0, a1c1, a1c2, a1c3, a1c4, a1c5⟩ = L at *
  go_enter Try.func7, Try.ntmps7
  go_wp2_with fail
  refine (S.out _).mono ?_
  rintro e u1 ⟨rfl, k1⟩
  have K1 := hid ((((Kept.refl w).alloc (.cells #[.int .u8 a0c0, .int .u8 a0c1, .int .u8 a0c2, .int .u16 a0c3, .bool a0c4, .bool a0c5] 24)).alloc (.cells #[.int .u8 a1c0, .int .u8 a1c1, .int .u8 a1c2, .int .u16 a1c3, .bool a1c4, .bool a1c5] 24)).trans k1)
  have H1b0 := hid (hasK k1 (has_past (has_alloc w #[.int .u8 a0c0, .int .u8 a0c1, .int .u8 a0c2, .int .u16 a0c3, .bool a0c4, .bool a0c5] 24) (.cells #[.int .u8 a1c0, .int .u8 a1c1, .int .u8 a1c2, .int .u16 a1c3, .bool a1c4, .bool a1c5] 24)))
  have H1b1 := hid (hasK k1 (has_alloc (w.alloc (.cells #[.int .u8 a0c0, .int .u8 a0c1, .int .u8 a0c2, .int .u16 a0c3, .bool a0c4, .bool a0c5] 24)) #[.int .u8 a1c0, .int .u8 a1c1, .int .u8 a1c2, .int .u16 a1c3, .bool a1c4, .bool a1c5] 24))
  simp only [World.size_alloc] at H1b1
  obtain ⟨z1b0, c1b0⟩ := id H1b0.out
  have f1b0c0 := c1b0 0
  have f1b0c1 := c1b0 1
  have f1b0c2 := c1b0 2
  have f1b0c3 := c1b0 3
  have f1b0c4 := c1b0 4
  have f1b0c5 := c1b0 5
  simp at f1b0c0 f1b0c1 f1b0c2 f1b0c3 f1b0c4 f1b0c5
  clear c1b0
  obtain ⟨z1b1, c1b1⟩ := id H1b1.out
  have f1b1c0 := c1b1 0
  have f1b1c1 := c1b1 1
  have f1b1c2 := c1b1 2
  have f1b1c3 := c1b1 3
  have f1b1c4 := c1b1 4
  have f1b1c5 := c1b1 5
  simp at f1b1c0 f1b1c1 f1b1c2 f1b1c3 f1b1c4 f1b1c5
  clear c1b1
  clear k1
  go_wp2_with fail
  go_region_held (fun w' => w.heap.size < w'.heap.size ∧ w'.cell? ⟨w.heap.size, 0, none⟩ = some (.int .u8 a0c0) ∧ w'.cell? ⟨w.heap.size, 1, none⟩ = some (.int .u8 a0c1) ∧ w'.cell? ⟨w.heap.size, 2, none⟩ = some (.int .u8 a0c2) ∧ w'.cell? ⟨w.heap.size, 3, none⟩ = some (.int .u16 a0c3) ∧ w'.cell? ⟨w.heap.size, 4, none⟩ = some (.bool a0c4) ∧ w'.cell? ⟨w.heap.size, 5, none⟩ = some (.bool a0c5) ∧ w.heap.size + 1 < w'.heap.size ∧ w'.cell? ⟨w.heap.size + 1, 0, none⟩ = some (.int .u8 a1c0) ∧ w'.cell? ⟨w.heap.size + 1, 1, none⟩ = some (.int .u8 a1c1) ∧ w'.cell? ⟨w.heap.size + 1, 2, none⟩ = some (.int .u8 a1c2) ∧ w'.cell? ⟨w.heap.size + 1, 3, none⟩ = some (.int .u16 a1c3) ∧ w'.cell? ⟨w.heap.size + 1, 4, none⟩ = some (.bool a1c4) ∧ w'.cell? ⟨w.heap.size + 1, 5, none⟩ = some (.bool a1c5)) (go_keep) (first | (go_at_call 20; refine (A.out _).mono ?_; rintro e v1 ⟨x1, rfl, o1, q1⟩; have D1b0 := hasK q1 H1b0.out; obtain ⟨zD1b0, cD1b0⟩ := id D1b0; have D1b1 := hasK q1 H1b1.out; obtain ⟨zD1b1, cD1b1⟩ := id D1b1; have cv1 := conv_own9 o1) | (go_at_call 21; refine (B.out _).mono ?_; rintro e v2 ⟨x2, rfl, o2, q2⟩; have D2b0 := hasK q2 D1b0; obtain ⟨zD2b0, cD2b0⟩ := id D2b0; have D2b1 := hasK q2 D1b1; obtain ⟨zD2b1, cD2b1⟩ := id D2b1; have cv2 := conv_own9 o2; have cv3 := conv_own9 (owns_kept q2 o1)))
  all_goals
    go_wp2
    go_ret
    exact ⟨rfl, (K1.out.drew.trans q1).trans q2⟩

set_option maxRecDepth 100000 in
theorem contract (H : Type) (enc : TypeId × Value → H) (fi : Stop.Interp) (W : World) (base : Nat) (args : Array Value) (ds gs : List (DataW H)) (before : List MemPlace)
    (hval : ∀ (j : Nat) t v, Try.f7.params[j]? = some t → args[j]? = some v → Value.okWide Try.prog W .any base t v)
    (hW : DataW.Whole enc Try.prog Try.f7.params.toList (OpenSpec.ofChange Rows.clockBytesSpec).vars false W args.toList ds gs before)
    (hk0 : ∀ k, (OpenSpec.ofChange Rows.clockBytesSpec).cond = some k → k H (ds ++ gs) = true)
    (hsz0 : (DataW.weightsEach Try.prog (Try.f7.params.toList ++ (OpenSpec.ofChange Rows.clockBytesSpec).bare.plain.varTypes Try.prog) (ds ++ gs)).all (· ≤ reachBytes) = true) (hL : laidMetH Try.prog Rows.clockBytesRow.laid W) :
    Calls Try.prog 7 args W fun e W' => ∃ v, e = .returned v ∧ ((OpenSpec.ofChange Rows.clockBytesSpec).at fi).post enc Try.prog Try.f7 false true false false W args v W' := by
  have hW' := hW
  obtain ⟨p, q, hA0, hV, rfl, hfz, hnd⟩ := hW
  have hA : DataW.TrodAll enc Try.prog W 0 (fun _ => true) true Try.f7.params.toList args.toList ds p := hA0
  rw [Try.params7] at hA hval
  obtain ⟨v0, vs0, d0, ds0, p0, q0, hargs, rfl, rfl, h0, r0x⟩ := trodAll_cons hA
  obtain ⟨v1, vs1, d1, ds1, p1, q1, rfl, rfl, rfl, h1, r1x⟩ := trodAll_cons r0x
  obtain ⟨rfl, rfl, rfl⟩ := trodAll_nil r1x
  obtain rfl : args = #[v0, v1] := by cases args; simp_all
  obtain ⟨rfl, rfl⟩ := trodVars_none hV
  have hsz : (DataW.weightsEach Try.prog [24, 24] [d0, d1]).all (· ≤ reachBytes) = true := by
    have q := hsz0
    rw [show Try.f7.params.toList ++ (OpenSpec.ofChange Rows.clockBytesSpec).bare.plain.varTypes Try.prog = [24, 24] by kernel_rfl] at q
    simpa using q
  obtain ⟨rfl, ⟨l0, rfl, e0, f0⟩, k0⟩ := flat_open (n := 8) (c := 6) (L := [(0, .int .u8), (1, .int .u8), (2, .int .u8), (3, .int .u16), (4, .bool), (5, .bool)]) Try.underlying24 (by kernel_rfl) (by kernel_rfl) (hval 0 24 v0 rfl rfl) h0
  obtain ⟨a0c0, a0c1, a0c2, a0c3, a0c4, a0c5, rfl, w0c0, w0c1, w0c2, w0c3⟩ := fits24 e0 f0
  obtain ⟨rfl, ⟨l1, rfl, e1, f1⟩, k1⟩ := flat_open (n := 8) (c := 6) (L := [(0, .int .u8), (1, .int .u8), (2, .int .u8), (3, .int .u16), (4, .bool), (5, .bool)]) Try.underlying24 (by kernel_rfl) (by kernel_rfl) (hval 1 24 v1 rfl rfl) h1
  obtain ⟨a1c0, a1c1, a1c2, a1c3, a1c4, a1c5, rfl, w1c0, w1c1, w1c2, w1c3⟩ := fits24 e1 f1
  clear hA0
  refine (walk a0c0 a0c1 a0c2 a0c3 a0c4 a0c5 a1c0 a1c1 a1c2 a1c3 a1c4 a1c5 W w0c0 w0c1 w0c2 w0c3 w1c0 w1c1 w1c2 w1c3).mono fun e W' ⟨he, hg⟩ => ?_
  subst he
  exact ⟨_, rfl, _, _, _, [], _, [], hW', trodAll_mk1 (shut_bool Try.underlying4 _), (trodAll_cons_mk (k0 _ _ _ _) (trodAll_cons_mk (k1 _ _ _ _) trodAll_mk0)), rfl, hg.frame _, fun h => by cases h⟩
theorem start_met (os : Os) (args : Array Value) : laidMetH Try.prog Rows.clockBytesRow.laid ((World.laidAll Try.prog os Rows.clockBytesRow.laid).forCall (fun _ _ => 0) ⟨#[], args, []⟩).memory := by
  exact ⟨[], rfl, List.nodup_nil, fun _ _ h => by cases h⟩
theorem reads (os : Os) {H : Type} (enc : TypeId × Value → H) : ∃ places, DataW.whole enc Try.prog ((World.laidAll Try.prog os Rows.clockBytesRow.laid).forCall (fun _ _ => 0) ⟨#[], #[.agg #[.int .u8 0, .int .u8 0, .int .u8 0, .int .u16 0, .bool false, .bool false], .agg #[.int .u8 0, .int .u8 0, .int .u8 0, .int .u16 0, .bool false, .bool false]], []⟩).memory Try.f7.params.toList (OpenSpec.ofChange Rows.clockBytesSpec).vars false #[.agg #[.int .u8 0, .int .u8 0, .int .u8 0, .int .u16 0, .bool false, .bool false], .agg #[.int .u8 0, .int .u8 0, .int .u8 0, .int .u16 0, .bool false, .bool false]].toList 8 = some ([.agg [.lit (.int .u8 0), .lit (.int .u8 0), .lit (.int .u8 0), .lit (.int .u16 0), .lit (.bool false), .lit (.bool false)], .agg [.lit (.int .u8 0), .lit (.int .u8 0), .lit (.int .u8 0), .lit (.int .u16 0), .lit (.bool false), .lit (.bool false)]], [], places) :=
  ⟨[], by kernel_rfl⟩
set_option maxRecDepth 100000 in
theorem lifted (os : Os) (started : os.Started) (H : Type) (enc : TypeId × Value → H) (fi : Stop.Interp) :
    ReturnsInHanded {} Try.checked os 7 .any ((OpenSpec.ofChange Rows.clockBytesSpec).preRow enc Try.prog Try.f7 Rows.clockBytesRow.domain false Rows.clockBytesRow.laid) (((OpenSpec.ofChange Rows.clockBytesSpec).at fi).post enc Try.prog Try.f7 false true false false) := by
  obtain ⟨places, hx⟩ := reads os enc
  refine returnsInHanded_of_row (C := Try.checked) (s := (OpenSpec.ofChange Rows.clockBytesSpec)) own started (by kernel_rfl) Try.func7
    (witness_row_atRef (enc := enc) (C := Try.checked) false (World.laidAll Try.prog os Rows.clockBytesRow.laid) #[.agg #[.int .u8 0, .int .u8 0, .int .u8 0, .int .u16 0, .bool false, .bool false], .agg #[.int .u8 0, .int .u8 0, .int .u8 0, .int .u16 0, .bool false, .bool false]] (World.laidAll_os _ _ _) (by kernel_rfl) (by kernel_rfl) (by kernel_rfl)
      (OpenSpec.preRow_of_cond 8 hx (by kernel_rfl) (fun k hk => by cases hk) (by kernel_rfl) (start_met os _))) ?_
  intro W base args ds gs before hval hW _ hk hsz hL _ _
  exact contract H enc fi W base args ds gs before hval hW hk hsz hL
theorem said : Rows.ClockBytesSaid :=
  OpenClaim.holds_of_cond 7 Try.f7 rfl rfl rfl rfl rfl rfl rfl ⟨rfl, rfl, rfl, rfl, rfl⟩ rfl rfl rfl rfl rfl (by kernel_rfl) Try.func7 (by kernel_rfl)
    (of_decide_eq_true (by kernel_rfl)) (by unfold Func.isWrapper; first | (rw [if_pos (by decide +kernel)]; kernel_rfl) | (rw [if_neg (by decide +kernel)]; exact ⟨rfl, rfl⟩))
    (fun os started H enc _ fi => by rw [OpenClaim.pre_eq_preRow]; exact lifted os started H enc fi)
end Go.Proofs.Ytpnidlibgpbjgaa.clockBytes
namespace Go.Proofs.Ytpnidlibgpbjgaa
theorem clockBytes_holds : Rows.ClockBytesSaid := clockBytes.said
end Go.Proofs.Ytpnidlibgpbjgaa
