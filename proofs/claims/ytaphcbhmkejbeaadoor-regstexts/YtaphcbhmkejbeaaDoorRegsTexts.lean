/- All registers are written as the document says; the table of pairs is laid as the program's text lays it. -/
import Derived.Test.YtaphcbhmkejbeaaDoorRows
import Derived.WalkKit
import Derived.ProofKit
import Derived.OpenShut
import Derived.ShutString
import Derived.Deep.RegionHeld3
import Derived.Deep.DeepCutAuto
import Derived.LaidMore
import Derived.Stop.Joined
import Derived.SevenTiedAt
import Derived.Test.YtaphcbhmkejbeaaDoorCards
import Derived.Test.YtaphcbhmkejbeaaDoorTie
import Derived.Test.YtaphcbhmkejbeaaDoorLaidRegs
import Derived.Test.YtaphcbhmkejbeaaDoorFlat
import Derived.Test.YtaphcbhmkejbeaaDoorShown4
import Derived.Test.YtaphcbhmkejbeaaDoorRefText
namespace Go.Proofs.YtaphcbhmkejbeaaDoor.regsTexts
open Go.ChangeShapes Go.WideShapes Go.ChangeAt Go.RowKit
open Go.ChangeMaps (open_string shut_string)
set_option linter.unusedVariables false

theorem own : ownKnob Tryd.prog.godebug = none := by kernel_rfl
theorem fits24 {l : List Value} (e : l.length = 10) (f : fitAll [(0, .int .u8), (1, .int .u8), (2, .int .u8), (3, .int .u8), (4, .int .u8), (5, .int .u8), (6, .int .u8), (7, .int .u8), (8, .int .u16), (9, .int .u16)] l) :
    ∃ (x0 : Int) (x1 : Int) (x2 : Int) (x3 : Int) (x4 : Int) (x5 : Int) (x6 : Int) (x7 : Int) (x8 : Int) (x9 : Int), l = [.int .u8 x0, .int .u8 x1, .int .u8 x2, .int .u8 x3, .int .u8 x4, .int .u8 x5, .int .u8 x6, .int .u8 x7, .int .u16 x8, .int .u16 x9] ∧ (Lit.int .u8 x0).wf = true ∧ (Lit.int .u8 x1).wf = true ∧ (Lit.int .u8 x2).wf = true ∧ (Lit.int .u8 x3).wf = true ∧ (Lit.int .u8 x4).wf = true ∧ (Lit.int .u8 x5).wf = true ∧ (Lit.int .u8 x6).wf = true ∧ (Lit.int .u8 x7).wf = true ∧ (Lit.int .u16 x8).wf = true ∧ (Lit.int .u16 x9).wf = true := by
  match l, e with
  | [c0, c1, c2, c3, c4, c5, c6, c7, c8, c9], _ =>
    obtain ⟨⟨v0, g0, x0, h0, w0⟩, ⟨v1, g1, x1, h1, w1⟩, ⟨v2, g2, x2, h2, w2⟩, ⟨v3, g3, x3, h3, w3⟩, ⟨v4, g4, x4, h4, w4⟩, ⟨v5, g5, x5, h5, w5⟩, ⟨v6, g6, x6, h6, w6⟩, ⟨v7, g7, x7, h7, w7⟩, ⟨v8, g8, x8, h8, w8⟩, ⟨v9, g9, x9, h9, w9⟩, _⟩ := f
    have e0 : c0 = v0 := Option.some.inj g0
    subst h0 e0
    have e1 : c1 = v1 := Option.some.inj g1
    subst h1 e1
    have e2 : c2 = v2 := Option.some.inj g2
    subst h2 e2
    have e3 : c3 = v3 := Option.some.inj g3
    subst h3 e3
    have e4 : c4 = v4 := Option.some.inj g4
    subst h4 e4
    have e5 : c5 = v5 := Option.some.inj g5
    subst h5 e5
    have e6 : c6 = v6 := Option.some.inj g6
    subst h6 e6
    have e7 : c7 = v7 := Option.some.inj g7
    subst h7 e7
    have e8 : c8 = v8 := Option.some.inj g8
    subst h8 e8
    have e9 : c9 = v9 := Option.some.inj g9
    subst h9 e9
    exact ⟨x0, x1, x2, x3, x4, x5, x6, x7, x8, x9, rfl, w0, w1, w2, w3, w4, w5, w6, w7, w8, w9⟩

set_option maxRecDepth 100000 in
set_option maxHeartbeats 8000000 in
theorem walk (a0c0 : Int) (a0c1 : Int) (a0c2 : Int) (a0c3 : Int) (a0c4 : Int) (a0c5 : Int) (a0c6 : Int) (a0c7 : Int) (a0c8 : Int) (a0c9 : Int) (w0c0 : (Lit.int .u8 a0c0).wf = true) (w0c1 : (Lit.int .u8 a0c1).wf = true) (w0c2 : (Lit.int .u8 a0c2).wf = true) (w0c3 : (Lit.int .u8 a0c3).wf = true) (w0c4 : (Lit.int .u8 a0c4).wf = true) (w0c5 : (Lit.int .u8 a0c5).wf = true) (w0c6 : (Lit.int .u8 a0c6).wf = true) (w0c7 : (Lit.int .u8 a0c7).wf = true) (w0c8 : (Lit.int .u16 a0c8).wf = true) (w0c9 : (Lit.int .u16 a0c9).wf = true) (w : World) (lay : Has w 0 #[.string ⟨#[65, 70]⟩, .int .i64 4, .string ⟨#[66, 67]⟩, .int .i64 0, .string ⟨#[68, 69]⟩, .int .i64 1, .string ⟨#[72, 76]⟩, .int .i64 2, .string ⟨#[83, 80]⟩, .int .i64 3]) :
    Calls Tryd.prog 8 #[.agg #[.int .u8 a0c0, .int .u8 a0c1, .int .u8 a0c2, .int .u8 a0c3, .int .u8 a0c4, .int .u8 a0c5, .int .u8 a0c6, .int .u8 a0c7, .int .u16 a0c8, .int .u16 a0c9]] w fun e w' => e = .returned (.bool true) ∧ Grown w w' := by
  obtain ⟨r, rfl, rfl, rfl, rfl, rfl, rfl, rfl, rfl, rfl, rfl⟩ : ∃ r : Rg, r.a = a0c0 ∧ r.f = a0c1 ∧ r.b = a0c2 ∧ r.c = a0c3 ∧ r.d = a0c4 ∧ r.e = a0c5 ∧ r.h = a0c6 ∧ r.l = a0c7 ∧ r.s = a0c8 ∧ r.p = a0c9 := ⟨⟨a0c0, a0c1, a0c2, a0c3, a0c4, a0c5, a0c6, a0c7, a0c8, a0c9⟩, rfl, rfl, rfl, rfl, rfl, rfl, rfl, rfl, rfl, rfl⟩
  have ok : r.ok := ⟨bounds_u8 w0c0, bounds_u8 w0c1, bounds_u8 w0c2, bounds_u8 w0c3, bounds_u8 w0c4, bounds_u8 w0c5, bounds_u8 w0c6, bounds_u8 w0c7, bounds_u16 w0c8, bounds_u16 w0c9⟩
  go_enter Tryd.func8, Tryd.ntmps8
  go_wp2_with fail
  refine (shown4_any _ (has_past lay _)).mono ?_
  rintro e u1 ⟨rfl, g1⟩
  have B1n0x1 := has_grown g1 (has_alloc _ _ _)
  obtain ⟨zB1n0x1, cB1n0x1⟩ := id B1n0x1
  have G1 := hid (grown_trans ((Grown.refl w).alloc _ _) g1)
  have L1 := has_grown g1 (has_past lay (.cells #[.int .u8 r.a, .int .u8 r.f, .int .u8 r.b, .int .u8 r.c, .int .u8 r.d, .int .u8 r.e, .int .u8 r.h, .int .u8 r.l, .int .u16 r.s, .int .u16 r.p] 24))
  go_wp2
  go_region_held3 (fun w' => w.heap.size < w'.heap.size ∧ w'.cell? ⟨w.heap.size, 0, none⟩ = some (.int .u8 r.a) ∧ w'.cell? ⟨w.heap.size, 1, none⟩ = some (.int .u8 r.f) ∧ w'.cell? ⟨w.heap.size, 2, none⟩ = some (.int .u8 r.b) ∧ w'.cell? ⟨w.heap.size, 3, none⟩ = some (.int .u8 r.c) ∧ w'.cell? ⟨w.heap.size, 4, none⟩ = some (.int .u8 r.d) ∧ w'.cell? ⟨w.heap.size, 5, none⟩ = some (.int .u8 r.e) ∧ w'.cell? ⟨w.heap.size, 6, none⟩ = some (.int .u8 r.h) ∧ w'.cell? ⟨w.heap.size, 7, none⟩ = some (.int .u8 r.l) ∧ w'.cell? ⟨w.heap.size, 8, none⟩ = some (.int .u16 r.s) ∧ w'.cell? ⟨w.heap.size, 9, none⟩ = some (.int .u16 r.p)) (go_keep) (first | (go_at_call 24; refine (text_any r _ ok (by first | exact L1 | exact has_drew L1)).mono ?_; rintro e v1 ⟨rfl, q1⟩; have D1l := has_grown q1 L1; have D1b0 := has_grown q1 B1n0x1; obtain ⟨zD1b0, cD1b0⟩ := id D1b0) | (go_at_call 25; refine (rtext_any r _ ok).mono ?_; rintro e v2 ⟨rfl, q2⟩; have D2l := has_grown q2 D1l; have D2b0 := has_grown q2 D1b0; obtain ⟨zD2b0, cD2b0⟩ := id D2b0))
  all_goals
    go_wp2
    go_ret
    exact ⟨rfl, grown_trans (grown_trans G1.out q1) q2⟩

set_option maxRecDepth 100000 in
theorem lifted (os : Os) (started : os.Started) (H : Type) (enc : TypeId × Value → H) :
    ReturnsInHanded {} Tryd.checked os 8 .any (fun w args => (Rows.regsTextsSpec.pre enc Tryd.prog Tryd.f8 [] false w args ∧ laidMetH Tryd.prog Rows.regsTextsRow.laid w) ∧ sizedMet enc Tryd.prog Tryd.f8 (OpenSpec.ofChange Rows.regsTextsSpec) false w args) (Rows.regsTextsSpec.post enc Tryd.prog Tryd.f8 false true false false) := by
  refine returnsInHanded_of_change_and (C := Tryd.checked) (X := fun w _ => laidMetH Tryd.prog Rows.regsTextsRow.laid w) (fun _ _ _ hh h => h.of_heap hh) own started (by kernel_rfl) Tryd.func8
    (ChangeSpec.witness_shaped (enc := enc) (C := Tryd.checked) (os := os) (X := fun w _ => laidMetH Tryd.prog Rows.regsTextsRow.laid w) false (World.doorLaid Tryd.prog 400 os) #[.agg #[.int .u8 0, .int .u8 0, .int .u8 0, .int .u8 0, .int .u8 0, .int .u8 0, .int .u8 0, .int .u8 0, .int .u16 0, .int .u16 0]] 8 rfl (World.shaped_of_RefB (by kernel_rfl) (by kernel_rfl)) (by kernel_rfl) (by kernel_rfl) (by kernel_rfl) (door_met os _)) ?_
  intro W base args ds gs before hval0 hW _ _ hL _
  have hval : ∀ (j : Nat) t v, Tryd.f8.params[j]? = some t → args[j]? = some v → Value.okWide Tryd.prog W .any base t v := hval0
  have hW' := hW
  obtain ⟨p, q, hA0, hV, rfl, hfz, hnd⟩ := hW
  have hA : DataW.TrodAll enc Tryd.prog W 0 (fun _ => true) true Tryd.f8.params.toList args.toList ds p := hA0
  rw [Tryd.params8] at hA hval
  obtain ⟨v0, vs0, d0, ds0, p0, q0, hargs, rfl, rfl, h0, r0⟩ := trodAll_cons hA
  obtain ⟨rfl, rfl, rfl⟩ := trodAll_nil r0
  obtain rfl : args = #[v0] := by cases args; simp_all
  obtain ⟨rfl, rfl⟩ := trodVars_none hV
  obtain ⟨rfl, ⟨l0, rfl, e0, f0⟩, k0⟩ := flat_open (n := 8) (c := 10) (L := [(0, .int .u8), (1, .int .u8), (2, .int .u8), (3, .int .u8), (4, .int .u8), (5, .int .u8), (6, .int .u8), (7, .int .u8), (8, .int .u16), (9, .int .u16)]) Tryd.underlying24 (by kernel_rfl) (by kernel_rfl) (hval 0 24 v0 rfl rfl) h0
  obtain ⟨a0c0, a0c1, a0c2, a0c3, a0c4, a0c5, a0c6, a0c7, a0c8, a0c9, rfl, w0c0, w0c1, w0c2, w0c3, w0c4, w0c5, w0c6, w0c7, w0c8, w0c9⟩ := fits24 e0 f0
  clear hA0 hval0
  simp only [List.append_nil] at hW'
  refine (walk a0c0 a0c1 a0c2 a0c3 a0c4 a0c5 a0c6 a0c7 a0c8 a0c9 w0c0 w0c1 w0c2 w0c3 w0c4 w0c5 w0c6 w0c7 w0c8 w0c9 W (of_laid hL)).mono fun e W' ⟨he, hg⟩ => ?_
  subst he
  exact ⟨_, rfl, post_of_same (pa := []) (pv := []) hW' (fun _ _ _ => (trodAll_cons_mk (shut_bool Tryd.underlying4 _) trodAll_mk0)) (fun sp _ => (trodAll_cons_mk (k0 _ _ _ _) trodAll_mk0)) (fun _ _ => rfl) rfl
    (hg.frame _) hg.2.1 (ok_one (by kernel_rfl) rfl (okWide_bool_mk Tryd.underlying4 _))⟩

theorem over : Rows.regsTextsRow.holds Tryd.pinned (OpenSpec.ofChange Rows.regsTextsSpec) :=
  OpenClaim.holds_of_wide 8 Tryd.f8 rfl rfl rfl rfl rfl rfl rfl ⟨rfl, rfl, rfl, rfl, rfl⟩ rfl rfl rfl rfl rfl (by kernel_rfl) Tryd.func8 (by kernel_rfl)
    (of_decide_eq_true (by kernel_rfl)) (by unfold Func.isWrapper; first | (rw [if_pos (by decide +kernel)]; kernel_rfl) | (rw [if_neg (by decide +kernel)]; exact ⟨rfl, rfl⟩))
    (fun os started H enc _ => lifted os started H enc)

theorem card : Rows.RegsTextsCardSaid :=
  Claim7.holds_tied_plain_at .later [] Rows.regsTextsCard.laidKinds true Rows.regsTextsCard.stood.harness false
    over (fun _ h => by cases h) (by kernel_rfl) (fun _ h => by cases h) regsTexts_row_tie rfl ⟨rfl, rfl⟩ (by kernel_rfl) rfl
    (fun f fn hf hfn => by
      obtain rfl : f = 8 := Option.some.inj ((show Tryd.prog.funcNamed Rows.regsTextsRow.func = some 8 by kernel_rfl).symm.trans hf) |>.symm
      obtain rfl : fn = Tryd.f8 := (Option.some.inj (Tryd.func8.symm.trans hfn)).symm
      exact ⟨by kernel_rfl, fun j t ht => by
        rw [Tryd.params8] at ht
        have hm : t ∈ [24] := by simpa using Array.mem_of_getElem? ht
        have hall : ([24].all fun u => !Tryd.prog.wantsStandIn u) = true := by kernel_rfl
        exact (show Tryd.prog.wantsStandIn t = false by simpa using List.all_eq_true.1 hall t hm)⟩)
    (by kernel_rfl)
end Go.Proofs.YtaphcbhmkejbeaaDoor.regsTexts
namespace Go.Proofs.YtaphcbhmkejbeaaDoor
theorem regsTexts_holds : Rows.RegsTextsCardSaid := regsTexts.card
end Go.Proofs.YtaphcbhmkejbeaaDoor
