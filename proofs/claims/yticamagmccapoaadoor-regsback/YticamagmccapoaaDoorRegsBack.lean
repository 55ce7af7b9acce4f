/- What was put is got, flags too; registers that were written are read as they were. -/
import Derived.Test.YticamagmccapoaaDoorRows
import Derived.WalkKit
import Derived.ProofKit
import Derived.OpenShut
import Derived.ShutString
import Derived.Deep.RegionHeld3
import Derived.Deep.DeepCutAuto
import Derived.LaidMore
import Derived.Stop.Joined
import Derived.SevenTiedAt
import Derived.Test.YticamagmccapoaaDoorCards
import Derived.Test.YticamagmccapoaaDoorTie
import Derived.Test.YticamagmccapoaaDoorLaidRegs
import Derived.Test.YticamagmccapoaaDoorFlat
import Derived.Test.YticamagmccapoaaDoorShown4
import Derived.Test.YticamagmccapoaaDoorRegs2
import Derived.Test.YticamagmccapoaaDoorRgBack
namespace Go.Proofs.YticamagmccapoaaDoor.regsBack
open Go.ChangeShapes Go.WideShapes Go.ChangeAt Go.RowKit
open Go.ChangeMaps (open_string shut_string)
set_option linter.unusedVariables false

theorem own : ownKnob Tryd.prog.godebug = none := by kernel_rfl
theorem fits25 {l : List Value} (e : l.length = 10) (f : fitAll [(0, .int .u8), (1, .int .u8), (2, .int .u8), (3, .int .u8), (4, .int .u8), (5, .int .u8), (6, .int .u8), (7, .int .u8), (8, .int .u16), (9, .int .u16)] l) :
    ∃ (x0 : Int) (x1 : Int) (x2 : Int) (x3 : Int) (x4 : Int) (x5 : Int) (x6 : Int) (x7 : Int) (x8 : Int) (x9 : Int), l = [.int .u8 x0, .int .u8 x1, .int .u8 x2, .int .u8 x3, .int .u8 x4, .int .u8 x5, .int .u8 x6, .int .u8 x7, .int .u16 x8, .int .u16 x9] ∧ (Lit.int .u8 x0).wf = true ∧ (Lit.int .u8 x1).wf = true ∧ (Lit.int .u8 x2).wf = true ∧ (Lit.int .u8 x3).wf = true ∧ (Lit.int .u8 x4).wf = true ∧ (Lit.int .u8 x5).wf = true ∧ (Lit.int .u8 x6).wf = true ∧ (Lit.int .u8 x7).wf = true ∧ (Lit.int .u16 x8).wf = true ∧ (Lit.int .u16 x9).wf = true := by
  match l, e with
  | [c0, c1, c2, c3, c4, c5, c6, c7, c8, c9], _ =>
    obtain ⟨⟨v0, g0, x0, h0, w0⟩, ⟨v1, g1, x1, h1, w1⟩, ⟨v2, g2, x2, h2, w2⟩, ⟨v3, g3, x3, h3, w3⟩, ⟨v4, g4, x4, h4, w4⟩, ⟨v5, g5, x5, h5, w5⟩, ⟨v6, g6, x6, h6, w6⟩, ⟨v7, g7, x7, h7, w7⟩, ⟨v8, g8, x8, h8, w8⟩, ⟨v9, g9, x9, h9, w9⟩, _⟩ := f
    have e0 : c0 = v0 := Option.some.inj g0
    subst h0 e0
    have e1 : c1 = v1 := Option.some.inj g1
    subst h1 e1
    have e2 : c2 = v2 := Option.some.inj g2
    subst h2 e2
    have e3 : c3 = v3 := Option.some.inj g3
    subst h3 e3
    have e4 : c4 = v4 := Option.some.inj g4
    subst h4 e4
    have e5 : c5 = v5 := Option.some.inj g5
    subst h5 e5
    have e6 : c6 = v6 := Option.some.inj g6
    subst h6 e6
    have e7 : c7 = v7 := Option.some.inj g7
    subst h7 e7
    have e8 : c8 = v8 := Option.some.inj g8
    subst h8 e8
    have e9 : c9 = v9 := Option.some.inj g9
    subst h9 e9
    exact ⟨x0, x1, x2, x3, x4, x5, x6, x7, x8, x9, rfl, w0, w1, w2, w3, w4, w5, w6, w7, w8, w9⟩

set_option maxRecDepth 100000 in
set_option maxHeartbeats 8000000 in
theorem walk (a0c0 : Int) (a0c1 : Int) (a0c2 : Int) (a0c3 : Int) (a0c4 : Int) (a0c5 : Int) (a0c6 : Int) (a0c7 : Int) (a0c8 : Int) (a0c9 : Int) (a1 : Int) (a2 : Int) (w0c0 : (Lit.int .u8 a0c0).wf = true) (w0c1 : (Lit.int .u8 a0c1).wf = true) (w0c2 : (Lit.int .u8 a0c2).wf = true) (w0c3 : (Lit.int .u8 a0c3).wf = true) (w0c4 : (Lit.int .u8 a0c4).wf = true) (w0c5 : (Lit.int .u8 a0c5).wf = true) (w0c6 : (Lit.int .u8 a0c6).wf = true) (w0c7 : (Lit.int .u8 a0c7).wf = true) (w0c8 : (Lit.int .u16 a0c8).wf = true) (w0c9 : (Lit.int .u16 a0c9).wf = true) (w1 : (Lit.int .u8 a1).wf = true) (w2 : (Lit.int .u8 a2).wf = true) (w : World) (lay : Has w 0 #[.string ⟨#[65, 70]⟩, .int .i64 4, .string ⟨#[66, 67]⟩, .int .i64 0, .string ⟨#[68, 69]⟩, .int .i64 1, .string ⟨#[72, 76]⟩, .int .i64 2, .string ⟨#[83, 80]⟩, .int .i64 3]) :
    Calls Tryd.prog 4 #[.agg #[.int .u8 a0c0, .int .u8 a0c1, .int .u8 a0c2, .int .u8 a0c3, .int .u8 a0c4, .int .u8 a0c5, .int .u8 a0c6, .int .u8 a0c7, .int .u16 a0c8, .int .u16 a0c9], .int .u8 a1, .int .u8 a2] w fun e w' => e = .returned (.bool true) ∧ Grown w w' := by
  obtain ⟨r, rfl, rfl, rfl, rfl, rfl, rfl, rfl, rfl, rfl, rfl⟩ : ∃ r : Rg, r.a = a0c0 ∧ r.f = a0c1 ∧ r.b = a0c2 ∧ r.c = a0c3 ∧ r.d = a0c4 ∧ r.e = a0c5 ∧ r.h = a0c6 ∧ r.l = a0c7 ∧ r.s = a0c8 ∧ r.p = a0c9 := ⟨⟨a0c0, a0c1, a0c2, a0c3, a0c4, a0c5, a0c6, a0c7, a0c8, a0c9⟩, rfl, rfl, rfl, rfl, rfl, rfl, rfl, rfl, rfl, rfl⟩
  have ok : r.ok := ⟨bounds_u8 w0c0, bounds_u8 w0c1, bounds_u8 w0c2, bounds_u8 w0c3, bounds_u8 w0c4, bounds_u8 w0c5, bounds_u8 w0c6, bounds_u8 w0c7, bounds_u16 w0c8, bounds_u16 w0c9⟩
  obtain ⟨x0, x1⟩ := bounds_u8 w2
  obtain ⟨n0, n1⟩ := bounds_u8 w1
  obtain ⟨K, hK⟩ : ∃ K, a1 % 8 = K := ⟨_, rfl⟩
  have K0 : 0 ≤ K ∧ K < 8 := by omega
  have HK := hid hK
  clear hK
  obtain ⟨A, hA⟩ : ∃ A, putR K a2 r = A := ⟨_, rfl⟩
  have okA : A.ok := by rw [← hA]; exact putR_ok ok _ _ x0 x1
  have HA := hid hA
  by_cases h6 : K = 6
  · have HE := hid (show mayOf K = 7 by rw [h6]; rfl)
    have h62 : (K == 6) = true := by simp [h6]
    clear hA h6
    go_enter Tryd.func4, Tryd.ntmps4
    go_wp2_with fail
    refine (shown4_any _ (has_past lay _)).mono ?_
    rintro e u1 ⟨rfl, g1⟩
    have B1n0x1 := has_grown g1 (has_alloc _ _ _)
    obtain ⟨zB1n0x1, cB1n0x1⟩ := id B1n0x1
    have G1 := hid (grown_trans ((Grown.refl w).alloc _ _) g1)
    go_wp2_with fail
    refine (put_any r _ _ _).mono ?_
    rintro e u2 ⟨rfl, g2⟩
    rw [HK.out, HA.out, HE.out]
    have B1n0x2 := has_grown g2 B1n0x1
    obtain ⟨zB1n0x2, cB1n0x2⟩ := id B1n0x2
    have G2 := hid (grown_trans G1.out g2)
    go_wp2_with fail
    refine (get_any A _ _).mono ?_
    rintro e u3 ⟨rfl, g3⟩
    rw [HE.out]
    have B1n0x3 := has_grown g3 (has_past B1n0x2 _)
    have B3n0x3 := has_grown g3 (has_alloc _ _ _)
    obtain ⟨zB1n0x3, cB1n0x3⟩ := id B1n0x3
    obtain ⟨zB3n0x3, cB3n0x3⟩ := id B3n0x3
    have G3 := hid (grown_trans (G2.out.alloc _ _) g3)
    go_wp2
    go_ret
    exact ⟨rfl, G3.out⟩
  · have HE := hid (show mayOf K = 0 by unfold mayOf; rw [if_neg h6, if_neg (by omega)])
    have HG := hid (show getOf K A = a2 by rw [← hA]; exact get_same r K a2 K0.1 K0.2 h6)
    clear hA
    obtain ⟨f0, f1⟩ := okA.2.1
    have FF := hid (fin8 (p := fun b => byteOf (flagAt b 128) (flagAt b 64) (flagAt b 32) (flagAt b 16) = b / 16 * 16 ∧ flagAt (b / 16 * 16) 128 = flagAt b 128 ∧ flagAt (b / 16 * 16) 64 = flagAt b 64 ∧ flagAt (b / 16 * 16) 32 = flagAt b 32 ∧ flagAt (b / 16 * 16) 16 = flagAt b 16) byteof_fin A.f f0 f1)
    obtain ⟨F, hF⟩ : ∃ F, A.f / 16 * 16 = F := ⟨_, rfl⟩
    obtain ⟨B, hB⟩ : ∃ B : Rg, { A with f := F } = B := ⟨_, rfl⟩
    have okB : B.ok := by
      rw [← hB]
      obtain ⟨h1, h2, h3, h4, h5, h6, h7, h8, h9, h10⟩ := okA
      exact ⟨h1, by show 0 ≤ F ∧ F ≤ 255; omega, h3, h4, h5, h6, h7, h8, h9, h10⟩
    have HBy := hid (show byteOf (flagAt A.f 128) (flagAt A.f 64) (flagAt A.f 32) (flagAt A.f 16) = F by rw [← hF]; exact FF.out.1)
    have HBf := hid (show B.f = A.f / 16 * 16 by rw [← hB, hF])
    have HFl := hid (show flagAt B.f 128 = flagAt A.f 128 ∧ flagAt B.f 64 = flagAt A.f 64 ∧ flagAt B.f 32 = flagAt A.f 32 ∧ flagAt B.f 16 = flagAt A.f 16 by rw [HBf.out]; exact FF.out.2)
    have HC := hid (show (#[.int .u8 A.a, .int .u8 F, .int .u8 A.b, .int .u8 A.c, .int .u8 A.d, .int .u8 A.e, .int .u8 A.h, .int .u8 A.l, .int .u16 A.s, .int .u16 A.p] : Array Value) = #[.int .u8 B.a, .int .u8 B.f, .int .u8 B.b, .int .u8 B.c, .int .u8 B.d, .int .u8 B.e, .int .u8 B.h, .int .u8 B.l, .int .u16 B.s, .int .u16 B.p] by rw [← hB])
    obtain ⟨X, hX⟩ : ∃ X, textOf B = X := ⟨_, rfl⟩
    have HX := hid hX
    have HP := hid (show parseR X = B ∧ parseE X = 0 by rw [← hX]; exact parse_text B okB (by rw [HBf.out]; omega))
    have hw : (B.f == IntKind.u8.wrap (IntKind.u8.wrap (A.f.tdiv 16) * 16)) = true := by
      rw [HBf.out, Int.tdiv_eq_ediv_of_nonneg f0]
      have w8 : ∀ x : Int, 0 ≤ x → x ≤ 255 → IntKind.u8.wrap x = x := fun x a0 a1 => by
        simp [IntKind.wrap, IntKind.bits, IntKind.signed]
        omega
      rw [w8 (A.f / 16) (by omega) (by omega), w8 (A.f / 16 * 16) (by omega) (by omega)]
      simp
    have hw2 : (B.f == A.f / 16 * 16) = true := by rw [HBf.out]; simp
    clear hF hB hX
    go_enter Tryd.func4, Tryd.ntmps4
    go_wp2_with fail
    refine (shown4_any _ (has_past lay _)).mono ?_
    rintro e u1 ⟨rfl, g1⟩
    have B1n0x1 := has_grown g1 (has_alloc _ _ _)
    obtain ⟨zB1n0x1, cB1n0x1⟩ := id B1n0x1
    have G1 := hid (grown_trans ((Grown.refl w).alloc _ _) g1)
    go_wp2_with fail
    refine (put_any r _ _ _).mono ?_
    rintro e u2 ⟨rfl, g2⟩
    rw [HK.out, HA.out, HE.out]
    have B1n0x2 := has_grown g2 B1n0x1
    obtain ⟨zB1n0x2, cB1n0x2⟩ := id B1n0x2
    have G2 := hid (grown_trans G1.out g2)
    go_wp2_with fail
    refine (get_any A _ _).mono ?_
    rintro e u3 ⟨rfl, g3⟩
    rw [HG.out, HE.out]
    have B1n0x3 := has_grown g3 (has_past B1n0x2 _)
    have B3n0x3 := has_grown g3 (has_alloc _ _ _)
    obtain ⟨zB1n0x3, cB1n0x3⟩ := id B1n0x3
    obtain ⟨zB3n0x3, cB3n0x3⟩ := id B3n0x3
    have G3 := hid (grown_trans (G2.out.alloc _ _) g3)
    have y1 : u3.heap.size ≠ u2.heap.size := by omega
    have y2 : u2.heap.size ≠ u3.heap.size := by omega
    have y3 : u2.heap.size < u3.heap.size + 1 := by omega
    go_upto_region 7 with fail
    go_cut [13] (fun p wx => ∃ gb : Nat, p = .pointer (some ⟨gb, 0, none⟩) ∧ Has wx gb #[.int .u8 B.a, .int .u8 B.f, .int .u8 B.b, .int .u8 B.c, .int .u8 B.d, .int .u8 B.e, .int .u8 B.h, .int .u8 B.l, .int .u16 B.s, .int .u16 B.p] ∧ Has wx u2.heap.size #[.int .u8 A.a, .int .u8 A.f, .int .u8 A.b, .int .u8 A.c, .int .u8 A.d, .int .u8 A.e, .int .u8 A.h, .int .u8 A.l, .int .u16 A.s, .int .u16 A.p] ∧ Grown w wx)
    case first =>
      clear lay hw hw2 HP HX HFl HBf FF f0 f1 okB HE HG HK h6 K0 w1 w2 g1 g2 g3
      clear B1n0x1 zB1n0x1 cB1n0x1 B1n0x2 zB1n0x2 cB1n0x2 B1n0x3 zB1n0x3 cB1n0x3
      go_region_held3 (fun w' => u2.heap.size < w'.heap.size ∧ w'.cell? ⟨u2.heap.size, 0, none⟩ = some (.int .u8 A.a) ∧ w'.cell? ⟨u2.heap.size, 1, none⟩ = some (.int .u8 A.f) ∧ w'.cell? ⟨u2.heap.size, 2, none⟩ = some (.int .u8 A.b) ∧ w'.cell? ⟨u2.heap.size, 3, none⟩ = some (.int .u8 A.c) ∧ w'.cell? ⟨u2.heap.size, 4, none⟩ = some (.int .u8 A.d) ∧ w'.cell? ⟨u2.heap.size, 5, none⟩ = some (.int .u8 A.e) ∧ w'.cell? ⟨u2.heap.size, 6, none⟩ = some (.int .u8 A.h) ∧ w'.cell? ⟨u2.heap.size, 7, none⟩ = some (.int .u8 A.l) ∧ w'.cell? ⟨u2.heap.size, 8, none⟩ = some (.int .u16 A.s) ∧ w'.cell? ⟨u2.heap.size, 9, none⟩ = some (.int .u16 A.p)) (go_keep) (first | (go_at_call 11; refine (flags_any A _ okA).mono ?_; rintro e v1 ⟨rfl, q1⟩; have D1 : Has v1 u2.heap.size #[.int .u8 A.a, .int .u8 A.f, .int .u8 A.b, .int .u8 A.c, .int .u8 A.d, .int .u8 A.e, .int .u8 A.h, .int .u8 A.l, .int .u16 A.s, .int .u16 A.p] := (by (repeat (first | with_reducible exact B3n0x3 | with_reducible refine has_grown q1 ?_ | with_reducible refine has_drew ?_ | with_reducible refine has_past ?_ _))); obtain ⟨zD1, cD1⟩ := id D1; have yE1 : u2.heap.size ≠ v1.heap.size := (by omega); have yF1 : v1.heap.size ≠ u2.heap.size := (by omega); have yG1 : u2.heap.size < v1.heap.size + 1 := (by omega); (first | (have N1 : Has v1 u3.heap.size #[.int .u8 0, .int .u8 0, .int .u8 0, .int .u8 0, .int .u8 0, .int .u8 0, .int .u8 0, .int .u8 0, .int .u16 0, .int .u16 0] := has_grown q1 (has_drew (has_alloc u3 #[.int .u8 0, .int .u8 0, .int .u8 0, .int .u8 0, .int .u8 0, .int .u8 0, .int .u8 0, .int .u8 0, .int .u16 0, .int .u16 0] 25)); obtain ⟨zN1, cN1⟩ := id N1) | (have N1 : Has v1 u3.heap.size #[.int .u8 0, .int .u8 0, .int .u8 0, .int .u8 0, .int .u8 0, .int .u8 0, .int .u8 0, .int .u8 0, .int .u16 0, .int .u16 0] := has_grown q1 (has_alloc u3 #[.int .u8 0, .int .u8 0, .int .u8 0, .int .u8 0, .int .u8 0, .int .u8 0, .int .u8 0, .int .u8 0, .int .u16 0, .int .u16 0] 25); obtain ⟨zN1, cN1⟩ := id N1) | skip)) | (go_at_call 10; refine (withFlags_any A _ _ _ _ _).mono ?_; rintro e v2 ⟨rfl, q2⟩; rw [HBy.out]; have D2 : Has v2 u2.heap.size #[.int .u8 A.a, .int .u8 A.f, .int .u8 A.b, .int .u8 A.c, .int .u8 A.d, .int .u8 A.e, .int .u8 A.h, .int .u8 A.l, .int .u16 A.s, .int .u16 A.p] := (by (repeat (first | with_reducible exact D1 | with_reducible exact B3n0x3 | with_reducible refine has_grown q2 ?_ | with_reducible refine has_grown q1 ?_ | with_reducible refine has_drew ?_ | with_reducible refine has_past ?_ _))); obtain ⟨zD2, cD2⟩ := id D2; have yE2 : u2.heap.size ≠ v2.heap.size := (by omega); have yF2 : v2.heap.size ≠ u2.heap.size := (by omega); have yG2 : u2.heap.size < v2.heap.size + 1 := (by omega); have GV2 : Grown w v2 := (by (repeat (first | with_reducible exact G3.out | with_reducible refine grown_trans ?_ q2 | with_reducible refine grown_trans ?_ q1 | with_reducible refine Grown.drew ?_ | with_reducible refine Grown.alloc ?_ _ _ | with_reducible refine Grown.setCell ?_ (by omega) _))); have s3 := G3.out.2.2; have s4 := q1.2.2; have fz2a := fun o => grown_froz GV2 (b := u3.heap.size) s3 o; have fz2b := fun o => grown_froz GV2 (b := v1.heap.size) (Nat.le_trans s3 (by first | exact s4 | (simp at s4; omega))) o; (first | (have N2 : Has v2 u3.heap.size #[.int .u8 0, .int .u8 0, .int .u8 0, .int .u8 0, .int .u8 0, .int .u8 0, .int .u8 0, .int .u8 0, .int .u16 0, .int .u16 0] := has_grown q2 (has_drew N1); obtain ⟨zN2, cN2⟩ := id N2) | (have N2 : Has v2 u3.heap.size #[.int .u8 0, .int .u8 0, .int .u8 0, .int .u8 0, .int .u8 0, .int .u8 0, .int .u8 0, .int .u8 0, .int .u16 0, .int .u16 0] := has_grown q2 N1; obtain ⟨zN2, cN2⟩ := id N2) | (have N3 : Has v2 v1.heap.size #[.int .u8 0, .int .u8 0, .int .u8 0, .int .u8 0, .int .u8 0, .int .u8 0, .int .u8 0, .int .u8 0, .int .u16 0, .int .u16 0] := has_grown q2 (has_drew (has_alloc v1 #[.int .u8 0, .int .u8 0, .int .u8 0, .int .u8 0, .int .u8 0, .int .u8 0, .int .u8 0, .int .u8 0, .int .u16 0, .int .u16 0] 25)); obtain ⟨zN3, cN3⟩ := id N3) | (have N3 : Has v2 v1.heap.size #[.int .u8 0, .int .u8 0, .int .u8 0, .int .u8 0, .int .u8 0, .int .u8 0, .int .u8 0, .int .u8 0, .int .u16 0, .int .u16 0] := has_grown q2 (has_alloc v1 #[.int .u8 0, .int .u8 0, .int .u8 0, .int .u8 0, .int .u8 0, .int .u8 0, .int .u8 0, .int .u8 0, .int .u16 0, .int .u16 0] 25); obtain ⟨zN3, cN3⟩ := id N3) | skip)))
      all_goals
        go_wp2_with fail
        go_meet
      · exact ⟨_, rfl, (by rw [← HC.out]; exact has_alloc _ _ _), has_past D2 _, GV2.alloc _ _⟩
      · have l9 : w.heap.size ≤ v1.heap.size := Nat.le_trans s3 (by first | exact s4 | (simp at s4; omega))
        exact ⟨_, rfl, (by rw [← HC.out]; exact has_set10 N3 _ _ _ _ _ _ _ _ _ _), (has_other (has_other (has_other (has_other (has_other (has_other (has_other (has_other (has_other (has_other D2 yF1 _) yF1 _) yF1 _) yF1 _) yF1 _) yF1 _) yF1 _) yF1 _) yF1 _) yF1 _), ((((((((((GV2.setCell l9 _).setCell l9 _).setCell l9 _).setCell l9 _).setCell l9 _).setCell l9 _).setCell l9 _).setCell l9 _).setCell l9 _).setCell l9 _)⟩
      · exact ⟨_, rfl, (by rw [← HC.out]; exact has_set10 N2 _ _ _ _ _ _ _ _ _ _), (has_other (has_other (has_other (has_other (has_other (has_other (has_other (has_other (has_other (has_other D2 y1 _) y1 _) y1 _) y1 _) y1 _) y1 _) y1 _) y1 _) y1 _) y1 _), ((((((((((GV2.setCell s3 _).setCell s3 _).setCell s3 _).setCell s3 _).setCell s3 _).setCell s3 _).setCell s3 _).setCell s3 _).setCell s3 _).setCell s3 _)⟩
    case rest =>
      obtain ⟨gb, rfl, HB1, HA1, Gc⟩ := hcut
      clear B1n0x1 zB1n0x1 cB1n0x1 B1n0x2 zB1n0x2 cB1n0x2 B1n0x3 zB1n0x3 cB1n0x3 B3n0x3 zB3n0x3 cB3n0x3 g1 g2 g3 y1 y2 y3
      have L1 := hid (has_grown Gc lay)
      obtain ⟨zb1, cb1⟩ := id HB1
      go_wp2_with fail
      refine (text_any B _ okB L1.out).mono ?_
      rintro e u5 ⟨rfl, g5⟩
      rw [HX.out]
      have HB5 := has_grown g5 HB1
      have HA5 := has_grown g5 HA1
      have L5 := hid (has_grown g5 L1.out)
      have G5 := hid (grown_trans Gc g5)
      clear HB1 HA1 zb1 cb1 L1 Gc
      go_wp2_with fail
      refine (parse_any X _ L5.out).mono ?_
      rintro e u6 ⟨rfl, g6⟩
      rw [HP.out.1, HP.out.2]
      have HB6 := has_grown g6 HB5
      have HA6 := has_grown g6 HA5
      have G6 := hid (grown_trans G5.out g6)
      clear HB5 HA5 L5 g5 g6
      obtain ⟨zb6, cb6⟩ := id HB6
      obtain ⟨za6, ca6⟩ := id HA6
      have HC6 := has_alloc u6 #[.int .u8 B.a, .int .u8 B.f, .int .u8 B.b, .int .u8 B.c, .int .u8 B.d, .int .u8 B.e, .int .u8 B.h, .int .u8 B.l, .int .u16 B.s, .int .u16 B.p] 25
      have HB7 := hid (has_past HB6 (.cells #[.int .u8 B.a, .int .u8 B.f, .int .u8 B.b, .int .u8 B.c, .int .u8 B.d, .int .u8 B.e, .int .u8 B.h, .int .u8 B.l, .int .u16 B.s, .int .u16 B.p] 25))
      have HA7 := hid (has_past HA6 (.cells #[.int .u8 B.a, .int .u8 B.f, .int .u8 B.b, .int .u8 B.c, .int .u8 B.d, .int .u8 B.e, .int .u8 B.h, .int .u8 B.l, .int .u16 B.s, .int .u16 B.p] 25))
      have nb : gb ≠ u6.heap.size := by omega
      have lb : gb < u6.heap.size + 1 := by omega
      have la : u2.heap.size < u6.heap.size + 1 := by omega
      have na : u2.heap.size ≠ u6.heap.size := by omega
      clear w1 w2 n0 n1 K0 h6 lay ok FF HBf HC HBy HX HP HK HA HE HG G1 G2 G3 G5
      go_wp2
      go_region_held3 (fun w' => gb < w'.heap.size ∧ w'.cell? ⟨gb, 0, none⟩ = some (.int .u8 B.a) ∧ w'.cell? ⟨gb, 1, none⟩ = some (.int .u8 B.f) ∧ w'.cell? ⟨gb, 2, none⟩ = some (.int .u8 B.b) ∧ w'.cell? ⟨gb, 3, none⟩ = some (.int .u8 B.c) ∧ w'.cell? ⟨gb, 4, none⟩ = some (.int .u8 B.d) ∧ w'.cell? ⟨gb, 5, none⟩ = some (.int .u8 B.e) ∧ w'.cell? ⟨gb, 6, none⟩ = some (.int .u8 B.h) ∧ w'.cell? ⟨gb, 7, none⟩ = some (.int .u8 B.l) ∧ w'.cell? ⟨gb, 8, none⟩ = some (.int .u16 B.s) ∧ w'.cell? ⟨gb, 9, none⟩ = some (.int .u16 B.p) ∧ u2.heap.size < w'.heap.size ∧ w'.cell? ⟨u2.heap.size, 0, none⟩ = some (.int .u8 A.a) ∧ w'.cell? ⟨u2.heap.size, 1, none⟩ = some (.int .u8 A.f) ∧ w'.cell? ⟨u2.heap.size, 2, none⟩ = some (.int .u8 A.b) ∧ w'.cell? ⟨u2.heap.size, 3, none⟩ = some (.int .u8 A.c) ∧ w'.cell? ⟨u2.heap.size, 4, none⟩ = some (.int .u8 A.d) ∧ w'.cell? ⟨u2.heap.size, 5, none⟩ = some (.int .u8 A.e) ∧ w'.cell? ⟨u2.heap.size, 6, none⟩ = some (.int .u8 A.h) ∧ w'.cell? ⟨u2.heap.size, 7, none⟩ = some (.int .u8 A.l) ∧ w'.cell? ⟨u2.heap.size, 8, none⟩ = some (.int .u16 A.s) ∧ w'.cell? ⟨u2.heap.size, 9, none⟩ = some (.int .u16 A.p) ∧ u6.heap.size < w'.heap.size ∧ w'.cell? ⟨u6.heap.size, 0, none⟩ = some (.int .u8 B.a) ∧ w'.cell? ⟨u6.heap.size, 1, none⟩ = some (.int .u8 B.f) ∧ w'.cell? ⟨u6.heap.size, 2, none⟩ = some (.int .u8 B.b) ∧ w'.cell? ⟨u6.heap.size, 3, none⟩ = some (.int .u8 B.c) ∧ w'.cell? ⟨u6.heap.size, 4, none⟩ = some (.int .u8 B.d) ∧ w'.cell? ⟨u6.heap.size, 5, none⟩ = some (.int .u8 B.e) ∧ w'.cell? ⟨u6.heap.size, 6, none⟩ = some (.int .u8 B.h) ∧ w'.cell? ⟨u6.heap.size, 7, none⟩ = some (.int .u8 B.l) ∧ w'.cell? ⟨u6.heap.size, 8, none⟩ = some (.int .u16 B.s) ∧ w'.cell? ⟨u6.heap.size, 9, none⟩ = some (.int .u16 B.p)) (go_keep) (first | (go_at_call 11; refine (flags_any B _ okB).mono ?_; rintro e v1 ⟨rfl, q1⟩; rw [HFl.out.1, HFl.out.2.1, HFl.out.2.2.1, HFl.out.2.2.2]; have D1b0 := has_grown q1 HB7.out; obtain ⟨zD1b0, cD1b0⟩ := id D1b0; have D1b1 := has_grown q1 HA7.out; obtain ⟨zD1b1, cD1b1⟩ := id D1b1; have D1b2 := has_grown q1 HC6; obtain ⟨zD1b2, cD1b2⟩ := id D1b2) | (go_at_call 11; refine (flags_any A _ okA).mono ?_; rintro e v2 ⟨rfl, q2⟩; have D2b0 := has_grown q2 D1b0; obtain ⟨zD2b0, cD2b0⟩ := id D2b0; have D2b1 := has_grown q2 D1b1; obtain ⟨zD2b1, cD2b1⟩ := id D2b1; have D2b2 := has_grown q2 D1b2; obtain ⟨zD2b2, cD2b2⟩ := id D2b2))
      go_wp2
      go_ret
      exact ⟨rfl, grown_trans (grown_trans (G6.out.alloc _ _).drew q1) q2⟩

set_option maxRecDepth 100000 in
theorem lifted (os : Os) (started : os.Started) (H : Type) (enc : TypeId × Value → H) :
    ReturnsInHanded {} Tryd.checked os 4 .any (fun w args => (Rows.regsBackSpec.pre enc Tryd.prog Tryd.f4 [] false w args ∧ laidMetH Tryd.prog Rows.regsBackRow.laid w) ∧ sizedMet enc Tryd.prog Tryd.f4 (OpenSpec.ofChange Rows.regsBackSpec) false w args) (Rows.regsBackSpec.post enc Tryd.prog Tryd.f4 false true false false) := by
  refine returnsInHanded_of_change_and (C := Tryd.checked) (X := fun w _ => laidMetH Tryd.prog Rows.regsBackRow.laid w) (fun _ _ _ hh h => h.of_heap hh) own started (by kernel_rfl) Tryd.func4
    (ChangeSpec.witness_shaped (enc := enc) (C := Tryd.checked) (os := os) (X := fun w _ => laidMetH Tryd.prog Rows.regsBackRow.laid w) false (World.doorLaid Tryd.prog 400 os) #[.agg #[.int .u8 0, .int .u8 0, .int .u8 0, .int .u8 0, .int .u8 0, .int .u8 0, .int .u8 0, .int .u8 0, .int .u16 0, .int .u16 0], .int .u8 0, .int .u8 0] 8 rfl (World.shaped_of_RefB (by kernel_rfl) (by kernel_rfl)) (by kernel_rfl) (by kernel_rfl) (by kernel_rfl) (door_met os _)) ?_
  intro W base args ds gs before hval0 hW _ _ hL _
  have hval : ∀ (j : Nat) t v, Tryd.f4.params[j]? = some t → args[j]? = some v → Value.okWide Tryd.prog W .any base t v := hval0
  have hW' := hW
  obtain ⟨p, q, hA0, hV, rfl, hfz, hnd⟩ := hW
  have hA : DataW.TrodAll enc Tryd.prog W 0 (fun _ => true) true Tryd.f4.params.toList args.toList ds p := hA0
  rw [Tryd.params4] at hA hval
  obtain ⟨v0, vs0, d0, ds0, p0, q0, hargs, rfl, rfl, h0, r0⟩ := trodAll_cons hA
  obtain ⟨v1, vs1, d1, ds1, p1, q1, rfl, rfl, rfl, h1, r1⟩ := trodAll_cons r0
  obtain ⟨v2, vs2, d2, ds2, p2, q2, rfl, rfl, rfl, h2, r2⟩ := trodAll_cons r1
  obtain ⟨rfl, rfl, rfl⟩ := trodAll_nil r2
  obtain rfl : args = #[v0, v1, v2] := by cases args; simp_all
  obtain ⟨rfl, rfl⟩ := trodVars_none hV
  obtain ⟨rfl, ⟨l0, rfl, e0, f0⟩, k0⟩ := flat_open (n := 8) (c := 10) (L := [(0, .int .u8), (1, .int .u8), (2, .int .u8), (3, .int .u8), (4, .int .u8), (5, .int .u8), (6, .int .u8), (7, .int .u8), (8, .int .u16), (9, .int .u16)]) Tryd.underlying25 (by kernel_rfl) (by kernel_rfl) (hval 0 25 v0 rfl rfl) h0
  obtain ⟨a0c0, a0c1, a0c2, a0c3, a0c4, a0c5, a0c6, a0c7, a0c8, a0c9, rfl, w0c0, w0c1, w0c2, w0c3, w0c4, w0c5, w0c6, w0c7, w0c8, w0c9⟩ := fits25 e0 f0
  obtain ⟨a1, rfl, rfl, rfl, w1⟩ := open_int Tryd.underlying5 (hval 1 5 v1 rfl rfl) h1
  obtain ⟨a2, rfl, rfl, rfl, w2⟩ := open_int Tryd.underlying5 (hval 2 5 v2 rfl rfl) h2
  clear hA0 hval0
  simp only [List.append_nil] at hW'
  refine (walk a0c0 a0c1 a0c2 a0c3 a0c4 a0c5 a0c6 a0c7 a0c8 a0c9 a1 a2 w0c0 w0c1 w0c2 w0c3 w0c4 w0c5 w0c6 w0c7 w0c8 w0c9 w1 w2 W (of_laid hL)).mono fun e W' ⟨he, hg⟩ => ?_
  subst he
  exact ⟨_, rfl, post_of_same (pa := []) (pv := []) hW' (fun _ _ _ => (trodAll_cons_mk (shut_bool Tryd.underlying4 _) trodAll_mk0)) (fun sp _ => (trodAll_cons_mk (k0 _ _ _ _) (trodAll_cons_mk (shut_int Tryd.underlying5 w1) (trodAll_cons_mk (shut_int Tryd.underlying5 w2) trodAll_mk0)))) (fun _ _ => rfl) rfl
    (hg.frame _) hg.2.1 (ok_one (by kernel_rfl) rfl (okWide_bool_mk Tryd.underlying4 _))⟩

theorem over : Rows.regsBackRow.holds Tryd.pinned (OpenSpec.ofChange Rows.regsBackSpec) :=
  OpenClaim.holds_of_wide 4 Tryd.f4 rfl rfl rfl rfl rfl rfl rfl ⟨rfl, rfl, rfl, rfl, rfl⟩ rfl rfl rfl rfl rfl (by kernel_rfl) Tryd.func4 (by kernel_rfl)
    (of_decide_eq_true (by kernel_rfl)) (by unfold Func.isWrapper; first | (rw [if_pos (by decide +kernel)]; kernel_rfl) | (rw [if_neg (by decide +kernel)]; exact ⟨rfl, rfl⟩))
    (fun os started H enc _ => lifted os started H enc)

theorem card : Rows.RegsBackCardSaid :=
  Claim7.holds_tied_plain_at .later [] Rows.regsBackCard.laidKinds true Rows.regsBackCard.stood.harness false
    over (fun _ h => by cases h) (by kernel_rfl) (fun _ h => by cases h) regsBack_row_tie rfl ⟨rfl, rfl⟩ (by kernel_rfl) rfl
    (fun f fn hf hfn => by
      obtain rfl : f = 4 := Option.some.inj ((show Tryd.prog.funcNamed Rows.regsBackRow.func = some 4 by kernel_rfl).symm.trans hf) |>.symm
      obtain rfl : fn = Tryd.f4 := (Option.some.inj (Tryd.func4.symm.trans hfn)).symm
      exact ⟨by kernel_rfl, fun j t ht => by
        rw [Tryd.params4] at ht
        have hm : t ∈ [25, 5, 5] := by simpa using Array.mem_of_getElem? ht
        have hall : ([25, 5, 5].all fun u => !Tryd.prog.wantsStandIn u) = true := by kernel_rfl
        exact (show Tryd.prog.wantsStandIn t = false by simpa using List.all_eq_true.1 hall t hm)⟩)
    (by kernel_rfl)
end Go.Proofs.YticamagmccapoaaDoor.regsBack
namespace Go.Proofs.YticamagmccapoaaDoor
theorem regsBack_holds : Rows.RegsBackCardSaid := regsBack.card
end Go.Proofs.YticamagmccapoaaDoor
