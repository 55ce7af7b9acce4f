/- A register that is put leaves all others, and a pair all other pairs, as they were, for all registers, numbers, bytes and words; the table of pairs is laid as the program's text lays it. -/
import Derived.Test.YtaphcbhmkejbeabDoorRows
import Derived.WalkKit
import Derived.ProofKit
import Derived.OpenShut
import Derived.ShutString
import Derived.Deep.RegionHeld3
import Derived.Deep.DeepCutAuto
import Derived.LaidMore
import Derived.Stop.Joined
import Derived.SevenTiedAt
import Derived.Test.YtaphcbhmkejbeabDoorCards
import Derived.Test.YtaphcbhmkejbeabDoorTie
import Derived.Test.YtaphcbhmkejbeabDoorLaidRegs
import Derived.Test.YtaphcbhmkejbeabDoorFlat
import Derived.Test.YtaphcbhmkejbeabDoorShown4
import Derived.Test.YtaphcbhmkejbeabDoorRegs2
import Derived.Test.YtaphcbhmkejbeabDoorRegs4
import Derived.Test.YtaphcbhmkejbeabDoorRgText
namespace Go.Proofs.YtaphcbhmkejbeabDoor.regsApart
open Go.ChangeShapes Go.WideShapes Go.ChangeAt Go.RowKit
open Go.ChangeMaps (open_string shut_string)
set_option linter.unusedVariables false

theorem own : ownKnob Tryd.prog.godebug = none := by kernel_rfl
theorem fits25 {l : List Value} (e : l.length = 10) (f : fitAll [(0, .int .u8), (1, .int .u8), (2, .int .u8), (3, .int .u8), (4, .int .u8), (5, .int .u8), (6, .int .u8), (7, .int .u8), (8, .int .u16), (9, .int .u16)] l) :
    ∃ (x0 : Int) (x1 : Int) (x2 : Int) (x3 : Int) (x4 : Int) (x5 : Int) (x6 : Int) (x7 : Int) (x8 : Int) (x9 : Int), l = [.int .u8 x0, .int .u8 x1, .int .u8 x2, .int .u8 x3, .int .u8 x4, .int .u8 x5, .int .u8 x6, .int .u8 x7, .int .u16 x8, .int .u16 x9] ∧ (Lit.int .u8 x0).wf = true ∧ (Lit.int .u8 x1).wf = true ∧ (Lit.int .u8 x2).wf = true ∧ (Lit.int .u8 x3).wf = true ∧ (Lit.int .u8 x4).wf = true ∧ (Lit.int .u8 x5).wf = true ∧ (Lit.int .u8 x6).wf = true ∧ (Lit.int .u8 x7).wf = true ∧ (Lit.int .u16 x8).wf = true ∧ (Lit.int .u16 x9).wf = true := by
  match l, e with
  | [c0, c1, c2, c3, c4, c5, c6, c7, c8, c9], _ =>
    obtain ⟨⟨v0, g0, x0, h0, w0⟩, ⟨v1, g1, x1, h1, w1⟩, ⟨v2, g2, x2, h2, w2⟩, ⟨v3, g3, x3, h3, w3⟩, ⟨v4, g4, x4, h4, w4⟩, ⟨v5, g5, x5, h5, w5⟩, ⟨v6, g6, x6, h6, w6⟩, ⟨v7, g7, x7, h7, w7⟩, ⟨v8, g8, x8, h8, w8⟩, ⟨v9, g9, x9, h9, w9⟩, _⟩ := f
    have e0 : c0 = v0 := Option.some.inj g0
    subst h0 e0
    have e1 : c1 = v1 := Option.some.inj g1
    subst h1 e1
    have e2 : c2 = v2 := Option.some.inj g2
    subst h2 e2
    have e3 : c3 = v3 := Option.some.inj g3
    subst h3 e3
    have e4 : c4 = v4 := Option.some.inj g4
    subst h4 e4
    have e5 : c5 = v5 := Option.some.inj g5
    subst h5 e5
    have e6 : c6 = v6 := Option.some.inj g6
    subst h6 e6
    have e7 : c7 = v7 := Option.some.inj g7
    subst h7 e7
    have e8 : c8 = v8 := Option.some.inj g8
    subst h8 e8
    have e9 : c9 = v9 := Option.some.inj g9
    subst h9 e9
    exact ⟨x0, x1, x2, x3, x4, x5, x6, x7, x8, x9, rfl, w0, w1, w2, w3, w4, w5, w6, w7, w8, w9⟩
theorem wrap_sixteen (a : Int) (h0 : 0 ≤ a) (h1 : a ≤ 65535) : (a / 16 * 16 != IntKind.u16.wrap (IntKind.u16.wrap (a.tdiv 16) * 16)) = false := by
  rw [Int.tdiv_eq_ediv_of_nonneg h0]
  have w16 : ∀ x : Int, 0 ≤ x → x ≤ 65535 → IntKind.u16.wrap x = x := fun x a0 a1 => by
    simp [IntKind.wrap, IntKind.bits, IntKind.signed]
    omega
  rw [w16 (a / 16) (by omega) (by omega), w16 (a / 16 * 16) (by omega) (by omega)]
  simp
theorem get_put (r : Rg) (K v i : Int) (h0 : 0 ≤ K) (h1 : K < 8) (he : K ≠ 6) (hi : i ≠ K) : getOf i (putR K v r) = getOf i r := by
  have : K = 0 ∨ K = 1 ∨ K = 2 ∨ K = 3 ∨ K = 4 ∨ K = 5 ∨ K = 7 := by omega
  rcases this with rfl | rfl | rfl | rfl | rfl | rfl | rfl <;> simp [putR, getOf, hi]
theorem put_rest (r : Rg) (K v : Int) (h0 : 0 ≤ K) (h1 : K < 8) (he : K ≠ 6) : (putR K v r).f = r.f ∧ (putR K v r).s = r.s ∧ (putR K v r).p = r.p := by
  have : K = 0 ∨ K = 1 ∨ K = 2 ∨ K = 3 ∨ K = 4 ∨ K = 5 ∨ K = 7 := by omega
  rcases this with rfl | rfl | rfl | rfl | rfl | rfl | rfl <;> simp [putR]
theorem pair_put (r : Rg) (P v i : Int) (h0 : 0 ≤ P) (h1 : P < 5) (hi : i ≠ P) : pairOf i (putP P v r) = pairOf i r := by
  have : P = 0 ∨ P = 1 ∨ P = 2 ∨ P = 3 ∨ P = 4 := by omega
  rcases this with rfl | rfl | rfl | rfl | rfl <;> simp [putP, pairOf, hi]
theorem pair_same (r : Rg) (P v : Int) (h0 : 0 ≤ P) (h1 : P < 4) : pairOf P (putP P v r) = v := by
  have : P = 0 ∨ P = 1 ∨ P = 2 ∨ P = 3 := by omega
  rcases this with rfl | rfl | rfl | rfl <;> simp [putP, pairOf] <;> omega
theorem pair_four (r : Rg) (v : Int) : pairOf 4 (putP 4 v r) = v / 16 * 16 := by
  simp [putP, pairOf]
  omega
theorem pair_pc (r : Rg) (P v : Int) (h0 : 0 ≤ P) (h1 : P < 5) : (putP P v r).p = r.p := by
  have : P = 0 ∨ P = 1 ∨ P = 2 ∨ P = 3 ∨ P = 4 := by omega
  rcases this with rfl | rfl | rfl | rfl | rfl <;> simp [putP]

set_option maxRecDepth 100000 in
set_option maxHeartbeats 8000000 in
theorem walk (a0c0 : Int) (a0c1 : Int) (a0c2 : Int) (a0c3 : Int) (a0c4 : Int) (a0c5 : Int) (a0c6 : Int) (a0c7 : Int) (a0c8 : Int) (a0c9 : Int) (a1 : Int) (a2 : Int) (a3 : Int) (w0c0 : (Lit.int .u8 a0c0).wf = true) (w0c1 : (Lit.int .u8 a0c1).wf = true) (w0c2 : (Lit.int .u8 a0c2).wf = true) (w0c3 : (Lit.int .u8 a0c3).wf = true) (w0c4 : (Lit.int .u8 a0c4).wf = true) (w0c5 : (Lit.int .u8 a0c5).wf = true) (w0c6 : (Lit.int .u8 a0c6).wf = true) (w0c7 : (Lit.int .u8 a0c7).wf = true) (w0c8 : (Lit.int .u16 a0c8).wf = true) (w0c9 : (Lit.int .u16 a0c9).wf = true) (w1 : (Lit.int .u8 a1).wf = true) (w2 : (Lit.int .u8 a2).wf = true) (w3 : (Lit.int .u16 a3).wf = true) (w : World) (lay : Has w 0 #[.string ⟨#[65, 70]⟩, .int .i64 4, .string ⟨#[66, 67]⟩, .int .i64 0, .string ⟨#[68, 69]⟩, .int .i64 1, .string ⟨#[72, 76]⟩, .int .i64 2, .string ⟨#[83, 80]⟩, .int .i64 3]) :
    Calls Tryd.prog 5 #[.agg #[.int .u8 a0c0, .int .u8 a0c1, .int .u8 a0c2, .int .u8 a0c3, .int .u8 a0c4, .int .u8 a0c5, .int .u8 a0c6, .int .u8 a0c7, .int .u16 a0c8, .int .u16 a0c9], .int .u8 a1, .int .u8 a2, .int .u16 a3] w fun e w' => e = .returned (.bool true) ∧ Grown w w' := by
  obtain ⟨r, rfl, rfl, rfl, rfl, rfl, rfl, rfl, rfl, rfl, rfl⟩ : ∃ r : Rg, r.a = a0c0 ∧ r.f = a0c1 ∧ r.b = a0c2 ∧ r.c = a0c3 ∧ r.d = a0c4 ∧ r.e = a0c5 ∧ r.h = a0c6 ∧ r.l = a0c7 ∧ r.s = a0c8 ∧ r.p = a0c9 := ⟨⟨a0c0, a0c1, a0c2, a0c3, a0c4, a0c5, a0c6, a0c7, a0c8, a0c9⟩, rfl, rfl, rfl, rfl, rfl, rfl, rfl, rfl, rfl, rfl⟩
  have ok : r.ok := ⟨bounds_u8 w0c0, bounds_u8 w0c1, bounds_u8 w0c2, bounds_u8 w0c3, bounds_u8 w0c4, bounds_u8 w0c5, bounds_u8 w0c6, bounds_u8 w0c7, bounds_u16 w0c8, bounds_u16 w0c9⟩
  obtain ⟨x0, x1⟩ := bounds_u8 w1
  obtain ⟨z0, z1⟩ := bounds_u16 w3
  obtain ⟨K, hK⟩ : ∃ K, a1 % 8 = K := ⟨_, rfl⟩
  obtain ⟨P, hP⟩ : ∃ P, a1 % 5 = P := ⟨_, rfl⟩
  have K0 : 0 ≤ K ∧ K < 8 := by omega
  have P0 : 0 ≤ P ∧ P < 5 := by omega
  have HK := hid hK
  have HP := hid hP
  clear hK hP
  obtain ⟨A, hA⟩ : ∃ A, putR K a2 r = A := ⟨_, rfl⟩
  obtain ⟨B, hB⟩ : ∃ B, putP P a3 r = B := ⟨_, rfl⟩
  obtain ⟨e0, hE⟩ : ∃ e0, mayOf K = e0 := ⟨_, rfl⟩
  have okB : B.ok := by rw [← hB]; exact putP_ok ok _ _ z0 z1
  have HA := hid hA
  have HB := hid hB
  have HE := hid hE
  have GP := hid (fun i (h1 : e0 = 0) (h2 : i ≠ K) => show getOf i A = getOf i r by rw [← hA]; exact get_put r _ _ _ (by omega) (by omega) (by intro h; rw [← hE, h] at h1; cases h1) h2)
  have GR := hid (fun (h1 : e0 = 0) => show A.f = r.f ∧ A.s = r.s ∧ A.p = r.p by rw [← hA]; exact put_rest r _ _ (by omega) (by omega) (by intro h; rw [← hE, h] at h1; cases h1))
  have PP := hid (fun i (h2 : i ≠ P) => show pairOf i B = pairOf i r by rw [← hB]; exact pair_put r _ _ _ (by omega) (by omega) h2)
  have PS := hid (fun i (h2 : i = P) (h3 : i ≠ 4) => show pairOf i B = a3 by rw [← hB, h2]; exact pair_same r _ _ (by omega) (by omega))
  have PF := hid (fun (h2 : 4 = P) => show pairOf 4 B = a3 / 16 * 16 by rw [← hB, ← h2]; exact pair_four r _)
  have BP := hid (show B.p = r.p by rw [← hB]; exact pair_pc r _ _ (by omega) (by omega))
  have PE := hid (show pairErr P = 0 by unfold pairErr; rw [if_neg (by omega)])
  clear hA hB hE
  go_enter Tryd.func5, Tryd.ntmps5
  go_wp2_with fail
  refine (shown4_any _ (has_past lay _)).mono ?_
  rintro e u1 ⟨rfl, g1⟩
  have B1n0x1 := has_grown g1 (has_alloc _ _ _)
  obtain ⟨zB1n0x1, cB1n0x1⟩ := id B1n0x1
  have G1 := hid (grown_trans ((Grown.refl w).alloc _ _) g1)
  go_wp2_with fail
  refine (put_any r _ _ _).mono ?_
  rintro e u2 ⟨rfl, g2⟩
  rw [HK.out, HA.out, HE.out]
  have B1n0x2 := has_grown g2 B1n0x1
  obtain ⟨zB1n0x2, cB1n0x2⟩ := id B1n0x2
  have G2 := hid (grown_trans G1.out g2)
  go_wp2_with fail
  refine (putPair_any r _ _ _ z0 z1).mono ?_
  rintro e u3 ⟨rfl, g3⟩
  rw [HP.out, HB.out, PE.out]
  have B1n0x3 := has_grown g3 (has_past B1n0x2 _)
  have B3n0x3 := has_grown g3 (has_alloc _ _ _)
  obtain ⟨zB1n0x3, cB1n0x3⟩ := id B1n0x3
  obtain ⟨zB3n0x3, cB3n0x3⟩ := id B3n0x3
  have G3 := hid (grown_trans (G2.out.alloc _ _) g3)
  go_wp2
  go_loopw [16] (fun i wr => ∃ k : Nat, k ≤ 8 ∧ i = .int .i64 k ∧ Has wr w.heap.size #[.int .u8 r.a, .int .u8 r.f, .int .u8 r.b, .int .u8 r.c, .int .u8 r.d, .int .u8 r.e, .int .u8 r.h, .int .u8 r.l, .int .u16 r.s, .int .u16 r.p] ∧ Has wr u2.heap.size #[.int .u8 A.a, .int .u8 A.f, .int .u8 A.b, .int .u8 A.c, .int .u8 A.d, .int .u8 A.e, .int .u8 A.h, .int .u8 A.l, .int .u16 A.s, .int .u16 A.p] ∧ Has wr u3.heap.size #[.int .u8 B.a, .int .u8 B.f, .int .u8 B.b, .int .u8 B.c, .int .u8 B.d, .int .u8 B.e, .int .u8 B.h, .int .u8 B.l, .int .u16 B.s, .int .u16 B.p] ∧ Grown w wr) (fun i _ => 8 - (intOf i).toNat)
  case atStart => exact ⟨0, Nat.zero_le _, rfl, has_past B1n0x3 _, has_past B3n0x3 _, has_alloc _ _ _, G3.out.alloc _ _⟩
  case round =>
    obtain ⟨k, hk, rfl, Br, BA, BB, Gw⟩ := hrel
    obtain ⟨zr, cr⟩ := id Br
    obtain ⟨zA, cA⟩ := id BA
    obtain ⟨zB, cB⟩ := id BB
    by_cases hlt : k < 8
    · by_cases he : e0 = 0
      · have he2 : (e0 == 0) = true := by simp [he]
        by_cases hi : (k : Int) = K
        · have hi2 : ((k : Int) == K) = true := by simp [hi]
          have hi2n : ((k : Int) != K) = false := by simp [hi]
          clear he hi
          go_wp2_with fail
          refine (get_any r _ _).mono ?_
          rintro e v1 ⟨rfl, g4⟩
          have Br1 := has_grown g4 Br
          have BA1 := has_grown g4 BA
          have BB1 := has_grown g4 BB
          obtain ⟨zr1, cr1⟩ := id Br1
          obtain ⟨zA1, cA1⟩ := id BA1
          obtain ⟨zB1, cB1⟩ := id BB1
          go_wp2_with fail
          refine (get_any A _ _).mono ?_
          rintro e v2 ⟨rfl, g5⟩
          have Br2 := has_grown g5 Br1
          have BA2 := has_grown g5 BA1
          have BB2 := has_grown g5 BB1
          have G5 := hid (grown_trans (grown_trans Gw g4) g5)
          go_wp2
          go_roundw
          case rel => exact ⟨k + 1, by omega, by go_num, Br2, BA2, BB2, G5.out⟩
          case measure => simp [intOf]; omega
        · have E := hid (GP.out k he hi)
          have hi2 : ((k : Int) == K) = false := by simp [hi]
          have hi2n : ((k : Int) != K) = true := by simp [hi]
          clear he hi
          go_wp2_with fail
          refine (get_any r _ _).mono ?_
          rintro e v1 ⟨rfl, g4⟩
          have Br1 := has_grown g4 Br
          have BA1 := has_grown g4 BA
          have BB1 := has_grown g4 BB
          obtain ⟨zr1, cr1⟩ := id Br1
          obtain ⟨zA1, cA1⟩ := id BA1
          obtain ⟨zB1, cB1⟩ := id BB1
          go_wp2_with fail
          refine (get_any A _ _).mono ?_
          rintro e v2 ⟨rfl, g5⟩
          rw [E.out]
          have Br2 := has_grown g5 Br1
          have BA2 := has_grown g5 BA1
          have BB2 := has_grown g5 BB1
          have G5 := hid (grown_trans (grown_trans Gw g4) g5)
          go_wp2
          go_roundw
          case rel => exact ⟨k + 1, by omega, by go_num, Br2, BA2, BB2, G5.out⟩
          case measure => simp [intOf]; omega
      · have he2 : (e0 == 0) = false := by simp [he]
        clear he
        go_wp2_with fail
        refine (get_any r _ _).mono ?_
        rintro e v1 ⟨rfl, g4⟩
        have Br1 := has_grown g4 Br
        have BA1 := has_grown g4 BA
        have BB1 := has_grown g4 BB
        obtain ⟨zr1, cr1⟩ := id Br1
        obtain ⟨zA1, cA1⟩ := id BA1
        obtain ⟨zB1, cB1⟩ := id BB1
        go_wp2_with fail
        refine (get_any A _ _).mono ?_
        rintro e v2 ⟨rfl, g5⟩
        have Br2 := has_grown g5 Br1
        have BA2 := has_grown g5 BA1
        have BB2 := has_grown g5 BB1
        have G5 := hid (grown_trans (grown_trans Gw g4) g5)
        go_wp2
        go_roundw
        case rel => exact ⟨k + 1, by omega, by go_num, Br2, BA2, BB2, G5.out⟩
        case measure => simp [intOf]; omega
    · obtain rfl : k = 8 := by omega
      go_wp2
      go_loopw [21] (fun i wr => ∃ k : Nat, k ≤ 5 ∧ i = .int .i64 k ∧ Has wr w.heap.size #[.int .u8 r.a, .int .u8 r.f, .int .u8 r.b, .int .u8 r.c, .int .u8 r.d, .int .u8 r.e, .int .u8 r.h, .int .u8 r.l, .int .u16 r.s, .int .u16 r.p] ∧ Has wr u2.heap.size #[.int .u8 A.a, .int .u8 A.f, .int .u8 A.b, .int .u8 A.c, .int .u8 A.d, .int .u8 A.e, .int .u8 A.h, .int .u8 A.l, .int .u16 A.s, .int .u16 A.p] ∧ Has wr u3.heap.size #[.int .u8 B.a, .int .u8 B.f, .int .u8 B.b, .int .u8 B.c, .int .u8 B.d, .int .u8 B.e, .int .u8 B.h, .int .u8 B.l, .int .u16 B.s, .int .u16 B.p] ∧ Grown w wr) (fun i _ => 5 - (intOf i).toNat)
      case atStart => exact ⟨0, Nat.zero_le _, rfl, Br, BA, BB, Gw⟩
      case round =>
        clear Br BA BB Gw zr cr zA cA zB cB
        obtain ⟨k, hk, rfl, Br, BA, BB, Gw⟩ := hrel
        obtain ⟨zr, cr⟩ := id Br
        obtain ⟨zA, cA⟩ := id BA
        obtain ⟨zB, cB⟩ := id BB
        by_cases hlt : k < 5
        · by_cases hi : (k : Int) = P
          · have hi2 : ((k : Int) == P) = true := by simp [hi]
            have hi2n : ((k : Int) != P) = false := by simp [hi]
            by_cases h4 : (k : Int) = 4
            · have E := hid (show pairOf k B = a3 / 16 * 16 by rw [h4]; exact PF.out (by omega))
              have hw : (a3 / 16 * 16 != IntKind.u16.wrap (IntKind.u16.wrap (a3.tdiv 16) * 16)) = false := wrap_sixteen a3 z0 z1
              have h42 : ((k : Int) == 4) = true := by simp [h4]
              have h42n : ((k : Int) != 4) = false := by simp [h4]
              clear h4 hi
              go_wp2_with fail
              refine (pair_any r _ _ ok).mono ?_
              rintro e v1 ⟨rfl, g4⟩
              have Br1 := has_grown g4 Br
              have BA1 := has_grown g4 BA
              have BB1 := has_grown g4 BB
              obtain ⟨zr1, cr1⟩ := id Br1
              obtain ⟨zA1, cA1⟩ := id BA1
              obtain ⟨zB1, cB1⟩ := id BB1
              go_wp2_with fail
              refine (pair_any B _ _ okB).mono ?_
              rintro e v2 ⟨rfl, g5⟩
              rw [E.out]
              have Br2 := has_grown g5 Br1
              have BA2 := has_grown g5 BA1
              have BB2 := has_grown g5 BB1
              have G5 := hid (grown_trans (grown_trans Gw g4) g5)
              go_wp2
              refine ⟨?_, ?measure⟩
              (repeat apply Exists.intro)
              (repeat apply Exists.intro)
              (repeat apply Exists.intro)
              (repeat apply Exists.intro)
              refine ⟨?rel, rfl⟩
              case rel => exact ⟨k + 1, by omega, by go_num, Br2, BA2, BB2, G5.out⟩
              case measure => simp [intOf]; omega
            · have E := hid (PS.out k hi h4)
              have h42 : ((k : Int) == 4) = false := by simp [h4]
              have h42n : ((k : Int) != 4) = true := by simp [h4]
              clear h4 hi
              go_wp2_with fail
              refine (pair_any r _ _ ok).mono ?_
              rintro e v1 ⟨rfl, g4⟩
              have Br1 := has_grown g4 Br
              have BA1 := has_grown g4 BA
              have BB1 := has_grown g4 BB
              obtain ⟨zr1, cr1⟩ := id Br1
              obtain ⟨zA1, cA1⟩ := id BA1
              obtain ⟨zB1, cB1⟩ := id BB1
              go_wp2_with fail
              refine (pair_any B _ _ okB).mono ?_
              rintro e v2 ⟨rfl, g5⟩
              rw [E.out]
              have Br2 := has_grown g5 Br1
              have BA2 := has_grown g5 BA1
              have BB2 := has_grown g5 BB1
              have G5 := hid (grown_trans (grown_trans Gw g4) g5)
              go_wp2
              refine ⟨?_, ?measure⟩
              (repeat apply Exists.intro)
              (repeat apply Exists.intro)
              (repeat apply Exists.intro)
              (repeat apply Exists.intro)
              refine ⟨?rel, rfl⟩
              case rel => exact ⟨k + 1, by omega, by go_num, Br2, BA2, BB2, G5.out⟩
              case measure => simp [intOf]; omega
          · have E := hid (PP.out k hi)
            have hi2 : ((k : Int) == P) = false := by simp [hi]
            have hi2n : ((k : Int) != P) = true := by simp [hi]
            clear hi
            go_wp2_with fail
            refine (pair_any r _ _ ok).mono ?_
            rintro e v1 ⟨rfl, g4⟩
            have Br1 := has_grown g4 Br
            have BA1 := has_grown g4 BA
            have BB1 := has_grown g4 BB
            obtain ⟨zr1, cr1⟩ := id Br1
            obtain ⟨zA1, cA1⟩ := id BA1
            obtain ⟨zB1, cB1⟩ := id BB1
            go_wp2_with fail
            refine (pair_any B _ _ okB).mono ?_
            rintro e v2 ⟨rfl, g5⟩
            rw [E.out]
            have Br2 := has_grown g5 Br1
            have BA2 := has_grown g5 BA1
            have BB2 := has_grown g5 BB1
            have G5 := hid (grown_trans (grown_trans Gw g4) g5)
            go_wp2
            refine ⟨?_, ?measure⟩
            (repeat apply Exists.intro)
            (repeat apply Exists.intro)
            (repeat apply Exists.intro)
            (repeat apply Exists.intro)
            refine ⟨?rel, rfl⟩
            case rel => exact ⟨k + 1, by omega, by go_num, Br2, BA2, BB2, G5.out⟩
            case measure => simp [intOf]; omega
        · have bp := BP.out
          by_cases he : e0 = 0
          · obtain ⟨f1, f2, f3⟩ := GR.out he
            go_wp2
            go_ret
            exact ⟨rfl, Gw⟩
          · go_wp2
            go_ret
            exact ⟨rfl, Gw⟩

set_option maxRecDepth 100000 in
theorem lifted (os : Os) (started : os.Started) (H : Type) (enc : TypeId × Value → H) :
    ReturnsInHanded {} Tryd.checked os 5 .any (fun w args => (Rows.regsApartSpec.pre enc Tryd.prog Tryd.f5 [] false w args ∧ laidMetH Tryd.prog Rows.regsApartRow.laid w) ∧ sizedMet enc Tryd.prog Tryd.f5 (OpenSpec.ofChange Rows.regsApartSpec) false w args) (Rows.regsApartSpec.post enc Tryd.prog Tryd.f5 false true false false) := by
  refine returnsInHanded_of_change_and (C := Tryd.checked) (X := fun w _ => laidMetH Tryd.prog Rows.regsApartRow.laid w) (fun _ _ _ hh h => h.of_heap hh) own started (by kernel_rfl) Tryd.func5
    (ChangeSpec.witness_shaped (enc := enc) (C := Tryd.checked) (os := os) (X := fun w _ => laidMetH Tryd.prog Rows.regsApartRow.laid w) false (World.doorLaid Tryd.prog 400 os) #[.agg #[.int .u8 0, .int .u8 0, .int .u8 0, .int .u8 0, .int .u8 0, .int .u8 0, .int .u8 0, .int .u8 0, .int .u16 0, .int .u16 0], .int .u8 0, .int .u8 0, .int .u16 0] 8 rfl (World.shaped_of_RefB (by kernel_rfl) (by kernel_rfl)) (by kernel_rfl) (by kernel_rfl) (by kernel_rfl) (door_met os _)) ?_
  intro W base args ds gs before hval0 hW _ _ hL _
  have hval : ∀ (j : Nat) t v, Tryd.f5.params[j]? = some t → args[j]? = some v → Value.okWide Tryd.prog W .any base t v := hval0
  have hW' := hW
  obtain ⟨p, q, hA0, hV, rfl, hfz, hnd⟩ := hW
  have hA : DataW.TrodAll enc Tryd.prog W 0 (fun _ => true) true Tryd.f5.params.toList args.toList ds p := hA0
  rw [Tryd.params5] at hA hval
  obtain ⟨v0, vs0, d0, ds0, p0, q0, hargs, rfl, rfl, h0, r0⟩ := trodAll_cons hA
  obtain ⟨v1, vs1, d1, ds1, p1, q1, rfl, rfl, rfl, h1, r1⟩ := trodAll_cons r0
  obtain ⟨v2, vs2, d2, ds2, p2, q2, rfl, rfl, rfl, h2, r2⟩ := trodAll_cons r1
  obtain ⟨v3, vs3, d3, ds3, p3, q3, rfl, rfl, rfl, h3, r3⟩ := trodAll_cons r2
  obtain ⟨rfl, rfl, rfl⟩ := trodAll_nil r3
  obtain rfl : args = #[v0, v1, v2, v3] := by cases args; simp_all
  obtain ⟨rfl, rfl⟩ := trodVars_none hV
  obtain ⟨rfl, ⟨l0, rfl, e0, f0⟩, k0⟩ := flat_open (n := 8) (c := 10) (L := [(0, .int .u8), (1, .int .u8), (2, .int .u8), (3, .int .u8), (4, .int .u8), (5, .int .u8), (6, .int .u8), (7, .int .u8), (8, .int .u16), (9, .int .u16)]) Tryd.underlying25 (by kernel_rfl) (by kernel_rfl) (hval 0 25 v0 rfl rfl) h0
  obtain ⟨a0c0, a0c1, a0c2, a0c3, a0c4, a0c5, a0c6, a0c7, a0c8, a0c9, rfl, w0c0, w0c1, w0c2, w0c3, w0c4, w0c5, w0c6, w0c7, w0c8, w0c9⟩ := fits25 e0 f0
  obtain ⟨a1, rfl, rfl, rfl, w1⟩ := open_int Tryd.underlying5 (hval 1 5 v1 rfl rfl) h1
  obtain ⟨a2, rfl, rfl, rfl, w2⟩ := open_int Tryd.underlying5 (hval 2 5 v2 rfl rfl) h2
  obtain ⟨a3, rfl, rfl, rfl, w3⟩ := open_int Tryd.underlying23 (hval 3 23 v3 rfl rfl) h3
  clear hA0 hval0
  simp only [List.append_nil] at hW'
  refine (walk a0c0 a0c1 a0c2 a0c3 a0c4 a0c5 a0c6 a0c7 a0c8 a0c9 a1 a2 a3 w0c0 w0c1 w0c2 w0c3 w0c4 w0c5 w0c6 w0c7 w0c8 w0c9 w1 w2 w3 W (of_laid hL)).mono fun e W' ⟨he, hg⟩ => ?_
  subst he
  exact ⟨_, rfl, post_of_same (pa := []) (pv := []) hW' (fun _ _ _ => (trodAll_cons_mk (shut_bool Tryd.underlying4 _) trodAll_mk0)) (fun sp _ => (trodAll_cons_mk (k0 _ _ _ _) (trodAll_cons_mk (shut_int Tryd.underlying5 w1) (trodAll_cons_mk (shut_int Tryd.underlying5 w2) (trodAll_cons_mk (shut_int Tryd.underlying23 w3) trodAll_mk0))))) (fun _ _ => rfl) rfl
    (hg.frame _) hg.2.1 (ok_one (by kernel_rfl) rfl (okWide_bool_mk Tryd.underlying4 _))⟩

theorem over : Rows.regsApartRow.holds Tryd.pinned (OpenSpec.ofChange Rows.regsApartSpec) :=
  OpenClaim.holds_of_wide 5 Tryd.f5 rfl rfl rfl rfl rfl rfl rfl ⟨rfl, rfl, rfl, rfl, rfl⟩ rfl rfl rfl rfl rfl (by kernel_rfl) Tryd.func5 (by kernel_rfl)
    (of_decide_eq_true (by kernel_rfl)) (by unfold Func.isWrapper; first | (rw [if_pos (by decide +kernel)]; kernel_rfl) | (rw [if_neg (by decide +kernel)]; exact ⟨rfl, rfl⟩))
    (fun os started H enc _ => lifted os started H enc)

theorem card : Rows.RegsApartCardSaid :=
  Claim7.holds_tied_plain_at .later [] Rows.regsApartCard.laidKinds true Rows.regsApartCard.stood.harness false
    over (fun _ h => by cases h) (by kernel_rfl) (fun _ h => by cases h) regsApart_row_tie rfl ⟨rfl, rfl⟩ (by kernel_rfl) rfl
    (fun f fn hf hfn => by
      obtain rfl : f = 5 := Option.some.inj ((show Tryd.prog.funcNamed Rows.regsApartRow.func = some 5 by kernel_rfl).symm.trans hf) |>.symm
      obtain rfl : fn = Tryd.f5 := (Option.some.inj (Tryd.func5.symm.trans hfn)).symm
      exact ⟨by kernel_rfl, fun j t ht => by
        rw [Tryd.params5] at ht
        have hm : t ∈ [25, 5, 5, 23] := by simpa using Array.mem_of_getElem? ht
        have hall : ([25, 5, 5, 23].all fun u => !Tryd.prog.wantsStandIn u) = true := by kernel_rfl
        exact (show Tryd.prog.wantsStandIn t = false by simpa using List.all_eq_true.1 hall t hm)⟩)
    (by kernel_rfl)
end Go.Proofs.YtaphcbhmkejbeabDoor.regsApart
namespace Go.Proofs.YtaphcbhmkejbeabDoor
theorem regsApart_holds : Rows.RegsApartCardSaid := regsApart.card
end Go.Proofs.YtaphcbhmkejbeabDoor
