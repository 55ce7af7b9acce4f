/- Layer 16's laws: ObjectsScans, ObjectsExtras, ObjectsRows. -/
import Derived.Test.YtaknbjignaefkaaSw16
import Derived.Test.YtaknbjignaefkaaRo16
namespace Go.Proofs.Ytaknbjignaefkaa
open Go.RowKit
set_option linter.unusedVariables false
set_option linter.unusedSimpArgs false

set_option maxRecDepth 100000 in
set_option maxHeartbeats 4000000 in
theorem scans16 (a : Option Addr) (cap : Nat) (z : List Int) (l : Int) (t : Bool) (w : World) (h : Sl w a cap z) (hl : z.length ≤ 140737488355328) :
    Calls Try.prog 3 #[.slice a z.length cap, .int .i64 l, .bool t] w fun e w' => e = .returned (.bool true) ∧ Kept w w' := by
  have S := hid (fun u => kshown16 u)
  have A := hid (fun u k => pscan16 a cap z l t u (sl_kept k h) hl)
  have B := hid (fun u k => rscan16 a cap z l t u (sl_kept k h))
  have LL : (scanL z l t).length ≤ 10 := by unfold scanL; rw [List.length_take]; omega
  have C := hid (fun x cx y cy u p q => rsame16 x cx (scanL z l t) y cy (scanL z l t) u p q (by omega))
  rw [decide_eq_true (rfl : scanL z l t = scanL z l t)] at C
  generalize scanL z l t = L at *
  clear h
  go_enter Try.func3, Try.ntmps3
  go_wp2_with fail
  refine (S.out _).mono ?_
  rintro e u1 ⟨rfl, k1⟩
  have K1 := hid k1
  clear k1
  go_wp2_with fail
  refine (A.out _ K1.out).mono ?_
  rintro e u2 ⟨⟨a2, c2, rfl, s2⟩, k2⟩
  have K2 := hid (K1.out.trans k2)
  have S2 := hid s2
  clear k2 s2
  go_wp2_with fail
  refine (B.out _ K2.out).mono ?_
  rintro e u3 ⟨⟨a3, c3, rfl, s3⟩, k3⟩
  have K3 := hid (K2.out.trans k3)
  have S3 := hid s3
  have S4 := hid (slO_kept k3 S2.out)
  clear k3 s3
  go_wp2_with fail
  refine (C.out _ _ _ _ _ S4.out S3.out).mono ?_
  rintro e u4 ⟨rfl, k4⟩
  have K4 := hid (K3.out.trans k4)
  clear k4
  go_wp2
  go_ret
  exact ⟨rfl, K4.out⟩
set_option maxRecDepth 100000 in
set_option maxHeartbeats 4000000 in
theorem extras16 (a : Option Addr) (cap : Nat) (L : List Ob) (s : Int) (w : World) (h : SlO w a cap L) (hl : L.length ≤ 28147497670246) (s0 : 0 ≤ s) (s1 : s ≤ 255) :
    Calls Try.prog 6 #[.slice a L.length cap, .int .u8 s] w fun e w' => e = .returned (.bool true) ∧ Kept w w' := by
  have S := hid (fun u => kshown16 u)
  have A := hid (fun u k => pext16 a cap L s u (slO_kept k h) hl s0 s1)
  have B := hid (fun u k => rext16 a cap L s u (slO_kept k h) hl s0 s1)
  generalize sumI L s L.length = v at *
  generalize L.length = n at *
  clear h
  go_enter Try.func6, Try.ntmps6
  go_wp2_with fail
  refine (S.out _).mono ?_
  rintro e u1 ⟨rfl, k1⟩
  have K1 := hid k1
  clear k1
  go_wp2_with fail
  refine (A.out _ K1.out).mono ?_
  rintro e u2 ⟨rfl, k2⟩
  have K2 := hid (K1.out.trans k2)
  clear k2
  go_wp2_with fail
  refine (B.out _ K2.out).mono ?_
  rintro e u3 ⟨rfl, rfl⟩
  go_wp2
  go_ret
  exact ⟨by simp, K2.out⟩
set_option maxRecDepth 100000 in
set_option maxHeartbeats 4000000 in
theorem rows16 (o : Ob) (l x : Int) (w : World) : Calls Try.prog 5 #[obV o, .int .i64 l, .int .i64 x] w fun e w' => e = .returned (.bool true) ∧ Kept w w' := by
  have S := hid (fun u => kshown16 u)
  have A := hid (fun b u => prow16 o l b u)
  have B := hid (fun b u => rrow16 o l b u)
  have C := hid (fun u => pcol16 o x u)
  have D := hid (fun u => rcol16 o x u)
  generalize colI o x = ci at *
  generalize colOn o x = cb at *
  generalize tileR o l = tf at *
  generalize rowR o l = rf at *
  generalize onP o l = bf at *
  obtain ⟨⟨oy, ly⟩, ⟨ox, lx⟩, ⟨ot, lt⟩, ⟨oa, la⟩, ⟨on, ln⟩⟩ := o
  simp only [obV, b8] at A B C D ⊢
  go_enter Try.func5, Try.ntmps5
  go_wp2_with fail
  refine (S.out _).mono ?_
  rintro e u1 ⟨rfl, k1⟩
  have K1 := hid (((Kept.refl w).alloc _).trans k1)
  have H1 := hid (hasK k1 (has_alloc w #[.int .u8 (oy : Int), .int .u8 (ox : Int), .int .u8 (ot : Int), .int .u8 (oa : Int), .int .u8 (on : Int)] 31))
  clear k1
  go_wp2_with fail
  go_loopw [8] (fun iv wr => ∃ j : Nat, j ≤ 2 ∧ iv = .int .i64 (j : Int) ∧ Kept u1 wr) (fun iv _ => 2 - (intOf iv).toNat)
  case atStart => exact ⟨0, by omega, rfl, Kept.refl u1⟩
  case round =>
    obtain ⟨j, hj, rfl, hk⟩ := hrel
    have KK := hid hk
    obtain ⟨z1, c1⟩ := hasK hk H1.out
    have d0 := c1 0
    have d1 := c1 1
    have d2 := c1 2
    have d3 := c1 3
    have d4 := c1 4
    simp at d0 d1 d2 d3 d4
    clear c1 hk
    by_cases hlt : j < 2
    · have g1 : decide ((j : Int) < 2) = true := decide_eq_true (by omega)
      have g2 : (j : Int) < 2 := by omega
      obtain ⟨b, hb⟩ : ∃ b, ((j : Int) == 1) = b := ⟨_, rfl⟩
      go_wp2_with fail
      refine (A.out b _).mono ?_
      rintro e u2 ⟨rfl, k2⟩
      have K2 := hid (KK.out.trans k2)
      obtain ⟨z2, c2⟩ := hasK K2.out H1.out
      have e0 := c2 0
      have e1 := c2 1
      have e2 := c2 2
      have e3 := c2 3
      have e4 := c2 4
      simp at e0 e1 e2 e3 e4
      clear k2 c2 d0 d1 d2 d3 d4 KK z1
      go_wp2_with fail
      refine (B.out b _).mono ?_
      rintro e u3 ⟨rfl, k3⟩
      have K3 := hid (K2.out.trans k3)
      clear k3 K2
      go_wp2
      go_roundw
      case rel => exact ⟨j + 1, by omega, by go_num, K3.out⟩
      case measure => first | omega | (simp; omega) | (simp [intOf]; omega)
    · have g1 : decide ((j : Int) < 2) = false := decide_eq_false (by omega)
      have g2 : ¬ (j : Int) < 2 := by omega
      go_wp2_with fail
      refine (C.out _).mono ?_
      rintro e u2 ⟨rfl, k2⟩
      have K2 := hid (KK.out.trans k2)
      obtain ⟨z2, c2⟩ := hasK K2.out H1.out
      have e0 := c2 0
      have e1 := c2 1
      have e2 := c2 2
      have e3 := c2 3
      have e4 := c2 4
      simp at e0 e1 e2 e3 e4
      clear k2 c2 d0 d1 d2 d3 d4 KK z1
      go_wp2_with fail
      refine (D.out _).mono ?_
      rintro e u3 ⟨rfl, k3⟩
      have K3 := hid (K2.out.trans k3)
      clear k3 K2
      go_wp2
      go_ret
      exact ⟨by simp, K1.out.trans K3.out⟩
end Go.Proofs.Ytaknbjignaefkaa
