/- MapperInside: whatever registers, place and sizes come in, a place that is told lies within the size, in the bank modulo a power of 2; RAM and a register are never at one place; the law returns true. No condition. -/
import Derived.Test.YtoehmmieceobeabRows
import Derived.WalkKit
import Derived.ProofKit
import Derived.OpenShut
import Derived.ShutString
import Derived.ChangeOld
import Derived.Deep.RegionHeld3
import Derived.Deep.DeepCutAuto
import Derived.LaidMore
import Derived.Lay
import Derived.Stop.Joined
import Derived.SevenTiedAt
import Derived.Deep.DeepHandedRow
import Derived.Deep.DeepWitnessRowRef
import Derived.SizedLaws
import Derived.SliceStrings
import Derived.Test.YtoehmmieceobeabFlat
import Derived.Test.YtoehmmieceobeabK6
import Derived.Test.YtoehmmieceobeabShown8
import Derived.Test.YtoehmmieceobeabMp8i
namespace Go.Proofs.Ytoehmmieceobeab.mapperInside
open Go.ChangeShapes Go.WideShapes Go.ChangeAt Go.RowKit
open Go.ChangeMaps (open_string shut_string)
set_option linter.unusedVariables false

theorem own : ownKnob Try.prog.godebug = none := by kernel_rfl
theorem laidOut : laidOutB Try.prog = true := by kernel_rfl
theorem fits23 {l : List Value} (e : l.length = 6) (f : fitAll [(0, .int .i64), (1, .bool), (2, .int .u8), (3, .int .u8), (4, .int .u8), (5, .bool)] l) :
    ∃ (x0 : Int) (x1 : Bool) (x2 : Int) (x3 : Int) (x4 : Int) (x5 : Bool), l = [.int .i64 x0, .bool x1, .int .u8 x2, .int .u8 x3, .int .u8 x4, .bool x5] ∧ (Lit.int .i64 x0).wf = true ∧ (Lit.int .u8 x2).wf = true ∧ (Lit.int .u8 x3).wf = true ∧ (Lit.int .u8 x4).wf = true := by
  match l, e with
  | [c0, c1, c2, c3, c4, c5], _ =>
    obtain ⟨⟨v0, g0, x0, h0, w0⟩, ⟨v1, g1, x1, h1⟩, ⟨v2, g2, x2, h2, w2⟩, ⟨v3, g3, x3, h3, w3⟩, ⟨v4, g4, x4, h4, w4⟩, ⟨v5, g5, x5, h5⟩, _⟩ := f
    have e0 : c0 = v0 := Option.some.inj g0
    subst h0 e0
    have e1 : c1 = v1 := Option.some.inj g1
    subst h1 e1
    have e2 : c2 = v2 := Option.some.inj g2
    subst h2 e2
    have e3 : c3 = v3 := Option.some.inj g3
    subst h3 e3
    have e4 : c4 = v4 := Option.some.inj g4
    subst h4 e4
    have e5 : c5 = v5 := Option.some.inj g5
    subst h5 e5
    exact ⟨x0, x1, x2, x3, x4, x5, rfl, w0, w2, w3, w4⟩

set_option maxRecDepth 100000 in
set_option maxHeartbeats 8000000 in
theorem walk (a0c0 : Int) (a0c1 : Bool) (a0c2 : Int) (a0c3 : Int) (a0c4 : Int) (a0c5 : Bool) (a1 : Int) (a2 : Int) (a3 : Int) (w : World) (w0c0 : (Lit.int .i64 a0c0).wf = true) (w0c2 : (Lit.int .u8 a0c2).wf = true) (w0c3 : (Lit.int .u8 a0c3).wf = true) (w0c4 : (Lit.int .u8 a0c4).wf = true) (w1 : (Lit.int .u16 a1).wf = true) (w2 : (Lit.int .i64 a2).wf = true) (w3 : (Lit.int .u8 a3).wf = true) :
    Calls Try.prog 3 #[.agg #[.int .i64 a0c0, .bool a0c1, .int .u8 a0c2, .int .u8 a0c3, .int .u8 a0c4, .bool a0c5], .int .u16 a1, .int .i64 a2, .int .u8 a3] w fun e w' => e = .returned (.bool true) ∧ Kept w w' := by
  have MI : MpIn ⟨a0c0, a0c1, a0c2, a0c3, a0c4, a0c5⟩ := ⟨(bounds_i64 w0c0).1, (bounds_i64 w0c0).2, (bounds_u8 w0c2).1, (bounds_u8 w0c2).2, (bounds_u8 w0c3).1, (bounds_u8 w0c3).2, (bounds_u8 w0c4).1, (bounds_u8 w0c4).2⟩
  obtain ⟨p0, p1⟩ := bounds_u16 w1
  obtain ⟨s0, s1⟩ := bounds_i64 w2
  obtain ⟨l0, l1⟩ := bounds_u8 w3
  have S := hid (fun u => shown8 u)
  have PW := pow_fin ⟨(a3 % 10).toNat, by omega⟩
  simp only at PW
  obtain ⟨BK, hBK⟩ : ∃ v, (2 : Int) ^ (a3 % 10).toNat = v := ⟨_, rfl⟩
  have HBK := hid hBK
  rw [hBK] at PW
  obtain ⟨bk0, bk1⟩ := PW
  clear hBK
  have A := hid (fun u => mrom_any ⟨a0c0, a0c1, a0c2, a0c3, a0c4, a0c5⟩ a1 a2 u p0 p1 s0 s1 MI)
  have B := hid (fun u => mram_any ⟨a0c0, a0c1, a0c2, a0c3, a0c4, a0c5⟩ a1 a2 u p0 p1 s0 s1 MI)
  have C := hid (fun u => mreg_any ⟨a0c0, a0c1, a0c2, a0c3, a0c4, a0c5⟩ a1 u p0 p1 MI)
  have D := hid (fun u => mrom_any ⟨a0c0, a0c1, a0c2, a0c3, a0c4, a0c5⟩ a1 (BK * 16384) u p0 p1 (by omega) (by omega) MI)
  have F := hid (fun u => mbank_any ⟨a0c0, a0c1, a0c2, a0c3, a0c4, a0c5⟩ a1 u p0 p1 MI)
  have RY := hid (rom_yes ⟨a0c0, a0c1, a0c2, a0c3, a0c4, a0c5⟩ a1 a2 MI p0)
  have RN := hid (rom_no ⟨a0c0, a0c1, a0c2, a0c3, a0c4, a0c5⟩ a1 a2)
  have RO := hid (ram_or ⟨a0c0, a0c1, a0c2, a0c3, a0c4, a0c5⟩ a1 a2 MI p0)
  have RB := hid (fun h => rom_bank ⟨a0c0, a0c1, a0c2, a0c3, a0c4, a0c5⟩ a1 BK MI p0 h bk0)
  have RD := hid (fun (h : a1 ≤ 32767) => rom_yes ⟨a0c0, a0c1, a0c2, a0c3, a0c4, a0c5⟩ a1 (BK * 16384) MI p0 (by omega) h)
  obtain ⟨bb0, bb1⟩ := bank_bd ⟨a0c0, a0c1, a0c2, a0c3, a0c4, a0c5⟩ a1 MI
  obtain ⟨rc0, rc1⟩ := reg_bd ⟨a0c0, a0c1, a0c2, a0c3, a0c4, a0c5⟩ a1 MI
  generalize romM ⟨a0c0, a0c1, a0c2, a0c3, a0c4, a0c5⟩ a1 a2 = ra at *
  generalize ramM ⟨a0c0, a0c1, a0c2, a0c3, a0c4, a0c5⟩ a1 a2 = rb at *
  generalize regM ⟨a0c0, a0c1, a0c2, a0c3, a0c4, a0c5⟩ a1 = rc at *
  generalize romM ⟨a0c0, a0c1, a0c2, a0c3, a0c4, a0c5⟩ a1 (BK * 16384) = rd at *
  generalize bankM ⟨a0c0, a0c1, a0c2, a0c3, a0c4, a0c5⟩ a1 = bn at *
  have t10 : Int.tmod a3 10 = a3 % 10 := Int.tmod_eq_emod_of_nonneg l0
  have w10 : IntKind.u8.wrap (a3 % 10) = a3 % 10 := by rw [IntKind.wrap_u8]; omega
  have SH := hid (sh_all (a3 % 10).toNat BK HBK.out bk0 bk1)
  have wm : IntKind.i64.wrap (BK * 16384) = BK * 16384 := by rw [IntKind.wrap_i64]; omega
  have wm2 : wrap64 (BK * 16384) = BK * 16384 := by unfold wrap64; omega
  have bz : ¬ (BK = 0) := by omega
  go_enter Try.func3, Try.ntmps3
  go_wp2_with fail
  refine (S.out _).mono ?_
  rintro e u1 ⟨rfl, k1⟩
  have K1 := hid (((Kept.refl w).alloc _).trans k1)
  have H1 := hasK k1 (has_alloc w #[.int .i64 a0c0, .bool a0c1, .int .u8 a0c2, .int .u8 a0c3, .int .u8 a0c4, .bool a0c5] 23)
  have HH1 := hid H1
  obtain ⟨z1, c1⟩ := id H1
  have e10 := c1 0
  have e11 := c1 1
  have e12 := c1 2
  have e13 := c1 3
  have e14 := c1 4
  have e15 := c1 5
  simp at e10 e11 e12 e13 e14 e15
  clear H1 c1 k1
  go_wp2_with fail
  refine (A.out _).mono ?_
  rintro e u2 ⟨rfl, k2⟩
  have K2 := hid (K1.out.trans k2)
  clear e10 e11 e12 e13 e14 e15 z1
  have H2 := hasK k2 HH1.out
  have HH2 := hid H2
  obtain ⟨z2, c2⟩ := id H2
  have e20 := c2 0
  have e21 := c2 1
  have e22 := c2 2
  have e23 := c2 3
  have e24 := c2 4
  have e25 := c2 5
  simp at e20 e21 e22 e23 e24 e25
  clear H2 c2 k2
  go_wp2_with fail
  refine (B.out _).mono ?_
  rintro e u3 ⟨rfl, k3⟩
  have K3 := hid (K2.out.trans k3)
  clear e20 e21 e22 e23 e24 e25 z2
  have H3 := hasK k3 HH2.out
  have HH3 := hid H3
  obtain ⟨z3, c3⟩ := id H3
  have e30 := c3 0
  have e31 := c3 1
  have e32 := c3 2
  have e33 := c3 3
  have e34 := c3 4
  have e35 := c3 5
  simp at e30 e31 e32 e33 e34 e35
  clear H3 c3 k3
  go_wp2_with fail
  refine (C.out _).mono ?_
  rintro e u4 ⟨rfl, k4⟩
  have K4 := hid (K3.out.trans k4)
  clear e30 e31 e32 e33 e34 e35 z3
  have H4 := hasK k4 HH3.out
  have HH4 := hid H4
  obtain ⟨z4, c4⟩ := id H4
  have e40 := c4 0
  have e41 := c4 1
  have e42 := c4 2
  have e43 := c4 3
  have e44 := c4 4
  have e45 := c4 5
  simp at e40 e41 e42 e43 e44 e45
  clear H4 c4 k4
  have A1 : (1 ≤ a2 ∧ a1 ≤ 32767) ∨ (a2 < 1 ∧ a1 ≤ 32767) ∨ (a2 < 1 ∧ 32767 < a1) ∨ (1 ≤ a2 ∧ 32767 < a1) := by omega
  have g1 : decide (rb < -1) = false := decide_eq_false (by rcases RO.out with h | h <;> omega)
  rcases A1 with ⟨x1, x2⟩ | ⟨x1, x2⟩ | ⟨x1, x2⟩ | ⟨x1, x2⟩
  · obtain ⟨y0, y1⟩ := RY.out x1 x2
    have v1 : decide (ra < -1) = false := decide_eq_false (by omega)
    have v2 : decide (0 ≤ ra) = true := decide_eq_true (by omega)
    have v3 : decide (a2 ≤ ra) = false := decide_eq_false (by omega)
    have v4 : decide (0 < a2) = true := decide_eq_true (by omega)
    have v5 : decide (a1 < 32768) = true := decide_eq_true (by omega)
    have v6 : decide (32767 < a1) = false := decide_eq_false (by omega)
    obtain ⟨r0, r1⟩ := RB.out x2
    obtain ⟨d0, d1⟩ := RD.out x2
    have dm : rd ≤ 8388607 := by omega
    have td : Int.tdiv rd 16384 = bn % BK := by rw [← r0]; exact Int.tdiv_eq_ediv_of_nonneg d0
    have tm : Int.tmod rd 16384 = a1 % 16384 := by rw [← r1]; exact Int.tmod_eq_emod_of_nonneg d0
    have tb : Int.tmod bn BK = bn % BK := Int.tmod_eq_emod_of_nonneg bb0
    have ta : Int.tmod a1 16384 = a1 % 16384 := Int.tmod_eq_emod_of_nonneg p0
    have q0 := Int.emod_nonneg bn bz
    have q1 := Int.emod_lt_of_pos bn (show 0 < BK by omega)
    obtain ⟨Q, hQ⟩ : ∃ v, bn % BK = v := ⟨_, rfl⟩
    rw [hQ] at td tb q0 q1
    have wq : IntKind.i64.wrap Q = Q := by rw [IntKind.wrap_i64]; omega
    have wq2 : wrap64 Q = Q := by unfold wrap64; omega
    have wa : IntKind.i64.wrap a1 = a1 := by rw [IntKind.wrap_i64]; omega
    have wr1 : IntKind.i64.wrap (a1 % 16384) = a1 % 16384 := by rw [IntKind.wrap_i64]; omega
    have wr2 : wrap64 (a1 % 16384) = a1 % 16384 := by unfold wrap64; omega
    clear hQ r0 r1
    rcases RO.out with b1 | ⟨b1, b2, b3, b4, b5⟩
    · have w1 : decide (0 ≤ rb) = false := decide_eq_false (by omega)
      clear RY RN RO RB RD A B C
      obtain ⟨sh1, sh2, sh3, sh4⟩ := SH.out
      go_wp2_with fail
      refine (D.out _).mono ?_
      rintro e u5 ⟨rfl, k5⟩
      have K5 := hid (K4.out.trans k5)
      clear e40 e41 e42 e43 e44 e45 z4
      have H5 := hasK k5 HH4.out
      have HH5 := hid H5
      obtain ⟨z5, c5⟩ := id H5
      have e50 := c5 0
      have e51 := c5 1
      have e52 := c5 2
      have e53 := c5 3
      have e54 := c5 4
      have e55 := c5 5
      simp at e50 e51 e52 e53 e54 e55
      clear H5 c5 k5
      go_wp2_with fail
      refine (F.out _).mono ?_
      rintro e u6 ⟨rfl, k6⟩
      have K6 := hid (K5.out.trans k6)
      clear k6
      go_wp2
      go_ret
      exact ⟨rfl, K6.out⟩
    · omega
  · have y0 := RN.out (.inl x1)
    have v1 : decide (ra < -1) = false := decide_eq_false (by omega)
    have v2 : decide (0 ≤ ra) = false := decide_eq_false (by omega)
    have v4 : decide (0 < a2) = false := decide_eq_false (by omega)
    have v5 : decide (a1 < 32768) = true := decide_eq_true (by omega)
    have v6 : decide (32767 < a1) = false := decide_eq_false (by omega)
    obtain ⟨r0, r1⟩ := RB.out x2
    obtain ⟨d0, d1⟩ := RD.out x2
    have dm : rd ≤ 8388607 := by omega
    have td : Int.tdiv rd 16384 = bn % BK := by rw [← r0]; exact Int.tdiv_eq_ediv_of_nonneg d0
    have tm : Int.tmod rd 16384 = a1 % 16384 := by rw [← r1]; exact Int.tmod_eq_emod_of_nonneg d0
    have tb : Int.tmod bn BK = bn % BK := Int.tmod_eq_emod_of_nonneg bb0
    have ta : Int.tmod a1 16384 = a1 % 16384 := Int.tmod_eq_emod_of_nonneg p0
    have q0 := Int.emod_nonneg bn bz
    have q1 := Int.emod_lt_of_pos bn (show 0 < BK by omega)
    obtain ⟨Q, hQ⟩ : ∃ v, bn % BK = v := ⟨_, rfl⟩
    rw [hQ] at td tb q0 q1
    have wq : IntKind.i64.wrap Q = Q := by rw [IntKind.wrap_i64]; omega
    have wq2 : wrap64 Q = Q := by unfold wrap64; omega
    have wa : IntKind.i64.wrap a1 = a1 := by rw [IntKind.wrap_i64]; omega
    have wr1 : IntKind.i64.wrap (a1 % 16384) = a1 % 16384 := by rw [IntKind.wrap_i64]; omega
    have wr2 : wrap64 (a1 % 16384) = a1 % 16384 := by unfold wrap64; omega
    clear hQ r0 r1
    rcases RO.out with b1 | ⟨b1, b2, b3, b4, b5⟩
    · have w1 : decide (0 ≤ rb) = false := decide_eq_false (by omega)
      clear RY RN RO RB RD A B C
      obtain ⟨sh1, sh2, sh3, sh4⟩ := SH.out
      go_wp2_with fail
      refine (D.out _).mono ?_
      rintro e u5 ⟨rfl, k5⟩
      have K5 := hid (K4.out.trans k5)
      clear e40 e41 e42 e43 e44 e45 z4
      have H5 := hasK k5 HH4.out
      have HH5 := hid H5
      obtain ⟨z5, c5⟩ := id H5
      have e50 := c5 0
      have e51 := c5 1
      have e52 := c5 2
      have e53 := c5 3
      have e54 := c5 4
      have e55 := c5 5
      simp at e50 e51 e52 e53 e54 e55
      clear H5 c5 k5
      go_wp2_with fail
      refine (F.out _).mono ?_
      rintro e u6 ⟨rfl, k6⟩
      have K6 := hid (K5.out.trans k6)
      clear k6
      go_wp2
      go_ret
      exact ⟨rfl, K6.out⟩
    · omega
  · have y0 := RN.out (.inl x1)
    have v1 : decide (ra < -1) = false := decide_eq_false (by omega)
    have v2 : decide (0 ≤ ra) = false := decide_eq_false (by omega)
    have v4 : decide (0 < a2) = false := decide_eq_false (by omega)
    have v5 : decide (a1 < 32768) = false := decide_eq_false (by omega)
    have v6 : decide (32767 < a1) = true := decide_eq_true (by omega)
    rcases RO.out with b1 | ⟨b1, b2, b3, b4, b5⟩
    · have w1 : decide (0 ≤ rb) = false := decide_eq_false (by omega)
      clear RY RN RO RB RD A B C
      obtain ⟨sh1, sh2, sh3, sh4⟩ := SH.out
      go_wp2_with fail
      refine (D.out _).mono ?_
      rintro e u5 ⟨rfl, k5⟩
      have K5 := hid (K4.out.trans k5)
      clear e40 e41 e42 e43 e44 e45 z4
      clear k5
      go_wp2
      go_ret
      exact ⟨rfl, K5.out⟩
    · omega
  · have y0 := RN.out (.inr x2)
    have v1 : decide (ra < -1) = false := decide_eq_false (by omega)
    have v2 : decide (0 ≤ ra) = false := decide_eq_false (by omega)
    have v4 : decide (0 < a2) = true := decide_eq_true (by omega)
    have v5 : decide (a1 < 32768) = false := decide_eq_false (by omega)
    have v6 : decide (32767 < a1) = true := decide_eq_true (by omega)
    rcases RO.out with b1 | ⟨b1, b2, b3, b4, b5⟩
    · have w1 : decide (0 ≤ rb) = false := decide_eq_false (by omega)
      clear RY RN RO RB RD A B C
      obtain ⟨sh1, sh2, sh3, sh4⟩ := SH.out
      go_wp2_with fail
      refine (D.out _).mono ?_
      rintro e u5 ⟨rfl, k5⟩
      have K5 := hid (K4.out.trans k5)
      clear e40 e41 e42 e43 e44 e45 z4
      clear k5
      go_wp2
      go_ret
      exact ⟨rfl, K5.out⟩
    · have w1 : decide (0 ≤ rb) = true := decide_eq_true (by omega)
      have w2 : decide (a2 ≤ rb) = false := decide_eq_false (by omega)
      have w3 : decide (a1 < 40960) = false := decide_eq_false (by omega)
      have w4 : decide (49151 < a1) = false := decide_eq_false (by omega)
      have w5 : decide (0 < rc) = false := decide_eq_false (by omega)
      clear RY RN RO RB RD A B C
      obtain ⟨sh1, sh2, sh3, sh4⟩ := SH.out
      go_wp2_with fail
      refine (D.out _).mono ?_
      rintro e u5 ⟨rfl, k5⟩
      have K5 := hid (K4.out.trans k5)
      clear e40 e41 e42 e43 e44 e45 z4
      clear k5
      go_wp2
      go_ret
      exact ⟨rfl, K5.out⟩

set_option maxRecDepth 100000 in
theorem contract (H : Type) (enc : TypeId × Value → H) (fi : Stop.Interp) (W : World) (base : Nat) (args : Array Value) (ds gs : List (DataW H)) (before : List MemPlace)
    (hval : ∀ (j : Nat) t v, Try.f3.params[j]? = some t → args[j]? = some v → Value.okWide Try.prog W .any base t v)
    (hW : DataW.Whole enc Try.prog Try.f3.params.toList (OpenSpec.ofChange Rows.mapperInsideSpec).vars false W args.toList ds gs before)
    (hk0 : ∀ k, (OpenSpec.ofChange Rows.mapperInsideSpec).cond = some k → k H (ds ++ gs) = true)
    (hsz0 : (DataW.weightsEach Try.prog (Try.f3.params.toList ++ (OpenSpec.ofChange Rows.mapperInsideSpec).bare.plain.varTypes Try.prog) (ds ++ gs)).all (· ≤ reachBytes) = true) (hL : laidMetH Try.prog Rows.mapperInsideRow.laid W) :
    Calls Try.prog 3 args W fun e W' => ∃ v, e = .returned v ∧ ((OpenSpec.ofChange Rows.mapperInsideSpec).at fi).post enc Try.prog Try.f3 false true false false W args v W' := by
  have hW' := hW
  obtain ⟨p, q, hA0, hV, rfl, hfz, hnd⟩ := hW
  have hA : DataW.TrodAll enc Try.prog W 0 (fun _ => true) true Try.f3.params.toList args.toList ds p := hA0
  rw [Try.params3] at hA hval
  obtain ⟨v0, vs0, d0, ds0, p0, q0, hargs, rfl, rfl, h0, r0x⟩ := trodAll_cons hA
  obtain ⟨v1, vs1, d1, ds1, p1, q1, rfl, rfl, rfl, h1, r1x⟩ := trodAll_cons r0x
  obtain ⟨v2, vs2, d2, ds2, p2, q2, rfl, rfl, rfl, h2, r2x⟩ := trodAll_cons r1x
  obtain ⟨v3, vs3, d3, ds3, p3, q3, rfl, rfl, rfl, h3, r3x⟩ := trodAll_cons r2x
  obtain ⟨rfl, rfl, rfl⟩ := trodAll_nil r3x
  obtain rfl : args = #[v0, v1, v2, v3] := by cases args; simp_all
  obtain ⟨rfl, rfl⟩ := trodVars_none hV
  have hsz : (DataW.weightsEach Try.prog [23, 24, 3, 5] [d0, d1, d2, d3]).all (· ≤ reachBytes) = true := by
    have q := hsz0
    rw [show Try.f3.params.toList ++ (OpenSpec.ofChange Rows.mapperInsideSpec).bare.plain.varTypes Try.prog = [23, 24, 3, 5] by kernel_rfl] at q
    simpa using q
  obtain ⟨rfl, ⟨l0, rfl, e0, f0⟩, k0⟩ := flat_open (n := 8) (c := 6) (L := [(0, .int .i64), (1, .bool), (2, .int .u8), (3, .int .u8), (4, .int .u8), (5, .bool)]) Try.underlying23 (by kernel_rfl) (by kernel_rfl) (hval 0 23 v0 rfl rfl) h0
  obtain ⟨a0c0, a0c1, a0c2, a0c3, a0c4, a0c5, rfl, w0c0, w0c2, w0c3, w0c4⟩ := fits23 e0 f0
  obtain ⟨a1, rfl, rfl, rfl, w1⟩ := open_int Try.underlying24 (hval 1 24 v1 rfl rfl) h1
  obtain ⟨a2, rfl, rfl, rfl, w2⟩ := open_int Try.underlying3 (hval 2 3 v2 rfl rfl) h2
  obtain ⟨a3, rfl, rfl, rfl, w3⟩ := open_int Try.underlying5 (hval 3 5 v3 rfl rfl) h3
  clear hA0
  refine (walk a0c0 a0c1 a0c2 a0c3 a0c4 a0c5 a1 a2 a3 W w0c0 w0c2 w0c3 w0c4 w1 w2 w3).mono fun e W' ⟨he, hg⟩ => ?_
  subst he
  exact ⟨_, rfl, _, _, _, [], _, [], hW', trodAll_mk1 (shut_bool Try.underlying4 _), (trodAll_cons_mk (k0 _ _ _ _) (trodAll_cons_mk (shut_int Try.underlying24 w1) (trodAll_cons_mk (shut_int Try.underlying3 w2) (trodAll_cons_mk (shut_int Try.underlying5 w3) trodAll_mk0)))), rfl, hg.frame _, fun h => by cases h⟩
theorem start_met (os : Os) (args : Array Value) : laidMetH Try.prog Rows.mapperInsideRow.laid ((World.laidAll Try.prog os Rows.mapperInsideRow.laid).forCall (fun _ _ => 0) ⟨#[], args, []⟩).memory := by
  exact ⟨[], rfl, List.nodup_nil, fun _ _ h => by cases h⟩
theorem reads (os : Os) {H : Type} (enc : TypeId × Value → H) : ∃ places, DataW.whole enc Try.prog ((World.laidAll Try.prog os Rows.mapperInsideRow.laid).forCall (fun _ _ => 0) ⟨#[], #[.agg #[.int .i64 0, .bool false, .int .u8 0, .int .u8 0, .int .u8 0, .bool false], .int .u16 0, .int .i64 0, .int .u8 0], []⟩).memory Try.f3.params.toList (OpenSpec.ofChange Rows.mapperInsideSpec).vars false #[.agg #[.int .i64 0, .bool false, .int .u8 0, .int .u8 0, .int .u8 0, .bool false], .int .u16 0, .int .i64 0, .int .u8 0].toList 8 = some ([.agg [.lit (.int .i64 0), .lit (.bool false), .lit (.int .u8 0), .lit (.int .u8 0), .lit (.int .u8 0), .lit (.bool false)], .lit (.int .u16 0), .lit (.int .i64 0), .lit (.int .u8 0)], [], places) :=
  ⟨[], by kernel_rfl⟩
set_option maxRecDepth 100000 in
theorem lifted (os : Os) (started : os.Started) (H : Type) (enc : TypeId × Value → H) (fi : Stop.Interp) :
    ReturnsInHanded {} Try.checked os 3 .any ((OpenSpec.ofChange Rows.mapperInsideSpec).preRow enc Try.prog Try.f3 Rows.mapperInsideRow.domain false Rows.mapperInsideRow.laid) (((OpenSpec.ofChange Rows.mapperInsideSpec).at fi).post enc Try.prog Try.f3 false true false false) := by
  obtain ⟨places, hx⟩ := reads os enc
  refine returnsInHanded_of_row (C := Try.checked) (s := (OpenSpec.ofChange Rows.mapperInsideSpec)) own started (by kernel_rfl) Try.func3
    (witness_row_atRef (enc := enc) (C := Try.checked) false (World.laidAll Try.prog os Rows.mapperInsideRow.laid) #[.agg #[.int .i64 0, .bool false, .int .u8 0, .int .u8 0, .int .u8 0, .bool false], .int .u16 0, .int .i64 0, .int .u8 0] (World.laidAll_os _ _ _) (by kernel_rfl) (by kernel_rfl) (by kernel_rfl)
      (OpenSpec.preRow_of_cond 8 hx (by kernel_rfl) (fun k hk => by cases hk) (by kernel_rfl) (start_met os _))) ?_
  intro W base args ds gs before hval hW _ hk hsz hL _ _
  exact contract H enc fi W base args ds gs before hval hW hk hsz hL
theorem said : Rows.MapperInsideSaid :=
  OpenClaim.holds_of_cond 3 Try.f3 rfl rfl rfl rfl rfl rfl rfl ⟨rfl, rfl, rfl, rfl, rfl⟩ rfl rfl rfl rfl rfl (by kernel_rfl) Try.func3 (by kernel_rfl)
    (of_decide_eq_true (by kernel_rfl)) (by unfold Func.isWrapper; first | (rw [if_pos (by decide +kernel)]; kernel_rfl) | (rw [if_neg (by decide +kernel)]; exact ⟨rfl, rfl⟩))
    (fun os started H enc _ fi => by rw [OpenClaim.pre_eq_preRow]; exact lifted os started H enc fi)
end Go.Proofs.Ytoehmmieceobeab.mapperInside
namespace Go.Proofs.Ytoehmmieceobeab
theorem mapperInside_holds : Rows.MapperInsideSaid := mapperInside.said
end Go.Proofs.Ytoehmmieceobeab
