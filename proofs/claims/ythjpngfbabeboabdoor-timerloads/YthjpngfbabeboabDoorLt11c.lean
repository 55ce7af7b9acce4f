/- Layer 11: TimerLoads, as a walk. -/
import Derived.Test.YthjpngfbabeboabDoorSw11
namespace Go.Proofs.YthjpngfbabeboabDoor
open Go.RowKit
set_option linter.unusedVariables false
set_option linter.unusedSimpArgs false

theorem tm_in {d a m c s : Int} (d0 : 0 ≤ d) (d1 : d ≤ 65535) (a0 : 0 ≤ a) (a1 : a ≤ 255) (m0 : 0 ≤ m) (m1 : m ≤ 255) (c0 : 0 ≤ c) (c1 : c ≤ 255) (s0 : 0 ≤ s) (s1 : s ≤ 255) : TmIn ⟨d, a, m, c, s⟩ := ⟨d0, d1, a0, a1, m0, m1, c0, c1, s0, s1⟩
theorem hot5 (t : Tm) (h : t.tac = 5) : hotT t = true ↔ t.div / 8 % 2 = 1 := by
  have := hot_iff t (by rw [h]; rfl)
  rw [this, h]
  exact Iff.rfl
theorem hot5n (t : Tm) (h : t.tac = 5) (q : t.div / 8 % 2 ≠ 1) : hotT t = false := by
  cases hh : hotT t
  · rfl
  · exact absurd ((hot5 t h).1 hh) q
/-- In so many cycles it overflows. -/
def toT (d : Int) : Nat := (4 - d % 16 / 4).toNat
theorem to_le (d : Int) (d0 : 0 ≤ d) : 1 ≤ toT d ∧ toT d ≤ 4 := by unfold toT; omega
theorem ahead5 (d m : Int) (d0 : 0 ≤ d) (d1 : d ≤ 65535) : ∀ j, j < toT d → stepN (⟨d, 255, m, 5, 0⟩ : Tm) j = ⟨(d + 4 * (j : Int)) % 65536, 255, m, 5, 0⟩
  | 0, _ => by show (⟨d, 255, m, 5, 0⟩ : Tm) = _; congr 1; omega
  | j + 1, hj => by
    have ih := ahead5 d m d0 d1 j (by omega)
    have hx : toT d = (4 - d % 16 / 4).toNat := rfl
    show stepT (stepN (⟨d, 255, m, 5, 0⟩ : Tm) j) = _
    rw [ih]
    unfold stepT
    have nx : nextT ⟨(d + 4 * (j : Int)) % 65536, 255, m, 5, 0⟩ = ⟨((d + 4 * (j : Int)) % 65536 + 4) % 65536, 255, m, 5, 0⟩ := rfl
    rw [nx, if_neg, show ((d + 4 * (j : Int)) % 65536 + 4) % 65536 = (d + 4 * ((j + 1 : Nat) : Int)) % 65536 by omega]
    rintro ⟨q1, q2⟩
    have q1 : (d + 4 * (j : Int)) % 65536 / 8 % 2 = 1 := (hot5 _ rfl).1 q1
    have q3 : ¬ ((d + 4 * (j : Int)) % 65536 + 4) % 65536 / 8 % 2 = 1 := fun z => by
      have := (hot5 ⟨((d + 4 * (j : Int)) % 65536 + 4) % 65536, 255, m, 5, 0⟩ rfl).2 z
      rw [q2] at this; cases this
    omega
theorem over5 (d m : Int) (d0 : 0 ≤ d) (d1 : d ≤ 65535) : stepN (⟨d, 255, m, 5, 0⟩ : Tm) (toT d) = ⟨(d + 4 * (toT d : Int)) % 65536, 0, m, 5, 1⟩ := by
  obtain ⟨j, hj⟩ : ∃ j, toT d = j + 1 := ⟨toT d - 1, by have := to_le d d0; omega⟩
  have hx : toT d = (4 - d % 16 / 4).toNat := rfl
  rw [hj]
  show stepT (stepN (⟨d, 255, m, 5, 0⟩ : Tm) j) = _
  rw [ahead5 d m d0 d1 j (by omega)]
  unfold stepT
  have nx : nextT ⟨(d + 4 * (j : Int)) % 65536, 255, m, 5, 0⟩ = ⟨((d + 4 * (j : Int)) % 65536 + 4) % 65536, 255, m, 5, 0⟩ := rfl
  rw [nx, if_pos, show ((d + 4 * (j : Int)) % 65536 + 4) % 65536 = (d + 4 * ((j + 1 : Nat) : Int)) % 65536 by omega]
  · rfl
  · refine ⟨(hot5 _ rfl).2 (by show (d + 4 * (j : Int)) % 65536 / 8 % 2 = 1; omega), hot5n _ rfl (by show ((d + 4 * (j : Int)) % 65536 + 4) % 65536 / 8 % 2 ≠ 1; omega)⟩
theorem low5 (d : Int) (d0 : 0 ≤ d) : (d + 4 * (toT d : Int)) % 65536 / 8 % 2 ≠ 1 := by
  have hx : toT d = (4 - d % 16 / 4).toNat := rfl
  omega
theorem cold5 (t : Tm) (h : t.tac = 5) (q : t.div / 8 % 2 ≠ 1) : stepT t = nextT t := by
  unfold stepT
  rw [if_neg (by rw [hot5n t h q]; simp)]
set_option maxRecDepth 100000 in
set_option maxHeartbeats 4000000 in
theorem loads11 (d m v : Int) (w : World) (lay : Lay11 w) (d0 : 0 ≤ d) (d1 : d ≤ 65535) (m0 : 0 ≤ m) (m1 : m ≤ 255) (v0 : 0 ≤ v) (v1 : v ≤ 255) : Calls Tryd.prog 3 #[.int .u16 d, .int .u8 m, .int .u8 v] w fun e w' => e = .returned (.bool true) ∧ Kept w w' := by
  have S := hid (kshown11 w lay)
  have I0 : TmIn (⟨d, 255, m, 5, 0⟩ : Tm) := tm_in d0 d1 (by decide) (by decide) m0 m1 (by decide) (by decide) (by decide) (by decide)
  have A := hid (fun j u (k : Kept w u) => pstep11 (stepN (⟨d, 255, m, 5, 0⟩ : Tm) j) u (lay11_kept lay k) (stepN_in I0 j))
  have AH := hid (ahead5 d m d0 d1)
  have OV := over5 d m d0 d1
  have lo := low5 d d0
  obtain ⟨N1, N4⟩ := to_le d d0
  generalize toT d = N at *
  obtain ⟨E, hE⟩ : ∃ E, (d + 4 * (N : Int)) % 65536 = E := ⟨_, rfl⟩
  have E0 : 0 ≤ E := by omega
  have E1 : E ≤ 65535 := by omega
  rw [hE] at OV lo
  have X0 : 0 ≤ (E + 4) % 65536 := by omega
  have X1 : (E + 4) % 65536 ≤ 65535 := by omega
  have s1 : stepT ⟨E, 0, m, 5, 1⟩ = ⟨(E + 4) % 65536, m, m, 5, 2⟩ := (cold5 _ rfl lo).trans rfl
  have s2 : writeT ⟨(E + 4) % 65536, m, m, 5, 2⟩ 65285 v = ⟨(E + 4) % 65536, m, m, 5, 2⟩ := rfl
  have s3 : writeT ⟨(E + 4) % 65536, m, m, 5, 2⟩ 65286 v = ⟨(E + 4) % 65536, v, v, 5, 2⟩ := rfl
  have s4 : writeT ⟨E, 0, m, 5, 1⟩ 65285 v = ⟨E, v, m, 5, 0⟩ := rfl
  have s5 : stepT ⟨E, v, m, 5, 0⟩ = ⟨(E + 4) % 65536, v, m, 5, 0⟩ := (cold5 _ rfl lo).trans rfl
  have iT : TmIn ⟨E, 0, m, 5, 1⟩ := tm_in E0 E1 (by decide) (by decide) m0 m1 (by decide) (by decide) (by decide) (by decide)
  have iA : TmIn ⟨(E + 4) % 65536, m, m, 5, 2⟩ := tm_in X0 X1 m0 m1 m0 m1 (by decide) (by decide) (by decide) (by decide)
  have iX : TmIn ⟨E, v, m, 5, 0⟩ := tm_in E0 E1 v0 v1 m0 m1 (by decide) (by decide) (by decide) (by decide)
  have C1 : ∀ u, Kept w u → Calls Tryd.prog 6 #[.agg #[.int .u16 E, .int .u8 0, .int .u8 m, .int .u8 5, .int .u8 1], .int .u16 65285] u fun e w' => e = .returned (.int .u8 0) ∧ Kept u w' := fun u k => pread11 ⟨E, 0, m, 5, 1⟩ 65285 u (lay11_kept lay k) iT (by decide) (by decide)
  have C2 : ∀ u, Kept w u → Calls Tryd.prog 5 #[.agg #[.int .u16 E, .int .u8 0, .int .u8 m, .int .u8 5, .int .u8 1]] u fun e w' => e = .returned (.tuple #[.agg #[.int .u16 ((E + 4) % 65536), .int .u8 m, .int .u8 m, .int .u8 5, .int .u8 2], .bool true]) ∧ Kept u w' := fun u k => by have q := pstep11 ⟨E, 0, m, 5, 1⟩ u (lay11_kept lay k) iT; rw [s1] at q; exact q
  have C3 : ∀ u, Kept w u → Calls Tryd.prog 7 #[.agg #[.int .u16 ((E + 4) % 65536), .int .u8 m, .int .u8 m, .int .u8 5, .int .u8 2], .int .u16 65285, .int .u8 v] u fun e w' => e = .returned (.agg #[.int .u16 ((E + 4) % 65536), .int .u8 m, .int .u8 m, .int .u8 5, .int .u8 2]) ∧ Kept u w' := fun u k => by have q := pwrite11 ⟨(E + 4) % 65536, m, m, 5, 2⟩ 65285 v u (lay11_kept lay k) iA (by decide) (by decide) v0 v1; rw [s2] at q; exact q
  have C4 : ∀ u, Kept w u → Calls Tryd.prog 7 #[.agg #[.int .u16 ((E + 4) % 65536), .int .u8 m, .int .u8 m, .int .u8 5, .int .u8 2], .int .u16 65286, .int .u8 v] u fun e w' => e = .returned (.agg #[.int .u16 ((E + 4) % 65536), .int .u8 v, .int .u8 v, .int .u8 5, .int .u8 2]) ∧ Kept u w' := fun u k => by have q := pwrite11 ⟨(E + 4) % 65536, m, m, 5, 2⟩ 65286 v u (lay11_kept lay k) iA (by decide) (by decide) v0 v1; rw [s3] at q; exact q
  have C5 : ∀ u, Kept w u → Calls Tryd.prog 7 #[.agg #[.int .u16 E, .int .u8 0, .int .u8 m, .int .u8 5, .int .u8 1], .int .u16 65285, .int .u8 v] u fun e w' => e = .returned (.agg #[.int .u16 E, .int .u8 v, .int .u8 m, .int .u8 5, .int .u8 0]) ∧ Kept u w' := fun u k => by have q := pwrite11 ⟨E, 0, m, 5, 1⟩ 65285 v u (lay11_kept lay k) iT (by decide) (by decide) v0 v1; rw [s4] at q; exact q
  have C6 : ∀ u, Kept w u → Calls Tryd.prog 5 #[.agg #[.int .u16 E, .int .u8 v, .int .u8 m, .int .u8 5, .int .u8 0]] u fun e w' => e = .returned (.tuple #[.agg #[.int .u16 ((E + 4) % 65536), .int .u8 v, .int .u8 m, .int .u8 5, .int .u8 0], .bool false]) ∧ Kept u w' := fun u k => by have q := pstep11 ⟨E, v, m, 5, 0⟩ u (lay11_kept lay k) iX; rw [s5] at q; exact q
  have C7 : ∀ u, Kept w u → Calls Tryd.prog 5 #[.agg #[.int .u16 ((E + 4) % 65536), .int .u8 m, .int .u8 m, .int .u8 5, .int .u8 2]] u fun e w' => e = .returned (.tuple #[tmV (stepT ⟨(E + 4) % 65536, m, m, 5, 2⟩), .bool false]) ∧ Kept u w' := fun u k => pstep11 ⟨(E + 4) % 65536, m, m, 5, 2⟩ u (lay11_kept lay k) iA
  have C1 := hid C1
  have C2 := hid C2
  have C3 := hid C3
  have C4 := hid C4
  have C5 := hid C5
  have C6 := hid C6
  have C7 := hid C7
  have OVh := hid OV
  generalize stepT ⟨(E + 4) % 65536, m, m, 5, 2⟩ = ZZ at *
  generalize (E + 4) % 65536 = F at *
  clear s1 s2 s3 s4 s5 iT iA iX lo X0 X1 I0 lay OV hE E0 E1
  go_enter Tryd.func3, Tryd.ntmps3
  go_wp2_with fail
  refine S.out.mono ?_
  rintro e u1 ⟨rfl, k1⟩
  have Q1 := hid (blk_new u1 [.int .u16 d, .int .u8 255, .int .u8 m, .int .u8 5, .int .u8 0] 25)
  have K1 := hid (k1.alloc (.cells ([.int .u16 d, .int .u8 255, .int .u8 m, .int .u8 5, .int .u8 0] : List Value).toArray 25))
  have blow0 := k1.size
  clear k1
  go_wp2_with fail
  obtain ⟨bb, hbb⟩ : ∃ b, u1.heap.size = b := ⟨_, rfl⟩
  rw [hbb] at Q1
  try rw [hbb]
  have blow : w.heap.size ≤ bb := by omega
  go_loopw [9] (fun iv wr => ∃ j : Nat, j ≤ N ∧ iv = .int .i64 (j : Int) ∧ Blk wr bb 25 [.int .u16 (stepN (⟨d, 255, m, 5, 0⟩ : Tm) j).div, .int .u8 (stepN (⟨d, 255, m, 5, 0⟩ : Tm) j).tima, .int .u8 (stepN (⟨d, 255, m, 5, 0⟩ : Tm) j).tma, .int .u8 (stepN (⟨d, 255, m, 5, 0⟩ : Tm) j).tac, .int .u8 (stepN (⟨d, 255, m, 5, 0⟩ : Tm) j).st] ∧ Kept w wr) (fun iv _ => N - (intOf iv).toNat)
  case atStart => exact ⟨0, Nat.zero_le _, rfl, Q1.out, K1.out⟩
  case round =>
    obtain ⟨j, hj, rfl, hq, hk⟩ := hrel
    have KK := hid hk
    clear hk Q1 K1
    by_cases hlt : j < N
    · have eq := AH.out j hlt
      have AJ := hid (A.out j)
      have SN := hid (show stepN (⟨d, 255, m, 5, 0⟩ : Tm) (j + 1) = stepT (stepN (⟨d, 255, m, 5, 0⟩ : Tm) j) from rfl)
      rw [show askT (stepN (⟨d, 255, m, 5, 0⟩ : Tm) j) = false by rw [eq]; rfl] at AJ
      generalize stepT (stepN (⟨d, 255, m, 5, 0⟩ : Tm) j) = V at *
      rw [eq] at AJ hq
      simp only at AJ hq
      generalize (d + 4 * (j : Int)) % 65536 = G at *
      have QB := hid hq
      have cq := blk_cell hq
      have zq := blk_lt hq
      have g1 : decide ((j : Int) < 8) = true := decide_eq_true (by omega)
      clear eq hq
      go_wp2_with fail
      refine (AJ.out _ KK.out).mono ?_
      rintro e u3 ⟨rfl, k3⟩
      have Q3 := blk_kept k3 QB.out
      have K3 := hid (KK.out.trans k3)
      clear k3 cq zq QB KK
      go_wp2_with (((with_reducible refine at_st 25 ?_); refine wl_store rfl rfl rfl rfl Q3 (by kernel_rfl) rfl (Nat.le_of_ble_eq_true rfl) (fun v4 p4 => ?_); have B4 : Blk v4 bb 25 [.int .u16 V.div, .int .u8 V.tima, .int .u8 V.tma, .int .u8 V.tac, .int .u8 V.st] := p4.blk; have K4 := hid (p4.kept _ K3.out blow); clear p4))
      go_roundw
      case rel => exact ⟨j + 1, by omega, by first | go_num | rfl, by rw [SN.out]; exact B4, K4.out⟩
      case measure => first | omega | (simp; omega) | (simp [intOf]; omega)
    · have je : j = N := by omega
      subst je
      rw [OVh.out] at hq
      simp only at hq
      have cq := blk_cell hq
      have zq := blk_lt hq
      have QB := hid hq
      have g1 : decide ((4 : Int) < (j : Int)) = false := decide_eq_false (by omega)
      clear hq A AH OVh
      go_wp2_with fail
      refine (C1.out _ KK.out).mono ?_
      rintro e u2 ⟨rfl, k2⟩
      have K2 := hid (KK.out.trans k2)
      have T2 := blk_kept k2 QB.out
      have cT2 := blk_cell T2
      have zT2 := blk_lt T2
      clear k2 cq zq QB KK
      go_wp2_with fail
      refine (C2.out _ K2.out).mono ?_
      rintro e u3 ⟨rfl, k3⟩
      have K3 := hid ((K2.out.trans k3).alloc (.cells ([.int .u16 F, .int .u8 m, .int .u8 m, .int .u8 5, .int .u8 2] : List Value).toArray 25))
      have T3 := blk_past (blk_kept k3 T2) (.cells ([.int .u16 F, .int .u8 m, .int .u8 m, .int .u8 5, .int .u8 2] : List Value).toArray 25)
      have A3 := blk_new u3 [.int .u16 F, .int .u8 m, .int .u8 m, .int .u8 5, .int .u8 2] 25
      have cT3 := blk_cell T3
      have cA3 := blk_cell A3
      have zT3 := blk_lt (blk_kept k3 T2)
      clear k3 cT2 zT2 T2 K2
      go_wp2_with fail
      refine (C3.out _ K3.out).mono ?_
      rintro e u4 ⟨rfl, k4⟩
      have K4 := hid ((K3.out.trans k4).alloc (.cells ([.int .u16 F, .int .u8 m, .int .u8 m, .int .u8 5, .int .u8 2] : List Value).toArray 25))
      have T4 := blk_past (blk_kept k4 T3) (.cells ([.int .u16 F, .int .u8 m, .int .u8 m, .int .u8 5, .int .u8 2] : List Value).toArray 25)
      have A4 := blk_past (blk_kept k4 A3) (.cells ([.int .u16 F, .int .u8 m, .int .u8 m, .int .u8 5, .int .u8 2] : List Value).toArray 25)
      have L4 := blk_new u4 [.int .u16 F, .int .u8 m, .int .u8 m, .int .u8 5, .int .u8 2] 25
      have cT4 := blk_cell T4
      have cA4 := blk_cell A4
      have zA4 := blk_lt (blk_kept k4 A3)
      have zT4 := blk_lt (blk_kept k4 T3)
      clear k4 cT3 cA3 zT3 T3 A3 K3
      go_wp2_with fail
      refine (C4.out _ K4.out).mono ?_
      rintro e u5 ⟨rfl, k5⟩
      have K5 := hid ((K4.out.trans k5).alloc (.cells ([.int .u16 F, .int .u8 v, .int .u8 v, .int .u8 5, .int .u8 2] : List Value).toArray 25))
      have T5 := blk_past (blk_kept k5 T4) (.cells ([.int .u16 F, .int .u8 v, .int .u8 v, .int .u8 5, .int .u8 2] : List Value).toArray 25)
      have A5 := blk_past (blk_kept k5 A4) (.cells ([.int .u16 F, .int .u8 v, .int .u8 v, .int .u8 5, .int .u8 2] : List Value).toArray 25)
      have L5 := blk_past (blk_kept k5 L4) (.cells ([.int .u16 F, .int .u8 v, .int .u8 v, .int .u8 5, .int .u8 2] : List Value).toArray 25)
      have B5 := blk_new u5 [.int .u16 F, .int .u8 v, .int .u8 v, .int .u8 5, .int .u8 2] 25
      have cT5 := blk_cell T5
      have zT5 := blk_lt (blk_kept k5 T4)
      clear k5 cT4 cA4 zA4 zT4 T4 A4 L4 K4
      go_wp2_with fail
      refine (C5.out _ K5.out).mono ?_
      rintro e u6 ⟨rfl, k6⟩
      have K6 := hid (K5.out.trans k6)
      have A6 := blk_kept k6 A5
      have L6 := blk_kept k6 L5
      have B6 := blk_kept k6 B5
      clear k6 cT5 zT5 T5 A5 L5 B5 K5
      go_wp2_with fail
      refine (C6.out _ K6.out).mono ?_
      rintro e u7 ⟨rfl, k7⟩
      have K7 := hid ((K6.out.trans k7).alloc (.cells ([.int .u16 F, .int .u8 v, .int .u8 m, .int .u8 5, .int .u8 0] : List Value).toArray 25))
      have A7 := blk_past (blk_kept k7 A6) (.cells ([.int .u16 F, .int .u8 v, .int .u8 m, .int .u8 5, .int .u8 0] : List Value).toArray 25)
      have L7 := blk_past (blk_kept k7 L6) (.cells ([.int .u16 F, .int .u8 v, .int .u8 m, .int .u8 5, .int .u8 0] : List Value).toArray 25)
      have B7 := blk_past (blk_kept k7 B6) (.cells ([.int .u16 F, .int .u8 v, .int .u8 m, .int .u8 5, .int .u8 0] : List Value).toArray 25)
      have D7 := blk_new u7 [.int .u16 F, .int .u8 v, .int .u8 m, .int .u8 5, .int .u8 0] 25
      have cA7 := blk_cell A7
      have zA7 := blk_lt (blk_kept k7 A6)
      clear k7 A6 L6 B6 K6
      go_wp2_with fail
      refine (C7.out _ K7.out).mono ?_
      rintro e u8 ⟨rfl, k8⟩
      have K8 := hid ((K7.out.trans k8).alloc (.cells ([.int .u16 ZZ.div, .int .u8 ZZ.tima, .int .u8 ZZ.tma, .int .u8 ZZ.tac, .int .u8 ZZ.st] : List Value).toArray 25))
      have cA8 := blk_cell (blk_past (blk_kept k8 A7) (.cells ([.int .u16 ZZ.div, .int .u8 ZZ.tima, .int .u8 ZZ.tma, .int .u8 ZZ.tac, .int .u8 ZZ.st] : List Value).toArray 25))
      have cL8 := blk_cell (blk_past (blk_kept k8 L7) (.cells ([.int .u16 ZZ.div, .int .u8 ZZ.tima, .int .u8 ZZ.tma, .int .u8 ZZ.tac, .int .u8 ZZ.st] : List Value).toArray 25))
      have cB8 := blk_cell (blk_past (blk_kept k8 B7) (.cells ([.int .u16 ZZ.div, .int .u8 ZZ.tima, .int .u8 ZZ.tma, .int .u8 ZZ.tac, .int .u8 ZZ.st] : List Value).toArray 25))
      have cD8 := blk_cell (blk_past (blk_kept k8 D7) (.cells ([.int .u16 ZZ.div, .int .u8 ZZ.tima, .int .u8 ZZ.tma, .int .u8 ZZ.tac, .int .u8 ZZ.st] : List Value).toArray 25))
      have eA8 := blk_cell (blk_kept k8 A7)
      have eL8 := blk_cell (blk_kept k8 L7)
      have eB8 := blk_cell (blk_kept k8 B7)
      have eD8 := blk_cell (blk_kept k8 D7)
      have zA8 := blk_lt (blk_kept k8 A7)
      have zL8 := blk_lt (blk_kept k8 L7)
      have zB8 := blk_lt (blk_kept k8 B7)
      have zD8 := blk_lt (blk_kept k8 D7)
      have nA : u3.heap.size ≠ u8.heap.size := by omega
      have nL : u4.heap.size ≠ u8.heap.size := by omega
      have nB : u5.heap.size ≠ u8.heap.size := by omega
      have nD : u7.heap.size ≠ u8.heap.size := by omega
      clear k8 A7 L7 B7 D7 K7 cA7 zA7
      go_wp2
      go_ret
      exact ⟨rfl, K8.out⟩
end Go.Proofs.YthjpngfbabeboabDoor
