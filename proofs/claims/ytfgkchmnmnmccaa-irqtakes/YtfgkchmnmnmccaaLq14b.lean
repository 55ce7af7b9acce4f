/- Layer 14: IrqTakes, as a walk. -/
import Derived.Test.YtfgkchmnmnmccaaSw14
import Derived.Test.YtfgkchmnmnmccaaIt14
namespace Go.Proofs.Ytfgkchmnmnmccaa
open Go.RowKit
set_option linter.unusedVariables false
set_option linter.unusedSimpArgs false

theorem takes_parts (f e : Int) (k : Nat) (f0 : 0 ≤ f) (f1 : f ≤ 255) (e0 : 0 ≤ e) (e1 : e ≤ 255) (k1 : k < 5) (p q : Int) (hp : pendP (putOf f k true) e = p) (hq : pendP (putOf (putOf f k true) k false) e = q) :
    bits .or .u8 p (2 ^ k) = bits .or .u8 q (2 ^ k) ∧ dig q k = 0 ∧ dig p k = dig e k ∧ isP p = (p != 0) ∧ noneTo p (firstP p).toNat = true ∧ (isP p = true → dig p (firstP p).toNat = 1) ∧ 0 ≤ firstP p ∧ firstP p ≤ 4 := by
  have h := takes_all f e k f0 f1 e0 e1 (by omega) (by omega)
  unfold takesB at h
  rw [hp, hq] at h
  simp only [Int.toNat_natCast, Bool.and_eq_true, beq_iff_eq, decide_eq_true_eq, Bool.or_eq_true, Bool.not_eq_true'] at h
  obtain ⟨⟨⟨⟨⟨⟨⟨h1, h2⟩, h3⟩, h4⟩, h5⟩, h6⟩, h7⟩, h8⟩ := h
  refine ⟨h1, h2, h3, h4, h5, fun hi => ?_, h7, h8⟩
  rcases h6 with h6 | h6
  · rw [hi] at h6; cases h6
  · exact h6.2
theorem w2f : ∀ k : Fin 5, IntKind.u8.wrap ((2 : Int) ^ k.val) = (2 : Int) ^ k.val := by decide +kernel
theorem w2k (k : Nat) (h : k < 5) : IntKind.u8.wrap ((2 : Int) ^ k) = (2 : Int) ^ k := w2f ⟨k, h⟩
theorem none_at (p : Int) : ∀ (m k : Nat), noneTo p m = true → k < m → dig p k = 0
  | 0, k, _, h => absurd h (Nat.not_lt_zero _)
  | m + 1, k, hn, h => by
    have hn' : (noneTo p m && (dig p m == 0)) = true := hn
    rw [Bool.and_eq_true] at hn'
    by_cases e : k = m
    · subst e; simpa using hn'.2
    · exact none_at p m k hn'.1 (by omega)
set_option maxRecDepth 100000 in
set_option maxHeartbeats 4000000 in
theorem takes14 (i : Iq) (n : Int) (w : World) (I : IqIn i) (n0 : 0 ≤ n) (n1 : n ≤ 255) : Calls Try.prog 8 #[iqV i, .int .u8 n] w fun e w' => e = .returned (.bool true) ∧ Kept w w' := by
  have S := hid kshown14
  obtain ⟨k, hk⟩ : ∃ k : Nat, n % 5 = (k : Int) := ⟨(n % 5).toNat, by omega⟩
  have kl : k < 5 := by omega
  have kb : 0 ≤ (k : Int) ∧ (k : Int) < 5 := by omega
  have t1 : Int.tmod n 5 = (k : Int) := (Int.tmod_eq_emod_of_nonneg n0).trans hk
  have t2 : IntKind.i64.wrap (k : Int) = (k : Int) := by rw [IntKind.wrap_i64]; omega
  clear hk
  obtain ⟨jf, je⟩ := i
  have f0 := I.f0
  have f1 := I.f1
  have e0 := I.e0
  have e1 := I.e1
  simp only at f0 f1 e0 e1
  have b1 := put_bd jf k true f0 f1
  have b2 := put_bd (putOf jf k true) k false b1.1 b1.2
  have A : Hid (∀ u, Calls Try.prog 18 #[.agg #[.int .u8 jf, .int .u8 je], .int .i64 (k : Int)] u fun e w' => e = .returned (.agg #[.int .u8 (putOf jf k true), .int .u8 je]) ∧ Kept u w') := fun u => by
    have q := pask14 ⟨jf, je⟩ k u I
    rw [show askI ⟨jf, je⟩ k = ⟨putOf jf k true, je⟩ by unfold askI askN; rw [if_pos kb]] at q
    exact q
  have B : Hid (∀ u, Calls Try.prog 20 #[.agg #[.int .u8 (putOf jf k true), .int .u8 je], .int .i64 (k : Int)] u fun e w' => e = .returned (.agg #[.int .u8 (putOf (putOf jf k true) k false), .int .u8 je]) ∧ Kept u w') := fun u => by
    have q := ptake14 ⟨putOf jf k true, je⟩ k u ⟨b1.1, b1.2, e0, e1⟩
    rw [show takeI ⟨putOf jf k true, je⟩ k = ⟨putOf (putOf jf k true) k false, je⟩ by unfold takeI takeN; rw [if_pos kb]] at q
    exact q
  have C : Hid (∀ u, Calls Try.prog 12 #[.agg #[.int .u8 (putOf jf k true), .int .u8 je]] u fun e w' => e = .returned (.int .u8 (pendP (putOf jf k true) je)) ∧ Kept u w') := fun u => ppend14 ⟨putOf jf k true, je⟩ u ⟨b1.1, b1.2, e0, e1⟩
  have D : Hid (∀ u, Calls Try.prog 12 #[.agg #[.int .u8 (putOf (putOf jf k true) k false), .int .u8 je]] u fun e w' => e = .returned (.int .u8 (pendP (putOf (putOf jf k true) k false) je)) ∧ Kept u w') := fun u => ppend14 ⟨putOf (putOf jf k true) k false, je⟩ u ⟨b2.1, b2.2, e0, e1⟩
  obtain ⟨q0, q1⟩ := pend_in (putOf jf k true) je
  obtain ⟨q2, q3⟩ := pend_in (putOf (putOf jf k true) k false) je
  obtain ⟨p, hp⟩ : ∃ p, pendP (putOf jf k true) je = p := ⟨_, rfl⟩
  obtain ⟨q, hq⟩ : ∃ q, pendP (putOf (putOf jf k true) k false) je = q := ⟨_, rfl⟩
  obtain ⟨h1, h2, h3, h4, h5, h6, h7, h8⟩ := takes_parts jf je k f0 f1 e0 e1 kl p q hp hq
  rw [hp] at C q0 q1
  rw [hq] at D q2 q3
  have E := hid (fun u => pfirst14 p u q0 q1)
  have V : Hid (∀ u, Calls Try.prog 16 #[.int .i64 (k : Int)] u fun e w' => e = .returned (.tuple #[.int .u16 (64 + 8 * (k : Int)), .int .i64 0]) ∧ w' = u) := fun u => by
    have r := pvec14 k u
    rw [show vecV k = 64 + 8 * (k : Int) from if_pos kb, show vecE k = 0 from if_pos kb] at r
    exact r
  obtain ⟨F, hF⟩ : ∃ F : Nat, firstP p = (F : Int) := ⟨(firstP p).toNat, by omega⟩
  rw [hF] at E h5 h6 h7 h8
  rw [Int.toNat_natCast] at h5 h6
  have h9 := none_at p F
  have hN := hid (fun m (h : m < F) => none_at p F m h5 h)
  generalize isP p = ip at *
  generalize putOf jf k true = af at *
  generalize putOf af k false = bf at *
  have w1 : IntKind.u8.wrap ((2 : Int) ^ k) = (2 : Int) ^ k := w2k k kl
  rw [← w1] at h1
  unfold dig at h2 h3 h6 hN
  cases h4
  clear I hp hq hF b1 b2 h9 h5 w1
  go_enter Try.func8, Try.ntmps8
  go_wp2_with fail
  refine (S.out _).mono ?_
  rintro e u1 ⟨rfl, k1⟩
  have P1 := hid (show Blk u1 w.heap.size 23 [.int .u8 jf, .int .u8 je] from blk_kept k1 (blk_new w _ _))
  have K1 := hid (((Kept.refl w).alloc (.cells ([.int .u8 jf, .int .u8 je] : List Value).toArray 23)).trans k1)
  have c1 := blk_cell P1.out
  clear k1
  go_wp2_with fail
  refine (A.out _).mono ?_
  rintro e u2 ⟨rfl, k2⟩
  have K2 := hid ((K1.out.trans k2).alloc (.cells ([.int .u8 af, .int .u8 je] : List Value).toArray 23))
  have P2 := hid (blk_past (blk_kept k2 P1.out) (.cells ([.int .u8 af, .int .u8 je] : List Value).toArray 23))
  have A2 := hid (blk_new u2 [.int .u8 af, .int .u8 je] 23)
  have z2 : w.heap.size ≠ u2.heap.size := by have := blk_lt (blk_kept k2 P1.out); omega
  have y2 := blk_cell A2.out
  clear k2 P1 K1 c1
  go_wp2_with fail
  refine (B.out _).mono ?_
  rintro e u3 ⟨rfl, k3⟩
  have K3 := hid ((K2.out.trans k3).alloc (.cells ([.int .u8 bf, .int .u8 je] : List Value).toArray 23))
  have P3 := hid (blk_past (blk_kept k3 P2.out) (.cells ([.int .u8 bf, .int .u8 je] : List Value).toArray 23))
  have A3 := hid (blk_past (blk_kept k3 A2.out) (.cells ([.int .u8 bf, .int .u8 je] : List Value).toArray 23))
  have B3 := hid (blk_new u3 [.int .u8 bf, .int .u8 je] 23)
  have z3 : w.heap.size ≠ u3.heap.size := by have := blk_lt (blk_kept k3 P2.out); omega
  have z3a : u2.heap.size ≠ u3.heap.size := by have := blk_lt (blk_kept k3 A2.out); omega
  have y3 := blk_cell A3.out
  have x3 := blk_cell (blk_kept k3 A2.out)
  clear k3 P2 K2 A2 y2
  go_wp2_with fail
  refine (C.out _).mono ?_
  rintro e u4 ⟨rfl, k4⟩
  have K4 := hid (K3.out.trans k4)
  have P4 := hid (blk_kept k4 P3.out)
  have A4 := hid (blk_kept k4 A3.out)
  have B4 := hid (blk_kept k4 B3.out)
  have y4 := blk_cell B4.out
  clear k4 P3 A3 B3 K3 y3 x3
  go_wp2_with fail
  refine (D.out _).mono ?_
  rintro e u5 ⟨rfl, k5⟩
  have K5 := hid (K4.out.trans k5)
  have P5 := hid (blk_kept k5 P4.out)
  have A5 := hid (blk_kept k5 A4.out)
  have B5 := hid (blk_kept k5 B4.out)
  clear k5 P4 A4 B4 K4 y4
  go_wp2_with fail
  refine (E.out _).mono ?_
  rintro e u6 ⟨rfl, k6⟩
  have K6 := hid (K5.out.trans k6)
  have P6 := hid (blk_kept k6 P5.out)
  have A6 := hid (blk_kept k6 A5.out)
  have B6 := hid (blk_kept k6 B5.out)
  clear k6 P5 A5 B5 K5
  go_wp2_with fail
  refine (V.out _).mono ?_
  rintro e u7 ⟨rfl, rfl⟩
  have cp := blk_cell P6.out
  have ca := blk_cell A6.out
  have cb := blk_cell B6.out
  clear A B C D E V S
  go_wp2_with fail
  go_quiet (fail)
  have v1 : IntKind.i64.wrap (8 * (k : Int)) = 8 * (k : Int) := by rw [IntKind.wrap_i64]; omega
  have v2 : IntKind.i64.wrap (64 + 8 * (k : Int)) = 64 + 8 * (k : Int) := by rw [IntKind.wrap_i64]; omega
  have F4 : F ≤ 4 := by omega
  have F5 : decide ((F : Int) ≤ 4) = true := decide_eq_true h8
  have F6 : decide (F ≤ 4) = true := decide_eq_true F4
  clear P6 A6 B6 cp ca cb h1 h2 h3
  go_wp2_with fail
  go_loop [15] (fun v => ∃ j : Nat, j ≤ F ∧ v = .int .i64 (j : Int)) (fun v => F - (intOf v).toNat)
  case atStart => exact ⟨0, Nat.zero_le _, rfl⟩
  case round =>
    obtain ⟨j, hj, rfl⟩ := hrel
    by_cases hlt : j < F
    · have g1 : decide ((j : Int) < (F : Int)) = true := decide_eq_true (by omega)
      have g2 : decide (j < F) = true := decide_eq_true hlt
      have ew : IntKind.i64.wrap ((j : Int) + 1) = (j : Int) + 1 := by rw [IntKind.wrap_i64]; omega
      have g3 := hN.out j hlt
      have j8 : j < 8 := by omega
      go_wp2_with fail
      go_round
      case rel => exact ⟨j + 1, by omega, by first | go_num | rfl⟩
      case measure => first | omega | (simp; omega) | (simp [intOf]; omega)
    · obtain rfl : j = F := by omega
      have g1 : decide ((j : Int) < (j : Int)) = false := decide_eq_false (by omega)
      have g2 : decide (j < j) = false := decide_eq_false hlt
      have j8 : j < 8 := by omega
      cases hp0 : (p != 0)
      · rw [hp0] at h6
        clear h6
        go_wp2
        go_ret
        exact ⟨rfl, K6.out.drewN⟩
      · have g3 := h6 hp0
        clear h6
        go_wp2
        go_ret
        exact ⟨rfl, K6.out.drewN⟩
end Go.Proofs.Ytfgkchmnmnmccaa
