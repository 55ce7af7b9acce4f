/- Layer 16's law ObjectsSorted. -/
import Derived.Test.YtaknbjignaefkaaLo16d
namespace Go.Proofs.Ytaknbjignaefkaa
open Go.RowKit
set_option linter.unusedVariables false
set_option linter.unusedSimpArgs false

theorem cnt_yes {L : List Ob} {k : Nat} {x : Ob} (hk : k < L.length) (h : L.getD k default = x) : (L.take (k + 1)).count x = (L.take k).count x + 1 := by
  rw [take_one hk, h, List.count_append, List.count_singleton_self]
theorem cnt_no {L : List Ob} {k : Nat} {x : Ob} (hk : k < L.length) (h : ¬ L.getD k default = x) : (L.take (k + 1)).count x = (L.take k).count x := by
  rw [take_one hk, List.count_append, List.count_singleton, if_neg (by rw [beq_eq_false_iff_ne.2 h]; simp), Nat.add_zero]
theorem stab_cnt {l m : List Ob} (h : Stab key16 l m) (x : Ob) : m.count x = l.count x := by
  have := h.2 (key16 x)
  unfold fil at this
  rw [← List.count_filter (p := fun y => key16 y == key16 x) (l := m) (by simp), this, List.count_filter (by simp)]
theorem cnt_bd (L : List Ob) (k : Nat) (x : Ob) : (L.take k).count x ≤ k := by
  have := List.count_le_length (a := x) (l := L.take k)
  rw [List.length_take] at this
  omega
/-- No one stands behind one that it stands ahead of. -/
theorem up_near {M : List Ob} (h : Up key16 M) {i : Nat} (hi : i + 1 < M.length) : ¬ ((M.getD (i + 1) default).2.1.val < (M.getD i default).2.1.val) ∧ ((M.getD (i + 1) default).2.1.val = (M.getD i default).2.1.val → ¬ (M.getD (i + 1) default).2.2.2.2.val < (M.getD i default).2.2.2.2.val) := by
  have q := List.pairwise_iff_getElem.1 h i (i + 1) (by omega) hi (by omega)
  rw [List.getD_eq_getElem?_getD, List.getD_eq_getElem?_getD, List.getElem?_eq_getElem hi, List.getElem?_eq_getElem (by omega)]
  simp only [Option.getD_some]
  generalize M[i] = p at *
  generalize M[i + 1] = o at *
  obtain ⟨⟨oy, ly⟩, ⟨ox, lx⟩, ⟨ot, lt⟩, ⟨oa, la⟩, ⟨on, ln⟩⟩ := o
  obtain ⟨⟨py, my⟩, ⟨px, mx⟩, ⟨pt, mt⟩, ⟨pa, ma⟩, ⟨pn, mn⟩⟩ := p
  simp only [key16] at q ⊢
  omega
set_option maxRecDepth 100000 in
set_option maxHeartbeats 8000000 in
theorem sorted16 (a : Option Addr) (cap : Nat) (L : List Ob) (w : World) (h : SlO w a cap L) (hb : L.length ≤ 28147497670246) :
    Calls Try.prog 8 #[.slice a L.length cap] w fun e w' => e = .returned (.bool true) ∧ Kept w w' := by
  have mixed : Try.prog.follows .mixedOrders = true := by kernel_rfl
  have S := hid (fun u => kshown16 u)
  by_cases hl : 300 < L.length
  · have g1 : (300 : Int) < (L.length : Int) := by omega
    clear h
    generalize L.length = n at *
    go_enter Try.func8, Try.ntmps8
    go_wp2_with fail
    refine (S.out _).mono ?_
    rintro e u1 ⟨rfl, k1⟩
    have K1 := hid k1
    clear k1
    go_wp2
    go_ret
    exact ⟨rfl, K1.out⟩
  · have A := hid (fun u k => porder16 a cap L u (slO_kept k h) (by omega))
    have FG := hid (fun q => slO_at h q)
    obtain ⟨n, hn⟩ : ∃ n, L.length = n := ⟨_, rfl⟩
    have HL := hid hn
    rw [hn] at hl A FG ⊢
    have g1 : ¬ (300 : Int) < (n : Int) := by omega
    clear h hn hb
    go_enter Try.func8, Try.ntmps8
    go_wp2_with fail
    refine (S.out _).mono ?_
    rintro e u1 ⟨rfl, k1⟩
    have K1 := hid k1
    clear k1
    go_wp2_with fail
    refine (A.out _ K1.out).mono ?_
    rintro e wy ⟨⟨M, tm, lm, am, cm, rfl, sm⟩, k2⟩
    have K2 := hid (K1.out.trans k2)
    have HM := hid lm
    have TM := hid tm
    have SM := hid sm
    have GG := hid (fun q => slO_at sm q)
    rw [lm] at GG ⊢
    have BB := hid (fun u k => porder16 am cm M u (slO_kept k sm) (by rw [lm]; omega))
    have CC := hid (fun x cx u p k => same_t x cx M am cm u p (slO_kept k sm) (by rw [lm]; omega))
    rw [lm] at BB CC
    have NEAR := hid (fun i hi => up_near tm.1 (i := i) (by rw [lm]; exact hi))
    have CNT := hid (fun x => stab_cnt tm x)
    have e0 : ((n : Int) == (n : Int)) = true := by simp
    clear k2 lm tm sm
    go_wp2_with fail
    go_loopw [5] (fun iv wr => ∃ i : Nat, i ≤ n ∧ iv = .int .i64 (i : Int) ∧ Kept wy wr) (fun iv _ => n - (intOf iv).toNat)
    case atStart => exact ⟨0, Nat.zero_le _, rfl, Kept.refl wy⟩
    case round =>
      obtain ⟨i, hi, rfl, hki⟩ := hrel
      have KI := hid hki
      clear hki
      by_cases hin : i < n
      · have g2 : decide ((i : Int) < (n : Int)) = true := decide_eq_true (by omega)
        have g3 : (i : Int) < (n : Int) := by omega
        obtain ⟨x, rfl, hx, hc⟩ := FG.out (by omega)
        obtain ⟨y, rfl, hy, hd⟩ := GG.out (by omega)
        obtain ⟨o, ho⟩ : ∃ o, M.getD i default = o := ⟨_, rfl⟩
        obtain ⟨w9, h9⟩ : ∃ u, u = wr := ⟨_, rfl⟩
        subst h9
        have HOI := hid (hd i hin)
        rw [ho] at HOI
        have HD := hid hd
        have HCX := hid hc
        have xk : x.block < wy.heap.size := Nat.lt_of_lt_of_le hx K2.out.size
        have CX := hid (fun k hk => oat_kept K2.out (by rw [addFB]; exact hx) (hc k hk))
        clear hc hd
        go_wp2_with fail
        go_loopw [6, 7, 8] (fun av bv kv wr => ∃ k : Nat, k ≤ n ∧ av = .int .i64 ((M.take k).count o : Int) ∧ bv = .int .i64 ((L.take k).count o : Int) ∧ kv = .int .i64 (k : Int) ∧ Kept wy wr) (fun _ _ kv _ => n - (intOf kv).toNat)
        case atStart => exact ⟨0, Nat.zero_le _, by simp, by simp, rfl, KI.out⟩
        case round =>
          obtain ⟨k, hk, rfl, rfl, rfl, hkk⟩ := hrel
          have KK := hid hkk
          have O := oat_kept hkk (by rw [addFB]; exact hy) HOI.out
          by_cases hlt : k < n
          · have g4 : decide ((k : Int) < (n : Int)) = true := decide_eq_true (by omega)
            have g5 : (k : Int) < (n : Int) := by omega
            have b1 := cnt_bd M k o
            have b2 := cnt_bd L k o
            obtain ⟨p, hp⟩ : ∃ p, M.getD k default = p := ⟨_, rfl⟩
            obtain ⟨q, hq⟩ : ∃ q, L.getD k default = q := ⟨_, rfl⟩
            have P := oat_kept hkk (by rw [addFB]; exact hy) (HD.out k hlt)
            have Q := oat_kept hkk (by rw [addFB]; exact xk) (CX.out k hlt)
            rw [hp] at P
            rw [hq] at Q
            have E1 := fun u => eq_obs p o u
            have E2 := fun u => eq_obs q o u
            clear hkk ho HOI
            cases h1 : decide (p = o) <;> cases h2 : decide (q = o)
            · rw [h1] at E1
              rw [h2] at E2
              have C1 := hid (cnt_no (by rw [HM.out]; exact hlt) (by rw [hp]; simpa using h1) : (M.take (k + 1)).count o = (M.take k).count o)
              have C2 := hid (cnt_no (by rw [HL.out]; exact hlt) (by rw [hq]; simpa using h2) : (L.take (k + 1)).count o = (L.take k).count o)
              clear h1 h2 hp hq
              generalize (M.take k).count o = ca at *
              generalize (L.take k).count o = cb at *
              have ra : IntKind.i64.wrap ((ca : Int) + 1) = ((ca + 1 : Nat) : Int) := by rw [IntKind.wrap_i64]; omega
              have rb : IntKind.i64.wrap ((cb : Int) + 1) = ((cb + 1 : Nat) : Int) := by rw [IntKind.wrap_i64]; omega
              have HO : Hid (∀ k, (M.take k).count o = (M.take k).count o) := fun _ => rfl
              obtain ⟨⟨oy, ly⟩, ⟨ox, lx⟩, ⟨ot, lt⟩, ⟨oa, la⟩, ⟨on, ln⟩⟩ := o
              obtain ⟨⟨py, my⟩, ⟨px, mx⟩, ⟨pt, mt⟩, ⟨pa, ma⟩, ⟨pn, mn⟩⟩ := p
              obtain ⟨⟨qy, ny⟩, ⟨qx, nx⟩, ⟨qt, nt⟩, ⟨qa, na⟩, ⟨qn, nn⟩⟩ := q
              obtain ⟨d0, d1, d2, d3, d4⟩ := O
              obtain ⟨f0, f1, f2, f3, f4⟩ := P
              obtain ⟨g0, g1, g2, g3, g4⟩ := Q
              simp only [b8, obV] at d0 d1 d2 d3 d4 f0 f1 f2 f3 f4 g0 g1 g2 g3 g4 E1 E2
              go_wp2_with fail
              go_quiet (fail)
              go_wp2_with fail
              go_quiet (fail)
              go_wp2
              go_roundw
              case rel => exact ⟨k + 1, by omega, by rw [C1.out] <;> first | rfl | go_num, by rw [C2.out] <;> first | rfl | go_num, by go_num, KK.out.drewN⟩
              case measure => first | omega | (simp; omega) | (simp [intOf]; omega)
            · rw [h1] at E1
              rw [h2] at E2
              have C1 := hid (cnt_no (by rw [HM.out]; exact hlt) (by rw [hp]; simpa using h1) : (M.take (k + 1)).count o = (M.take k).count o)
              have C2 := hid (cnt_yes (by rw [HL.out]; exact hlt) (by rw [hq]; simpa using h2) : (L.take (k + 1)).count o = (L.take k).count o + 1)
              clear h1 h2 hp hq
              generalize (M.take k).count o = ca at *
              generalize (L.take k).count o = cb at *
              have ra : IntKind.i64.wrap ((ca : Int) + 1) = ((ca + 1 : Nat) : Int) := by rw [IntKind.wrap_i64]; omega
              have rb : IntKind.i64.wrap ((cb : Int) + 1) = ((cb + 1 : Nat) : Int) := by rw [IntKind.wrap_i64]; omega
              have HO : Hid (∀ k, (M.take k).count o = (M.take k).count o) := fun _ => rfl
              obtain ⟨⟨oy, ly⟩, ⟨ox, lx⟩, ⟨ot, lt⟩, ⟨oa, la⟩, ⟨on, ln⟩⟩ := o
              obtain ⟨⟨py, my⟩, ⟨px, mx⟩, ⟨pt, mt⟩, ⟨pa, ma⟩, ⟨pn, mn⟩⟩ := p
              obtain ⟨⟨qy, ny⟩, ⟨qx, nx⟩, ⟨qt, nt⟩, ⟨qa, na⟩, ⟨qn, nn⟩⟩ := q
              obtain ⟨d0, d1, d2, d3, d4⟩ := O
              obtain ⟨f0, f1, f2, f3, f4⟩ := P
              obtain ⟨g0, g1, g2, g3, g4⟩ := Q
              simp only [b8, obV] at d0 d1 d2 d3 d4 f0 f1 f2 f3 f4 g0 g1 g2 g3 g4 E1 E2
              go_wp2_with fail
              go_quiet (fail)
              go_wp2_with fail
              go_quiet (fail)
              go_wp2
              go_roundw
              case rel => exact ⟨k + 1, by omega, by rw [C1.out] <;> first | rfl | go_num, by rw [C2.out] <;> first | rfl | go_num, by go_num, KK.out.drewN⟩
              case measure => first | omega | (simp; omega) | (simp [intOf]; omega)
            · rw [h1] at E1
              rw [h2] at E2
              have C1 := hid (cnt_yes (by rw [HM.out]; exact hlt) (by rw [hp]; simpa using h1) : (M.take (k + 1)).count o = (M.take k).count o + 1)
              have C2 := hid (cnt_no (by rw [HL.out]; exact hlt) (by rw [hq]; simpa using h2) : (L.take (k + 1)).count o = (L.take k).count o)
              clear h1 h2 hp hq
              generalize (M.take k).count o = ca at *
              generalize (L.take k).count o = cb at *
              have ra : IntKind.i64.wrap ((ca : Int) + 1) = ((ca + 1 : Nat) : Int) := by rw [IntKind.wrap_i64]; omega
              have rb : IntKind.i64.wrap ((cb : Int) + 1) = ((cb + 1 : Nat) : Int) := by rw [IntKind.wrap_i64]; omega
              have HO : Hid (∀ k, (M.take k).count o = (M.take k).count o) := fun _ => rfl
              obtain ⟨⟨oy, ly⟩, ⟨ox, lx⟩, ⟨ot, lt⟩, ⟨oa, la⟩, ⟨on, ln⟩⟩ := o
              obtain ⟨⟨py, my⟩, ⟨px, mx⟩, ⟨pt, mt⟩, ⟨pa, ma⟩, ⟨pn, mn⟩⟩ := p
              obtain ⟨⟨qy, ny⟩, ⟨qx, nx⟩, ⟨qt, nt⟩, ⟨qa, na⟩, ⟨qn, nn⟩⟩ := q
              obtain ⟨d0, d1, d2, d3, d4⟩ := O
              obtain ⟨f0, f1, f2, f3, f4⟩ := P
              obtain ⟨g0, g1, g2, g3, g4⟩ := Q
              simp only [b8, obV] at d0 d1 d2 d3 d4 f0 f1 f2 f3 f4 g0 g1 g2 g3 g4 E1 E2
              go_wp2_with fail
              go_quiet (fail)
              go_wp2_with fail
              go_quiet (fail)
              go_wp2
              go_roundw
              case rel => exact ⟨k + 1, by omega, by rw [C1.out] <;> first | rfl | go_num, by rw [C2.out] <;> first | rfl | go_num, by go_num, KK.out.drewN⟩
              case measure => first | omega | (simp; omega) | (simp [intOf]; omega)
            · rw [h1] at E1
              rw [h2] at E2
              have C1 := hid (cnt_yes (by rw [HM.out]; exact hlt) (by rw [hp]; simpa using h1) : (M.take (k + 1)).count o = (M.take k).count o + 1)
              have C2 := hid (cnt_yes (by rw [HL.out]; exact hlt) (by rw [hq]; simpa using h2) : (L.take (k + 1)).count o = (L.take k).count o + 1)
              clear h1 h2 hp hq
              generalize (M.take k).count o = ca at *
              generalize (L.take k).count o = cb at *
              have ra : IntKind.i64.wrap ((ca : Int) + 1) = ((ca + 1 : Nat) : Int) := by rw [IntKind.wrap_i64]; omega
              have rb : IntKind.i64.wrap ((cb : Int) + 1) = ((cb + 1 : Nat) : Int) := by rw [IntKind.wrap_i64]; omega
              have HO : Hid (∀ k, (M.take k).count o = (M.take k).count o) := fun _ => rfl
              obtain ⟨⟨oy, ly⟩, ⟨ox, lx⟩, ⟨ot, lt⟩, ⟨oa, la⟩, ⟨on, ln⟩⟩ := o
              obtain ⟨⟨py, my⟩, ⟨px, mx⟩, ⟨pt, mt⟩, ⟨pa, ma⟩, ⟨pn, mn⟩⟩ := p
              obtain ⟨⟨qy, ny⟩, ⟨qx, nx⟩, ⟨qt, nt⟩, ⟨qa, na⟩, ⟨qn, nn⟩⟩ := q
              obtain ⟨d0, d1, d2, d3, d4⟩ := O
              obtain ⟨f0, f1, f2, f3, f4⟩ := P
              obtain ⟨g0, g1, g2, g3, g4⟩ := Q
              simp only [b8, obV] at d0 d1 d2 d3 d4 f0 f1 f2 f3 f4 g0 g1 g2 g3 g4 E1 E2
              go_wp2_with fail
              go_quiet (fail)
              go_wp2_with fail
              go_quiet (fail)
              go_wp2
              go_roundw
              case rel => exact ⟨k + 1, by omega, by rw [C1.out] <;> first | rfl | go_num, by rw [C2.out] <;> first | rfl | go_num, by go_num, KK.out.drewN⟩
              case measure => first | omega | (simp; omega) | (simp [intOf]; omega)
          · have ke : k = n := by omega
            subst ke
            have EA : Hid ((M.take k).count o = M.count o) := by show _ = _; rw [List.take_of_length_le (by rw [HM.out]; exact Nat.le_refl _)]
            have EB : Hid ((L.take k).count o = M.count o) := by show _ = _; rw [List.take_of_length_le (by rw [HL.out]; exact Nat.le_refl _)]; exact (CNT.out o).symm
            rw [EA.out, EB.out]
            generalize M.count o = cnt at *
            have ee : ((cnt : Int) == (cnt : Int)) = true := by simp
            clear EA EB
            rcases Nat.eq_zero_or_pos i with i0 | i0
            · have gi : ¬ (0 : Int) < (i : Int) := by omega
              have gj : decide ((0 : Int) < (i : Int)) = false := decide_eq_false (by omega)
              have gk : decide (0 < i) = false := decide_eq_false (by omega)
              clear O HOI ho
              have I0 := hid i0
              clear i0
              have i1 : ¬ 0 < i := by have := I0.out; omega
              go_wp2_with fail
              go_quiet (fail)
              go_wp2
              go_roundw
              case rel => exact ⟨i + 1, by omega, by go_num, KK.out.drewN⟩
              case measure => first | omega | (simp; omega) | (simp [intOf]; omega)
            · have gi : (0 : Int) < (i : Int) := by omega
              have gj : decide ((0 : Int) < (i : Int)) = true := decide_eq_true (by omega)
              obtain ⟨j, hj⟩ : ∃ j, i = j + 1 := ⟨i - 1, by omega⟩
              have rj : IntKind.i64.wrap ((i : Int) - 1) = (j : Int) := by rw [IntKind.wrap_i64]; omega
              have bj : (j : Int) < (k : Int) := by omega
              obtain ⟨p, hp⟩ : ∃ p, M.getD j default = p := ⟨_, rfl⟩
              have P := oat_kept hkk (by rw [addFB]; exact hy) (HD.out j (by omega))
              rw [hp] at P
              have NR := NEAR.out j (by omega)
              rw [← hj, ho, hp] at NR
              clear ho hp HOI hkk
              have HJ := hid hj
              clear hj
              obtain ⟨⟨oy, ly⟩, ⟨ox, lx⟩, ⟨ot, lt⟩, ⟨oa, la⟩, ⟨on, ln⟩⟩ := o
              obtain ⟨⟨py, my⟩, ⟨px, mx⟩, ⟨pt, mt⟩, ⟨pa, ma⟩, ⟨pn, mn⟩⟩ := p
              obtain ⟨d0, d1, d2, d3, d4⟩ := O
              obtain ⟨f0, f1, f2, f3, f4⟩ := P
              simp only [b8, obV] at d0 d1 d2 d3 d4 f0 f1 f2 f3 f4 NR
              obtain ⟨n1, n2⟩ := NR
              have v1 : decide ((ox : Int) < (px : Int)) = false := decide_eq_false (by omega)
              have v1n : decide (ox < px) = false := decide_eq_false (by omega)
              by_cases cx : ox = px
              · have n3 := n2 cx
                have v3 : decide ((on : Int) < (pn : Int)) = false := decide_eq_false (by omega)
                have v3n : decide (on < pn) = false := decide_eq_false n3
                subst cx
                clear n2
                go_wp2_with fail
                go_quiet (fail)
                go_wp2
                go_roundw
                case rel => exact ⟨i + 1, by omega, by go_num, KK.out.drewN⟩
                case measure => first | omega | (simp; omega) | (simp [intOf]; omega)
              · have v2 : ((ox : Int) == (px : Int)) = false := by simp; omega
                clear n2
                go_wp2_with fail
                go_quiet (fail)
                go_wp2
                go_roundw
                case rel => exact ⟨i + 1, by omega, by go_num, KK.out.drewN⟩
                case measure => first | omega | (simp; omega) | (simp [intOf]; omega)
      · have g2 : decide ((i : Int) < (n : Int)) = false := decide_eq_false (by omega)
        have g3 : ¬ (i : Int) < (n : Int) := by omega
        go_wp2_with fail
        refine (BB.out _ KI.out).mono ?_
        rintro e u4 ⟨⟨M2, t4, l4, a4, c4, rfl, s4⟩, k4⟩
        obtain rfl : M2 = M := stab_same TM.out t4
        rw [HM.out]
        have K4 := hid (KI.out.trans k4)
        have S4 := hid s4
        clear k4 s4 t4 l4
        go_wp2_with fail
        refine (CC.out _ _ _ S4.out K4.out).mono ?_
        rintro e u5 ⟨rfl, k5⟩
        have K5 := hid (K4.out.trans k5)
        clear k5
        go_wp2
        go_ret
        exact ⟨rfl, K2.out.trans K5.out⟩
end Go.Proofs.Ytaknbjignaefkaa
