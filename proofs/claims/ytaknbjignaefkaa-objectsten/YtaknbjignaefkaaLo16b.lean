/- Layer 16's law ObjectsTen. -/
import Derived.Test.YtaknbjignaefkaaLo16a
import Derived.BigRegion
namespace Go.Proofs.Ytaknbjignaefkaa
open Go.RowKit
set_option linter.unusedVariables false
set_option linter.unusedSimpArgs false

section
variable {z : List Int} {l : Int} {t : Bool}
theorem scan_mem : ∀ (j : Nat) (o : Ob), o ∈ scanTo z l t j → ∃ i, i < j ∧ o = objN z i ∧ onP o l t = true
  | 0, o, h => by cases h
  | j + 1, o, h => by
    cases hb : onP (objN z j) l t
    · rw [scan_no hb] at h
      obtain ⟨i, a, b⟩ := scan_mem j o h
      exact ⟨i, by omega, b⟩
    · rw [scan_yes hb] at h
      rcases List.mem_append.1 h with h | h
      · obtain ⟨i, a, b⟩ := scan_mem j o h
        exact ⟨i, by omega, b⟩
      · rw [List.mem_singleton.1 h]
        exact ⟨j, by omega, rfl, hb⟩
theorem at_val {i : Nat} (h : i < 256) : (objN z i).2.2.2.2.val = i := Nat.mod_eq_of_lt h
theorem scan_up : ∀ j, j ≤ 256 → (scanTo z l t j).Pairwise (fun a b => a.2.2.2.2.val < b.2.2.2.2.val)
  | 0, _ => List.Pairwise.nil
  | j + 1, hj => by
    cases hb : onP (objN z j) l t
    · rw [scan_no hb]; exact scan_up j (by omega)
    · rw [scan_yes hb]
      refine List.pairwise_append.2 ⟨scan_up j (by omega), List.pairwise_singleton _ _, fun a ha b hb2 => ?_⟩
      obtain ⟨i, hi, e, _⟩ := scan_mem j a ha
      rw [List.mem_singleton.1 hb2, e, at_val (by omega), at_val (by omega)]
      exact hi
theorem gd_of {L : List Ob} {i : Nat} (h : i < L.length) : L.getD i default = L[i] := by rw [List.getD_eq_getElem?_getD, List.getElem?_eq_getElem h]; rfl
theorem sc_mem {i : Nat} (h : i < (scanL z l t).length) : (scanL z l t).getD i default ∈ scanTo z l t 40 := by
  rw [gd_of h]
  exact List.mem_of_mem_take (List.getElem_mem h)
theorem sc_on {i : Nat} (h : i < (scanL z l t).length) : onP ((scanL z l t).getD i default) l t = true ∧ ((scanL z l t).getD i default).2.2.2.2.val ≤ 39 := by
  obtain ⟨j, hj, e, o⟩ := scan_mem 40 _ (sc_mem h)
  refine ⟨o, ?_⟩
  rw [e, at_val (by omega)]
  omega
theorem sc_up {i : Nat} (h : i + 1 < (scanL z l t).length) : ((scanL z l t).getD i default).2.2.2.2.val < ((scanL z l t).getD (i + 1) default).2.2.2.2.val := by
  rw [gd_of h, gd_of (show i < _ by omega)]
  exact List.pairwise_iff_getElem.1 ((scan_up (z := z) (l := l) (t := t) 40 (by omega)).sublist (List.take_sublist 10 _)) i (i + 1) (by exact Nat.lt_of_succ_lt h) h (by omega)
theorem sc_len : (scanL z l t).length = min 10 (scanTo z l t 40).length := by unfold scanL; rw [List.length_take]
theorem sc_more {i : Nat} (hi : i < 40) (ho : onP (objN z i) l t = true) : (scanTo z l t i).length + 1 ≤ (scanTo z l t 40).length := by
  obtain ⟨r, e⟩ := scan_pre z l t (i + 1) (40 - (i + 1))
  rw [show i + 1 + (40 - (i + 1)) = 40 by omega, scan_yes ho] at e
  rw [e]
  simp only [List.length_append, List.length_singleton]
  omega
theorem sc_next {i : Nat} (hi : i < 40) (ho : onP (objN z i) l t = true) (h : (scanTo z l t i).length < (scanL z l t).length) : (scanL z l t).getD (scanTo z l t i).length default = objN z i := by
  obtain ⟨r, e⟩ := scan_pre z l t (i + 1) (40 - (i + 1))
  rw [show i + 1 + (40 - (i + 1)) = 40 by omega, scan_yes ho] at e
  have q := sc_len (z := z) (l := l) (t := t)
  unfold scanL
  rw [e, List.getD_eq_getElem?_getD, List.getElem?_take, if_pos (by omega), List.getElem?_append, if_pos (by simp only [List.length_append, List.length_singleton]; omega), List.getElem?_append, if_neg (by omega), Nat.sub_self]
  rfl
theorem sc_full {i : Nat} (hi : i < 40) (ho : onP (objN z i) l t = true) (h : (scanL z l t).length ≤ (scanTo z l t i).length) : (scanL z l t).length = 10 := by
  have a := sc_more hi ho
  have q := sc_len (z := z) (l := l) (t := t)
  omega
theorem sc_step {i nx : Nat} (hi : i < 40) (hn : nx = min (scanTo z l t i).length (scanL z l t).length) : (onP (objN z i) l t = false → nx = min (scanTo z l t (i + 1)).length (scanL z l t).length) ∧
    (onP (objN z i) l t = true → nx < (scanL z l t).length → (scanL z l t).getD nx default = objN z i ∧ nx + 1 = min (scanTo z l t (i + 1)).length (scanL z l t).length) ∧
    (onP (objN z i) l t = true → ¬ nx < (scanL z l t).length → (scanL z l t).length = 10 ∧ nx = min (scanTo z l t (i + 1)).length (scanL z l t).length) := by
  refine ⟨fun h => by rw [scan_no h]; exact hn, fun h q => ?_, fun h q => ?_⟩
  · have e : nx = (scanTo z l t i).length := by omega
    refine ⟨by rw [e]; exact sc_next hi h (by omega), ?_⟩
    rw [scan_yes h, List.length_append, List.length_singleton]
    omega
  · refine ⟨sc_full hi h (by omega), ?_⟩
    rw [scan_yes h, List.length_append, List.length_singleton]
    omega
theorem sc_last {nx : Nat} (hn : nx = min (scanTo z l t 40).length (scanL z l t).length) : nx = (scanL z l t).length := by
  have q := sc_len (z := z) (l := l) (t := t)
  omega
end
set_option maxRecDepth 100000 in
set_option maxHeartbeats 40000000 in
theorem ten16 (a : Option Addr) (cap : Nat) (z : List Int) (l : Int) (t : Bool) (w : World) (h : Sl w a cap z) (hl : z.length ≤ 140737488355328) :
    Calls Try.prog 7 #[.slice a z.length cap, .int .i64 l, .bool t] w fun e w' => e = .returned (.bool true) ∧ Kept w w' := by
  have mixed : Try.prog.follows .mixedOrders = true := by kernel_rfl
  have S := hid (fun u => kshown16 u)
  have A0 := hid (fun u k => pscan16 a cap z l t u (sl_kept k h) hl)
  have R := hid (fun o u => prow16 o l t u)
  have SON := hid (fun i => sc_on (z := z) (l := l) (t := t) (i := i))
  have SUP := hid (fun i => sc_up (z := z) (l := l) (t := t) (i := i))
  have STP := hid (fun i nx => sc_step (z := z) (l := l) (t := t) (i := i) (nx := nx))
  have SLA := hid (fun nx => sc_last (z := z) (l := l) (t := t) (nx := nx))
  have n10 : (scanL z l t).length ≤ 10 := by unfold scanL; rw [List.length_take]; omega
  obtain ⟨n, hn⟩ : ∃ n, (scanL z l t).length = n := ⟨_, rfl⟩
  have HN := hid hn
  rw [hn] at A0 SON SUP STP SLA n10
  generalize scanL z l t = L at *
  obtain ⟨m, hm⟩ : ∃ m, z.length = m := ⟨_, rfl⟩
  have HM := hid hm
  have HS := hid h
  have BV := hid (fun i => byF_val h.row.2.1 i)
  rw [hm] at A0 hl ⊢
  have g1 : ¬ (10 : Int) < (n : Int) := by omega
  clear hn hm h
  go_enter Try.func7, Try.ntmps7
  go_wp2_with fail
  refine (S.out _).mono ?_
  rintro e w1 ⟨rfl, k1⟩
  have K1 := hid k1
  clear k1
  go_wp2_with fail
  refine (A0.out _ K1.out).mono ?_
  rintro e wx ⟨⟨a2, c2, rfl, s2⟩, k2⟩
  have KX := hid (K1.out.trans k2)
  have S2 := hid s2
  have FG := hid (fun q => slO_at s2 q)
  rw [HN.out] at FG
  clear k2 s2
  go_wp2_with fail
  go_loopw [9] (fun iv wr => ∃ i : Nat, i ≤ n ∧ iv = .int .i64 (i : Int) ∧ Kept wx wr) (fun iv _ => n - (intOf iv).toNat)
  case atStart => exact ⟨0, Nat.zero_le _, rfl, Kept.refl wx⟩
  case round =>
    obtain ⟨i, hi, rfl, hk⟩ := hrel
    have KK := hid hk
    by_cases hin : i < n
    · have g2 : decide ((i : Int) < (n : Int)) = true := decide_eq_true (by omega)
      have g3 : (i : Int) < (n : Int) := by omega
      obtain ⟨y, rfl, hy, hd⟩ := FG.out (by omega)
      obtain ⟨o, ho⟩ : ∃ o, L.getD i default = o := ⟨_, rfl⟩
      have Q := SON.out i hin
      rw [ho] at Q
      have D := oat_kept hk (by rw [addFB]; exact hy) (hd i hin)
      rw [ho] at D
      have A := hid (fun u => R.out o u)
      rw [Q.1] at A
      obtain ⟨_, q39⟩ := Q
      generalize tileR o l t = tv at *
      generalize rowR o l t = rv at *
      rcases Nat.eq_zero_or_pos i with i0 | i0
      · have gi : ¬ (0 : Int) < (i : Int) := by omega
        have gj : decide ((0 : Int) < (i : Int)) = false := decide_eq_false (by omega)
        have I1 : ¬ 0 < i := by omega
        have I0 := hid i0
        clear i0 ho hd hk
        have HD := hid D
        obtain ⟨⟨oy, ly⟩, ⟨ox, lx⟩, ⟨ot, lt⟩, ⟨oa, la⟩, ⟨on, ln⟩⟩ := o
        obtain ⟨d0, d1, d2, d3, d4⟩ := D
        simp only [b8, obV] at d0 d1 d2 d3 d4 A q39
        have v1 : decide (39 < (on : Int)) = false := decide_eq_false (by omega)
        go_wp2_with fail
        refine (A.out _).mono ?_
        rintro e w3 ⟨rfl, k3⟩
        have K3 := hid (KK.out.trans k3)
        obtain ⟨f0, f1, f2, f3, f4⟩ := oat_kept k3 (by rw [addFB]; exact Nat.lt_of_lt_of_le hy KK.out.size) HD.out
        simp only [b8] at f0 f1 f2 f3 f4
        clear k3 d0 d1 d2 d3 d4
        go_wp2_with fail
        go_quiet (fail)
        go_wp2
        go_roundw
        case rel => exact ⟨i + 1, by omega, by go_num, K3.out.drewN⟩
        case measure => first | omega | (simp; omega) | (simp [intOf]; omega)
      · have gi : (0 : Int) < (i : Int) := by omega
        have gj : decide ((0 : Int) < (i : Int)) = true := decide_eq_true (by omega)
        obtain ⟨j, hj⟩ : ∃ j, i = j + 1 := ⟨i - 1, by omega⟩
        have rj : IntKind.i64.wrap ((i : Int) - 1) = (j : Int) := by rw [IntKind.wrap_i64]; omega
        have bj : (j : Int) < (n : Int) := by omega
        obtain ⟨p, hp⟩ : ∃ p, L.getD j default = p := ⟨_, rfl⟩
        have U := SUP.out j (by omega)
        rw [← hj, ho, hp] at U
        have HDP := hid (hd j (by omega))
        rw [hp] at HDP
        have HD := hid D
        have HJ := hid hj
        clear ho hp hd hk hj
        obtain ⟨⟨oy, ly⟩, ⟨ox, lx⟩, ⟨ot, lt⟩, ⟨oa, la⟩, ⟨on, ln⟩⟩ := o
        obtain ⟨⟨py, my⟩, ⟨px, mx⟩, ⟨pt, mt⟩, ⟨pa, ma⟩, ⟨pn, mn⟩⟩ := p
        obtain ⟨d0, d1, d2, d3, d4⟩ := D
        simp only [b8, obV] at d0 d1 d2 d3 d4 A q39 U
        have v1 : decide (39 < (on : Int)) = false := decide_eq_false (by omega)
        have v2 : decide ((on : Int) ≤ (pn : Int)) = false := decide_eq_false (by omega)
        have v2n : decide (on ≤ pn) = false := decide_eq_false (by omega)
        go_wp2_with fail
        refine (A.out _).mono ?_
        rintro e w3 ⟨rfl, k3⟩
        have K3 := hid (KK.out.trans k3)
        obtain ⟨f0, f1, f2, f3, f4⟩ := oat_kept k3 (by rw [addFB]; exact Nat.lt_of_lt_of_le hy KK.out.size) HD.out
        obtain ⟨p0, p1, p2, p3, p4⟩ := oat_kept K3.out (by rw [addFB]; exact hy) HDP.out
        simp only [b8] at f0 f1 f2 f3 f4 p0 p1 p2 p3 p4
        clear k3 d0 d1 d2 d3 d4
        go_wp2_with fail
        go_quiet (fail)
        go_wp2
        go_roundw
        case rel => exact ⟨i + 1, by omega, by go_num, K3.out.drewN⟩
        case measure => first | omega | (simp; omega) | (simp [intOf]; omega)
    · have g2 : decide ((i : Int) < (n : Int)) = false := decide_eq_false (by omega)
      have g3 : ¬ (i : Int) < (n : Int) := by omega
      clear hk
      go_wp2_with fail
      go_loopw [13, 14] (fun nv iv wr => ∃ i nx : Nat, i ≤ 40 ∧ nv = .int .i64 (nx : Int) ∧ iv = .int .i64 (i : Int) ∧ Hid (nx = min (scanTo z l t i).length n) ∧ nx ≤ n ∧ Kept wx wr) (fun _ iv _ => 40 - (intOf iv).toNat)
      case atStart => exact ⟨0, 0, by omega, rfl, rfl, (show 0 = min 0 n by omega), by omega, KK.out⟩
      case round =>
        clear KK g2 g3 hi hin
        obtain ⟨i, nx, hi, rfl, rfl, HX, hnx, hk⟩ := hrel
        have KK := hid hk
        by_cases hin : i < 40
        · have g2 : decide ((i : Int) < 40) = true := decide_eq_true (by omega)
          have g3 : (i : Int) < 40 := by omega
          obtain ⟨K, hK⟩ : ∃ K, K = 4 * i := ⟨_, rfl⟩
          have r0 : IntKind.i64.wrap (4 * (i : Int)) = (K : Int) := by rw [IntKind.wrap_i64]; omega
          have r1 : IntKind.i64.wrap ((K : Int) + 1) = ((K + 1 : Nat) : Int) := by rw [IntKind.wrap_i64]; omega
          have r2 : IntKind.i64.wrap ((K : Int) + 2) = ((K + 2 : Nat) : Int) := by rw [IntKind.wrap_i64]; omega
          have r3 : IntKind.i64.wrap ((K : Int) + 3) = ((K + 3 : Nat) : Int) := by rw [IntKind.wrap_i64]; omega
          have r8 : IntKind.u8.wrap (i : Int) = (i : Int) := by rw [IntKind.wrap_u8]; omega
          obtain ⟨o, ho⟩ : ∃ o, objN z i = o := ⟨_, rfl⟩
          have A := hid (fun u => R.out o u)
          generalize tileR o l t = tv at *
          generalize rowR o l t = rv at *
          have Q := STP.out i nx hin HX.out
          rw [ho] at Q
          have SNO := hid Q.1
          have SYES := hid Q.2.1
          have SFUL := hid Q.2.2
          have V0 := BV.out (4 * i)
          have V1 := BV.out (4 * i + 1)
          have V2 := BV.out (4 * i + 2)
          have V3 := BV.out (4 * i + 3)
          have V4 : (o.2.2.2.2.val : Int) = (i : Int) := by rw [← ho, at_val (by omega)]
          rw [show byF z (4 * i) = o.1 by rw [← ho]; rfl, ← hK] at V0
          rw [show byF z (4 * i + 1) = o.2.1 by rw [← ho]; rfl, ← hK] at V1
          rw [show byF z (4 * i + 2) = o.2.2.1 by rw [← ho]; rfl, ← hK] at V2
          rw [show byF z (4 * i + 3) = o.2.2.2.1 by rw [← ho]; rfl, ← hK] at V3
          have HK := hid hK
          clear Q ho hK hk
          obtain ⟨⟨oy, ly⟩, ⟨ox, lx⟩, ⟨ot, lt⟩, ⟨oa, la⟩, ⟨on, ln⟩⟩ := o
          simp only [obV, b8] at A V0 V1 V2 V3 V4
          have B0 := blk_new wr [.int .u8 0, .int .u8 0, .int .u8 0, .int .u8 0, .int .u8 (i : Int)] 31
          have KA := hid (KK.out.alloc (.cells ([.int .u8 0, .int .u8 0, .int .u8 0, .int .u8 0, .int .u8 (i : Int)] : List Value).toArray 31))
          by_cases c3 : K + 3 < m
          · have g4 : decide (((K + 3 : Nat) : Int) < (m : Int)) = true := decide_eq_true (by omega)
            have g4z : ((K + 3 : Nat) : Int) < (m : Int) := by omega
            obtain ⟨x, rfl, hx, hc⟩ := row_get HS.out.row (by rw [HM.out]; omega)
            have e0 := (hc K (by rw [HM.out]; omega)).1
            have e1 := (hc (K + 1) (by rw [HM.out]; omega)).1
            have e2 := (hc (K + 2) (by rw [HM.out]; omega)).1
            have e3 := (hc (K + 3) (by rw [HM.out]; omega)).1
            rw [← V0] at e0
            rw [← V1] at e1
            rw [← V2] at e2
            rw [← V3] at e3
            have HV4 := hid V4
            simp only [V4] at A
            clear V0 V1 V2 V3 V4
            have xr : x.block < wr.heap.size := Nat.lt_of_lt_of_le hx (KX.out.trans KK.out).size
            have cel : ∀ q, (wr.alloc (.cells ([.int .u8 0, .int .u8 0, .int .u8 0, .int .u8 0, .int .u8 (i : Int)] : List Value).toArray 31)).cell? (x.add q) = w.cell? (x.add q) := fun q => ((KX.out.trans KA.out).cell (x := x.add q) (by rw [addB]; exact hx))
            rw [← cel] at e0 e1 e2 e3
            have g5 : ((K : Nat) : Int) < (m : Int) := by omega
            have g6 : ((K + 1 : Nat) : Int) < (m : Int) := by omega
            have g7 : ((K + 2 : Nat) : Int) < (m : Int) := by omega
            generalize hK1 : K + 1 = Ka at *
            generalize hK2 : K + 2 = Kb at *
            generalize hK3 : K + 3 = Kc at *
            have HKK := hid (And.intro hK1 (And.intro hK2 hK3))
            clear hK1 hK2 hK3 hc cel c3
            go_wp2_with fail
            obtain ⟨wa, hwa⟩ : ∃ u, u = wr.alloc (.cells ([.int .u8 0, .int .u8 0, .int .u8 0, .int .u8 0, .int .u8 (i : Int)] : List Value).toArray 31) := ⟨_, rfl⟩
            rw [← hwa] at e0 e1 e2 e3 B0 KA ⊢
            obtain ⟨G, hG⟩ : ∃ G, G = wr.heap.size := ⟨_, rfl⟩
            rw [← hG] at B0 ⊢
            have c0 := blk_cell B0 0
            have c1 := blk_cell B0 1
            have c2 := blk_cell B0 2
            have c3 := blk_cell B0 3
            have c4 := blk_cell B0 4
            simp only [List.getElem?_cons_zero, List.getElem?_cons_succ] at c0 c1 c2 c3 c4
            have fz := fun o => blk_froz B0 o
            have PU : Put wa G 31 [.int .u8 (oy : Int), .int .u8 (ox : Int), .int .u8 (ot : Int), .int .u8 (oa : Int), .int .u8 (i : Int)] (((((wa.setCell ⟨G, 0, none⟩ (.int .u8 (oy : Int))).setCell ⟨G, 1, none⟩ (.int .u8 (ox : Int))).setCell ⟨G, 2, none⟩ (.int .u8 (ot : Int))).setCell ⟨G, 3, none⟩ (.int .u8 (oa : Int))).setCell ⟨G, 4, none⟩ (.int .u8 (i : Int))) := put_of B0 0 [.int .u8 (oy : Int), .int .u8 (ox : Int), .int .u8 (ot : Int), .int .u8 (oa : Int), .int .u8 (i : Int)] (by simp)
            have PU := hid PU
            have Gx : wx.heap.size ≤ G := by rw [hG]; exact KK.out.size
            clear B0 hwa hG
            go_big_region
            have B2 := blk_drew PU.out.blk
            have K2 := hid ((PU.out.kept _ KA.out Gx).drew)
            clear c0 c1 c2 c3 c4 fz e0 e1 e2 e3 PU
            generalize (((((wa.setCell ⟨G, 0, none⟩ (.int .u8 (oy : Int))).setCell ⟨G, 1, none⟩ (.int .u8 (ox : Int))).setCell ⟨G, 2, none⟩ (.int .u8 (ot : Int))).setCell ⟨G, 3, none⟩ (.int .u8 (oa : Int))).setCell ⟨G, 4, none⟩ (.int .u8 (i : Int))).drew = w2 at K2 B2 ⊢
            have BX := B2
            have c0 := blk_cell B2 0
            have c1 := blk_cell B2 1
            have c2 := blk_cell B2 2
            have c3 := blk_cell B2 3
            have c4 := blk_cell B2 4
            simp only [List.getElem?_cons_zero, List.getElem?_cons_succ] at c0 c1 c2 c3 c4
            have lG := blk_lt B2
            clear B2
            cases hb : onP (⟨⟨oy, ly⟩, ⟨ox, lx⟩, ⟨ot, lt⟩, ⟨oa, la⟩, ⟨on, ln⟩⟩ : Ob) l t
            · have NX := hid (SNO.out hb)
              rw [hb] at A
              clear hb
              go_wp2_with fail
              refine (A.out _).mono ?_
              rintro e w3 ⟨rfl, k3⟩
              have K3 := hid (K2.out.trans k3)
              have BY := hid (blk_kept k3 BX)
              clear k3 c0 c1 c2 c3 c4
              go_wp2
              go_roundw
              case rel => exact ⟨i + 1, nx, by omega, rfl, by go_num, NX.out, hnx, K3.out⟩
              case measure => first | omega | (simp; omega) | (simp [intOf]; omega)
            · by_cases hlt2 : nx < n
              · have g7 : decide ((nx : Int) < (n : Int)) = true := decide_eq_true (by omega)
                have g8 : (nx : Int) < (n : Int) := by omega
                obtain ⟨E9, N9⟩ := SYES.out hb hlt2
                have NX := hid N9
                clear N9
                obtain ⟨y, rfl, hy, hd⟩ := FG.out (by omega)
                have EQ := fun u => eq_obs (⟨⟨oy, ly⟩, ⟨ox, lx⟩, ⟨ot, lt⟩, ⟨oa, la⟩, ⟨on, ln⟩⟩ : Ob) (⟨⟨oy, ly⟩, ⟨ox, lx⟩, ⟨ot, lt⟩, ⟨oa, la⟩, ⟨on, ln⟩⟩ : Ob) u
                have hde : decide ((⟨⟨oy, ly⟩, ⟨ox, lx⟩, ⟨ot, lt⟩, ⟨oa, la⟩, ⟨on, ln⟩⟩ : Ob) = (⟨⟨oy, ly⟩, ⟨ox, lx⟩, ⟨ot, lt⟩, ⟨oa, la⟩, ⟨on, ln⟩⟩ : Ob)) = true := decide_eq_true rfl
                rw [hde] at EQ
                simp only [obV, b8, HV4.out] at EQ
                clear hde
                rw [hb] at A
                clear hb
                go_wp2_with fail
                refine (A.out _).mono ?_
                rintro e w3 ⟨rfl, k3⟩
                have K3 := hid (K2.out.trans k3)
                have BY := hid (blk_kept k3 BX)
                clear k3 c0 c1 c2 c3 c4
                obtain ⟨d0, d1, d2, d3, d4⟩ := oat_kept K3.out (by rw [addFB]; exact hy) (hd nx hlt2)
                rw [E9] at d0 d1 d2 d3 d4
                simp only [b8, HV4.out] at d0 d1 d2 d3 d4
                have f0 := blk_cell BY.out 0
                have f1 := blk_cell BY.out 1
                have f2 := blk_cell BY.out 2
                have f3 := blk_cell BY.out 3
                have f4 := blk_cell BY.out 4
                simp only [List.getElem?_cons_zero, List.getElem?_cons_succ] at f0 f1 f2 f3 f4
                clear E9 hd
                go_wp2_with fail
                go_quiet (fail)
                go_wp2
                go_roundw
                case rel => exact ⟨i + 1, nx + 1, by omega, by go_num, by go_num, NX.out, by omega, K3.out.drewN⟩
                case measure => first | omega | (simp; omega) | (simp [intOf]; omega)
              · have g7 : decide ((nx : Int) < (n : Int)) = false := decide_eq_false (by omega)
                have g8 : ¬ (nx : Int) < (n : Int) := by omega
                obtain ⟨E9, N9⟩ := SFUL.out hb hlt2
                have NX := hid N9
                have g9 : decide ((n : Int) < 10) = false := decide_eq_false (by omega)
                have g10 : ¬ (n : Int) < 10 := by omega
                have E8 := hid E9
                clear N9 E9
                rw [hb] at A
                clear hb
                go_wp2_with fail
                refine (A.out _).mono ?_
                rintro e w3 ⟨rfl, k3⟩
                have K3 := hid (K2.out.trans k3)
                have BY := hid (blk_kept k3 BX)
                clear k3 c0 c1 c2 c3 c4
                go_wp2
                go_roundw
                case rel => exact ⟨i + 1, nx, by omega, rfl, by go_num, NX.out, hnx, K3.out⟩
                case measure => first | omega | (simp; omega) | (simp [intOf]; omega)
          · have g4 : decide (((K + 3 : Nat) : Int) < (m : Int)) = false := decide_eq_false (by omega)
            have g4z : ¬ ((K + 3 : Nat) : Int) < (m : Int) := by omega
            generalize hK3 : K + 3 = K3 at *
            have HK3 := hid hK3
            clear hK3
            by_cases c0 : K < m
            · have g5 : decide ((K : Int) < (m : Int)) = true := decide_eq_true (by omega)
              have g6 : (K : Int) < (m : Int) := by omega
              clear V0 V1 V2 V3 V4
              go_wp2
              go_ret
              exact ⟨rfl, KX.out.trans KA.out⟩
            · have g5 : decide ((K : Int) < (m : Int)) = false := decide_eq_false (by omega)
              have g6 : ¬ (K : Int) < (m : Int) := by omega
              have mz := HM.out
              rw [byF_out (by omega)] at V0
              rw [byF_out (by omega)] at V1
              rw [byF_out (by omega)] at V2
              rw [byF_out (by have := HK3.out; omega)] at V3
              have HV0 := hid V0
              have HV1 := hid V1
              have HV2 := hid V2
              have HV3 := hid V3
              have HV4 := hid V4
              simp only [V0, V1, V2, V3, V4] at A
              clear mz V0 V1 V2 V3 V4
              cases hb : onP (⟨⟨oy, ly⟩, ⟨ox, lx⟩, ⟨ot, lt⟩, ⟨oa, la⟩, ⟨on, ln⟩⟩ : Ob) l t
              · have NX := hid (SNO.out hb)
                rw [hb] at A
                clear hb
                go_wp2_with fail
                refine (A.out _).mono ?_
                rintro e w3 ⟨rfl, k3⟩
                have K3 := hid (KA.out.trans k3)
                have BY := hid (blk_kept k3 B0)
                clear k3
                go_wp2
                go_roundw
                case rel => exact ⟨i + 1, nx, by omega, rfl, by go_num, NX.out, hnx, K3.out⟩
                case measure => first | omega | (simp; omega) | (simp [intOf]; omega)
              · by_cases hlt2 : nx < n
                · have g7 : decide ((nx : Int) < (n : Int)) = true := decide_eq_true (by omega)
                  have g8 : (nx : Int) < (n : Int) := by omega
                  obtain ⟨E9, N9⟩ := SYES.out hb hlt2
                  have NX := hid N9
                  clear N9
                  obtain ⟨y, rfl, hy, hd⟩ := FG.out (by omega)
                  have EQ := fun u => eq_obs (⟨⟨oy, ly⟩, ⟨ox, lx⟩, ⟨ot, lt⟩, ⟨oa, la⟩, ⟨on, ln⟩⟩ : Ob) (⟨⟨oy, ly⟩, ⟨ox, lx⟩, ⟨ot, lt⟩, ⟨oa, la⟩, ⟨on, ln⟩⟩ : Ob) u
                  have hde : decide ((⟨⟨oy, ly⟩, ⟨ox, lx⟩, ⟨ot, lt⟩, ⟨oa, la⟩, ⟨on, ln⟩⟩ : Ob) = (⟨⟨oy, ly⟩, ⟨ox, lx⟩, ⟨ot, lt⟩, ⟨oa, la⟩, ⟨on, ln⟩⟩ : Ob)) = true := decide_eq_true rfl
                  rw [hde] at EQ
                  simp only [obV, b8, HV0.out, HV1.out, HV2.out, HV3.out, HV4.out] at EQ
                  clear hde
                  rw [hb] at A
                  clear hb
                  go_wp2_with fail
                  refine (A.out _).mono ?_
                  rintro e w3 ⟨rfl, k3⟩
                  have K3 := hid (KA.out.trans k3)
                  have BY := hid (blk_kept k3 B0)
                  clear k3
                  obtain ⟨d0, d1, d2, d3, d4⟩ := oat_kept K3.out (by rw [addFB]; exact hy) (hd nx hlt2)
                  rw [E9] at d0 d1 d2 d3 d4
                  simp only [b8, HV0.out, HV1.out, HV2.out, HV3.out, HV4.out] at d0 d1 d2 d3 d4
                  have f0 := blk_cell BY.out 0
                  have f1 := blk_cell BY.out 1
                  have f2 := blk_cell BY.out 2
                  have f3 := blk_cell BY.out 3
                  have f4 := blk_cell BY.out 4
                  simp only [List.getElem?_cons_zero, List.getElem?_cons_succ] at f0 f1 f2 f3 f4
                  clear E9 hd
                  go_wp2_with fail
                  go_quiet (fail)
                  go_wp2
                  go_roundw
                  case rel => exact ⟨i + 1, nx + 1, by omega, by go_num, by go_num, NX.out, by omega, K3.out.drewN⟩
                  case measure => first | omega | (simp; omega) | (simp [intOf]; omega)
                · have g7 : decide ((nx : Int) < (n : Int)) = false := decide_eq_false (by omega)
                  have g8 : ¬ (nx : Int) < (n : Int) := by omega
                  obtain ⟨E9, N9⟩ := SFUL.out hb hlt2
                  have NX := hid N9
                  have g9 : decide ((n : Int) < 10) = false := decide_eq_false (by omega)
                  have g10 : ¬ (n : Int) < 10 := by omega
                  have E8 := hid E9
                  clear N9 E9
                  rw [hb] at A
                  clear hb
                  go_wp2_with fail
                  refine (A.out _).mono ?_
                  rintro e w3 ⟨rfl, k3⟩
                  have K3 := hid (KA.out.trans k3)
                  have BY := hid (blk_kept k3 B0)
                  clear k3
                  go_wp2
                  go_roundw
                  case rel => exact ⟨i + 1, nx, by omega, rfl, by go_num, NX.out, hnx, K3.out⟩
                  case measure => first | omega | (simp; omega) | (simp [intOf]; omega)
        · have ie : i = 40 := by omega
          subst ie
          have E := SLA.out nx HX.out
          have g2 : decide ((40 : Int) < 40) = false := rfl
          subst E
          clear hk
          go_wp2
          go_ret
          exact ⟨by simp, KX.out.trans KK.out⟩
end Go.Proofs.Ytaknbjignaefkaa
