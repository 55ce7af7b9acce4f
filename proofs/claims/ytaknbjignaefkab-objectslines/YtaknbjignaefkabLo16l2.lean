/- Layer 16's law ObjectsLines. -/
import Derived.Test.YtaknbjignaefkabSw16
import Derived.Test.YtaknbjignaefkabLn16
namespace Go.Proofs.Ytaknbjignaefkab
open Go.RowKit
set_option linter.unusedVariables false
set_option linter.unusedSimpArgs false

set_option maxRecDepth 100000 in
set_option maxHeartbeats 20000000 in
theorem lines16_t (o : Ob) (w : World) : Calls Try.prog 3 #[obV o, .bool true] w fun e w' => e = .returned (.bool true) ∧ Kept w w' := by
  have S := hid (fun u => kshown16 u)
  have WI := inO_in o
  have y0 := WI.y0
  have y1 := WI.y1
  have x0 := WI.x0
  have x1 := WI.x1
  have eY : (inO o).1.val = 16 + o.1.val % 129 := rfl
  have eX : (inO o).2.1.val = 8 + o.2.1.val % 153 := rfl
  have e2 : (inO o).2.2 = o.2.2 := rfl
  have HR := hid (fun l u => prow16 (inO o) l true u)
  have HC := hid (fun x u => pcol16 (inO o) x u)
  have HB := hid (fun l u => prow16 (flO (inO o)) l true u)
  have FA := flO_a (inO o)
  have FT := hid (fun l h => fl_tile (o := inO o) (l := l) (t := true) WI h)
  have FO := hid (fun l h => fl_on (o := inO o) (l := l) (t := true) WI h)
  have RIN := hid (fun l h => row_in (o := inO o) (l := l) (t := true) h)
  have ONI := hid (fun l => on_within WI l true)
  have COI := hid (fun x => col_within WI x)
  have LNO := hid (fun l h => lin_no WI (l := l) (t := true) h)
  have LYE := hid (fun l h => lin_yes WI (l := l) (t := true) h)
  have L0 := hid (lin_start WI true)
  have LE := hid (lin_end WI true)
  have LB := hid (fun l => lin_bd (inO o) true l)
  have SNO := hid (fun x h => seen_no WI (x := x) h)
  have SYE := hid (fun x h => seen_yes WI (x := x) h)
  have S0 := hid (seen_start WI)
  have SE := hid (seen_end WI)
  have BL : ∀ l, backL (inO o) l true = 2 * ((inO o).1.val : Int) - 32 + 16 - 1 - l := fun l => rfl
  have flv : ∀ k, obV (flO (inO o)) = .agg #[.int .u8 ((inO o).1.val : Int), .int .u8 ((inO o).2.1.val : Int), .int .u8 (o.2.2.1.val : Int), .int .u8 ((flO (inO o)).2.2.2.1.val : Int), .int .u8 (o.2.2.2.2.val : Int)] := fun _ : Unit => rfl
  have inv : ∀ k, obV (inO o) = .agg #[.int .u8 ((inO o).1.val : Int), .int .u8 ((inO o).2.1.val : Int), .int .u8 (o.2.2.1.val : Int), .int .u8 (o.2.2.2.1.val : Int), .int .u8 (o.2.2.2.2.val : Int)] := fun _ : Unit => rfl
  rw [flv ()] at HB
  rw [inv ()] at HR HC
  rw [FA] at HB
  rw [show (inO o).2.2.2.1.val = o.2.2.2.1.val from rfl] at HB
  have q129 : Int.tmod (o.1.val : Int) 129 = ((o.1.val % 129 : Nat) : Int) := by rw [Int.tmod_eq_emod_of_nonneg (by omega)]; omega
  have q153 : Int.tmod (o.2.1.val : Int) 153 = ((o.2.1.val % 153 : Nat) : Int) := by rw [Int.tmod_eq_emod_of_nonneg (by omega)]; omega
  obtain ⟨Y, hY⟩ : ∃ Y, (inO o).1.val = Y := ⟨_, rfl⟩
  obtain ⟨X, hX⟩ : ∃ X, (inO o).2.1.val = X := ⟨_, rfl⟩
  obtain ⟨qy, hqy⟩ : ∃ q, o.1.val % 129 = q := ⟨_, rfl⟩
  obtain ⟨qx, hqx⟩ : ∃ q, o.2.1.val % 153 = q := ⟨_, rfl⟩
  rw [hqy] at q129 eY
  rw [hqx] at q153 eX
  rw [hY] at y0 y1 eY HR HC HB ONI BL
  rw [hX] at x0 x1 eX HR HC HB COI
  have w0 : IntKind.u8.wrap (qy : Int) = (qy : Int) := by rw [IntKind.wrap_u8]; omega
  have w1 : IntKind.u8.wrap (qx : Int) = (qx : Int) := by rw [IntKind.wrap_u8]; omega
  have w2 : IntKind.u8.wrap (16 + (qy : Int)) = (Y : Int) := by rw [IntKind.wrap_u8]; omega
  have w3 : IntKind.u8.wrap (8 + (qx : Int)) = (X : Int) := by rw [IntKind.wrap_u8]; omega
  have hYq : Y < 256 := by omega
  have hXq : X < 256 := by omega
  generalize onP (inO o) = onF at *
  generalize rowR (inO o) = rowF at *
  generalize tileR (inO o) = tilF at *
  generalize onP (flO (inO o)) = onG at *
  generalize rowR (flO (inO o)) = rowG at *
  generalize tileR (flO (inO o)) = tilG at *
  generalize colOn (inO o) = colF at *
  generalize colI (inO o) = colV at *
  generalize linN (inO o) true = lin at *
  generalize seenI (inO o) = sn at *
  generalize backL (inO o) = bk at *
  clear FA flv inv WI e2 eY eX hqy hqx hY hX
  obtain ⟨⟨oy, ly⟩, ⟨ox, lx⟩, ⟨ot, lt⟩, ⟨oa, la⟩, ⟨on, ln⟩⟩ := o
  simp only [obV, b8] at HR HC HB q129 q153 ⊢
  obtain ⟨xa, hxa⟩ : ∃ v, bits .xor .u8 (oa : Int) 64 = v := ⟨_, rfl⟩
  rw [hxa] at HB
  go_enter Try.func3, Try.ntmps3
  go_wp2_with fail
  refine (S.out _).mono ?_
  rintro e wa ⟨rfl, k1⟩
  have KA := hid (((Kept.refl w).alloc _).trans k1)
  have B1 := blk_kept k1 (blk_new w [.int .u8 (oy : Int), .int .u8 (ox : Int), .int .u8 (ot : Int), .int .u8 (oa : Int), .int .u8 (on : Int)] 23)
  obtain ⟨G, hG⟩ : ∃ G, G = w.heap.size := ⟨_, rfl⟩
  rw [← hG] at B1 ⊢
  have GW : w.heap.size ≤ G := by omega
  clear hG k1
  have c0 := blk_cell B1 0
  have c1 := blk_cell B1 1
  have c2 := blk_cell B1 2
  have c3 := blk_cell B1 3
  have c4 := blk_cell B1 4
  simp only [List.getElem?_cons_zero, List.getElem?_cons_succ] at c0 c1 c2 c3 c4
  have fz := fun q => blk_froz B1 q
  have lG := blk_lt B1
  have P1 : Put wa G 23 [.int .u8 (Y : Int), .int .u8 (ox : Int), .int .u8 (ot : Int), .int .u8 (oa : Int), .int .u8 (on : Int)] (wa.setCell ⟨G, 0, none⟩ (.int .u8 (Y : Int))) := put_of B1 0 [.int .u8 (Y : Int)] (by simp)
  have P2 : Put (wa.setCell ⟨G, 0, none⟩ (.int .u8 (Y : Int))) G 23 [.int .u8 (Y : Int), .int .u8 (X : Int), .int .u8 (ot : Int), .int .u8 (oa : Int), .int .u8 (on : Int)] ((wa.setCell ⟨G, 0, none⟩ (.int .u8 (Y : Int))).setCell ⟨G, 1, none⟩ (.int .u8 (X : Int))) := put_of P1.blk 1 [.int .u8 (X : Int)] (by simp)
  have BW := hid P2.blk
  have KW := hid (P2.kept _ (P1.kept _ KA.out GW) GW)
  clear P1 P2 B1
  go_wp2_with fail
  obtain ⟨wb, hwb⟩ : ∃ u, u = (wa.setCell ⟨G, 0, none⟩ (.int .u8 (Y : Int))).setCell ⟨G, 1, none⟩ (.int .u8 (X : Int)) := ⟨_, rfl⟩
  rw [← hwb] at BW KW ⊢
  clear hwb c0 c1 c2 c3 c4 fz lG KA q129 q153 w0 w1 w2 w3
  go_loopw [7, 8] (fun nv iv wr => ∃ l : Int, -3 ≤ l ∧ l ≤ 150 ∧ nv = .int .i64 (lin l) ∧ iv = .int .i64 l ∧ Kept wb wr) (fun _ iv _ => (150 - intOf iv).toNat)
  case atStart => exact ⟨-3, by omega, by omega, by rw [L0.out], rfl, Kept.refl wb⟩
  case round =>
    obtain ⟨l, l0, l1, rfl, rfl, hk⟩ := hrel
    have KK := hid hk
    have BR := blk_kept hk BW.out
    have rl : IntKind.i64.wrap (l + 1) = l + 1 := by rw [IntKind.wrap_i64]; omega
    have c0 := blk_cell BR 0
    have c1 := blk_cell BR 1
    have c2 := blk_cell BR 2
    have c3 := blk_cell BR 3
    have c4 := blk_cell BR 4
    simp only [List.getElem?_cons_zero, List.getElem?_cons_succ] at c0 c1 c2 c3 c4
    have lG := blk_lt BR
    have BR := hid BR
    clear hk
    by_cases hlt : l < 150
    · have g1 : decide (l < 150) = true := decide_eq_true hlt
      obtain ⟨lb0, lb1⟩ := LB.out l
      have A := hid (fun u => HR.out l u)
      cases hb : onF l true
      · rw [hb] at A
        have NX := hid (LNO.out l hb)
        clear hb
        go_wp2_with fail
        refine (A.out _).mono ?_
        rintro e wc ⟨rfl, k2⟩
        have K2 := hid (KK.out.trans k2)
        clear k2
        go_wp2
        go_roundw
        case rel => exact ⟨l + 1, by omega, by omega, by rw [NX.out], by first | rfl | go_num, K2.out⟩
        case measure => first | omega | (simp; omega) | (simp [intOf]; omega)
      · rw [hb] at A
        have NX := hid (LYE.out l hb)
        have IV := (ONI.out l).1 hb
        rw [show rowsI true = 16 from rfl] at IV
        have E1 := FT.out l hb
        have E2 := FO.out l hb
        have E3 := RIN.out l hb
        have D := hid (fun u => HB.out (bk l true) u)
        rw [E1.1, E1.2, E2, BL l] at D
        clear hb E1 E2
        generalize tilF l true = tv at *
        generalize rowF l true = rv at *
        generalize lin l = lv at *
        have v1 : decide (rv < 0) = false := decide_eq_false (by omega)
        have v2 : decide (7 < rv) = false := decide_eq_false (by omega)
        have v3 : decide (l < (Y : Int) - 16) = false := decide_eq_false (by omega)
        have v4 : decide ((Y : Int) - 16 + 16 ≤ l) = false := decide_eq_false (by omega)
        have z1 : IntKind.i64.wrap (Y : Int) = (Y : Int) := by rw [IntKind.wrap_i64]; omega
        have z2 : IntKind.i64.wrap (2 * (Y : Int)) = 2 * (Y : Int) := by rw [IntKind.wrap_i64]; omega
        have z3 : IntKind.i64.wrap (2 * (Y : Int) - 32) = 2 * (Y : Int) - 32 := by rw [IntKind.wrap_i64]; omega
        have z4 : IntKind.i64.wrap (2 * (Y : Int) - 32 + 16) = 2 * (Y : Int) - 32 + 16 := by rw [IntKind.wrap_i64]; omega
        have z5 : IntKind.i64.wrap (2 * (Y : Int) - 32 + 16 - 1) = 2 * (Y : Int) - 32 + 16 - 1 := by rw [IntKind.wrap_i64]; omega
        have z6 : IntKind.i64.wrap (2 * (Y : Int) - 32 + 16 - 1 - l) = 2 * (Y : Int) - 32 + 16 - 1 - l := by rw [IntKind.wrap_i64]; omega
        have z7 : IntKind.i64.wrap ((Y : Int) - 16) = (Y : Int) - 16 := by rw [IntKind.wrap_i64]; omega
        have z8 : IntKind.i64.wrap ((Y : Int) - 16 + 16) = (Y : Int) - 16 + 16 := by rw [IntKind.wrap_i64]; omega
        have z9 : IntKind.i64.wrap (lv + 1) = lv + 1 := by rw [IntKind.wrap_i64]; omega
        go_wp2_with fail
        refine (A.out _).mono ?_
        rintro e wc ⟨rfl, k2⟩
        have K2 := hid (KK.out.trans k2)
        have BC := hid (blk_kept k2 BR.out)
        clear k2 c0 c1 c2 c3 c4 lG
        have d0 := blk_cell BC.out 0
        have d1 := blk_cell BC.out 1
        have d2 := blk_cell BC.out 2
        have d3 := blk_cell BC.out 3
        have d4 := blk_cell BC.out 4
        simp only [List.getElem?_cons_zero, List.getElem?_cons_succ] at d0 d1 d2 d3 d4
        have lC := blk_lt BC.out
        go_wp2_with fail
        refine (D.out _).mono ?_
        rintro e wd ⟨rfl, k3⟩
        have K3 := hid ((K2.out.alloc _).trans k3)
        have BD := hid (blk_kept k3 (blk_past BC.out _))
        clear k3 d0 d1 d2 d3 d4 lC
        have f0 := blk_cell BD.out 0
        have f1 := blk_cell BD.out 1
        have f2 := blk_cell BD.out 2
        have f3 := blk_cell BD.out 3
        have f4 := blk_cell BD.out 4
        simp only [List.getElem?_cons_zero, List.getElem?_cons_succ] at f0 f1 f2 f3 f4
        have lD := blk_lt BD.out
        go_wp2
        go_roundw
        case rel => exact ⟨l + 1, by omega, by omega, by rw [NX.out], by first | rfl | go_num, K3.out⟩
        case measure => first | omega | (simp; omega) | (simp [intOf]; omega)
    · have le : l = 150 := by omega
      subst le
      rw [LE.out, show rowsI true = 16 from rfl]
      clear c0 c1 c2 c3 c4 lG BR
      go_wp2_with fail
      go_loopw [16, 17] (fun nv iv wr => ∃ x : Int, -3 ≤ x ∧ x ≤ 170 ∧ nv = .int .i64 (sn x) ∧ iv = .int .i64 x ∧ Kept wb wr) (fun _ iv _ => (170 - intOf iv).toNat)
      case atStart => exact ⟨-3, by omega, by omega, by rw [S0.out], rfl, KK.out⟩
      case round =>
        clear KK
        obtain ⟨x, l0, l1, rfl, rfl, hk⟩ := hrel
        have KK := hid hk
        have BR := blk_kept hk BW.out
        have rl : IntKind.i64.wrap (x + 1) = x + 1 := by rw [IntKind.wrap_i64]; omega
        have c0 := blk_cell BR 0
        have c1 := blk_cell BR 1
        have c2 := blk_cell BR 2
        have c3 := blk_cell BR 3
        have c4 := blk_cell BR 4
        simp only [List.getElem?_cons_zero, List.getElem?_cons_succ] at c0 c1 c2 c3 c4
        have lG := blk_lt BR
        have BR := hid BR
        clear hk
        have z1 : IntKind.i64.wrap (X : Int) = (X : Int) := by rw [IntKind.wrap_i64]; omega
        have z2 : IntKind.i64.wrap ((X : Int) - 8) = (X : Int) - 8 := by rw [IntKind.wrap_i64]; omega
        by_cases hlt : x < 170
        · have g1 : decide (x < 170) = true := decide_eq_true hlt
          have A := hid (fun u => HC.out x u)
          cases hb : colF x
          · rw [hb] at A
            have NX := hid (SNO.out x hb)
            have IV : ¬ ((X : Int) - 8 ≤ x ∧ x < (X : Int)) := fun q => by rw [(COI.out x).2 q] at hb; cases hb
            clear hb
            generalize colV x = cv at *
            generalize sn x = sv at *
            by_cases c8 : (X : Int) - 8 ≤ x
            · have v1 : decide ((X : Int) - 8 ≤ x) = true := decide_eq_true c8
              have v2 : decide (x < (X : Int)) = false := decide_eq_false (by omega)
              go_wp2_with fail
              refine (A.out _).mono ?_
              rintro e wc ⟨rfl, k2⟩
              have K2 := hid (KK.out.trans k2)
              have BC := hid (blk_kept k2 BR.out)
              clear k2 c0 c1 c2 c3 c4 lG
              have d0 := blk_cell BC.out 0
              have d1 := blk_cell BC.out 1
              have d2 := blk_cell BC.out 2
              have d3 := blk_cell BC.out 3
              have d4 := blk_cell BC.out 4
              simp only [List.getElem?_cons_zero, List.getElem?_cons_succ] at d0 d1 d2 d3 d4
              go_wp2
              go_roundw
              case rel => exact ⟨x + 1, by omega, by omega, by rw [NX.out], by first | rfl | go_num, K2.out⟩
              case measure => first | omega | (simp; omega) | (simp [intOf]; omega)
            · have v1 : decide ((X : Int) - 8 ≤ x) = false := decide_eq_false c8
              go_wp2_with fail
              refine (A.out _).mono ?_
              rintro e wc ⟨rfl, k2⟩
              have K2 := hid (KK.out.trans k2)
              have BC := hid (blk_kept k2 BR.out)
              clear k2 c0 c1 c2 c3 c4 lG
              have d0 := blk_cell BC.out 0
              have d1 := blk_cell BC.out 1
              have d2 := blk_cell BC.out 2
              have d3 := blk_cell BC.out 3
              have d4 := blk_cell BC.out 4
              simp only [List.getElem?_cons_zero, List.getElem?_cons_succ] at d0 d1 d2 d3 d4
              go_wp2
              go_roundw
              case rel => exact ⟨x + 1, by omega, by omega, by rw [NX.out], by first | rfl | go_num, K2.out⟩
              case measure => first | omega | (simp; omega) | (simp [intOf]; omega)
          · rw [hb] at A
            obtain ⟨p, a1, a2, a3, a4, a5, a6, a7⟩ := SYE.out x hb
            have IV := (COI.out x).1 hb
            obtain ⟨s1, s2, s3, s4⟩ := sh_all16 _ _ a2 a3 a4
            have NX := hid a5
            clear hb
            obtain ⟨s5, s6⟩ := wr_one a3 a4
            generalize colV x = cv at *
            generalize sn x = sv at *
            have v1 : decide ((X : Int) - 8 ≤ x) = true := decide_eq_true IV.1
            have v2 : decide (x < (X : Int)) = true := decide_eq_true IV.2
            have v3 : cv < 64 := by omega
            go_wp2_with fail
            refine (A.out _).mono ?_
            rintro e wc ⟨rfl, k2⟩
            have K2 := hid (KK.out.trans k2)
            have BC := hid (blk_kept k2 BR.out)
            clear k2 c0 c1 c2 c3 c4 lG
            have d0 := blk_cell BC.out 0
            have d1 := blk_cell BC.out 1
            have d2 := blk_cell BC.out 2
            have d3 := blk_cell BC.out 3
            have d4 := blk_cell BC.out 4
            simp only [List.getElem?_cons_zero, List.getElem?_cons_succ] at d0 d1 d2 d3 d4
            go_wp2
            go_roundw
            case rel => exact ⟨x + 1, by omega, by omega, by first | rfl | (rw [NX.out]), by first | rfl | go_num, K2.out⟩
            case measure => first | omega | (simp; omega) | (simp [intOf]; omega)
        · have le : x = 170 := by omega
          subst le
          rw [SE.out]
          clear c0 c1 c2 c3 c4 lG BR
          go_wp2
          go_ret
          exact ⟨rfl, KW.out.trans KK.out⟩
end Go.Proofs.Ytaknbjignaefkab
