/- The objects that a line shows, with their rows' bytes; which of them is seen at a place. -/
import Derived.Test.YtecgpdjgbdobbabPs18b
import Derived.Test.YtecgpdjgbdobbabSl18
import Derived.Test.YtecgpdjgbdobbabSc16b
import Derived.Test.YtecgpdjgbdobbabOr16
import Derived.Test.YtecgpdjgbdobbabRod16
namespace Go.Proofs.Ytecgpdjgbdobbab
open Go.RowKit
set_option linter.unusedVariables false
set_option linter.unusedSimpArgs false

def spG (v : Vd) (y : Int) (o : Ob) : Sp := (o, oloP v o y, ohiP v o y)
theorem scan_ten (z : List Int) (l : Int) (t : Bool) : (scanL z l t).length ≤ 10 := by unfold scanL; rw [List.length_take]; omega
theorem ownS_form {w : World} {base : Nat} {v : Value} {L : List Sp} (o : OwnS w base v L) : ∃ a cap, v = .slice a L.length cap ∧ OwnS w base (.slice a L.length cap) L := by
  obtain ⟨a, cap, e, _⟩ := own_slS o
  exact ⟨a, cap, e, by rw [← e]; exact o⟩
set_option maxRecDepth 100000 in
set_option maxHeartbeats 4000000 in
theorem pstrips18 (v : Vd) (y : Int) (w : World) (hv : VdIn w v) (y0 : 0 ≤ y) (y1 : y ≤ 255) :
    Calls Try.prog 20 #[vdV v, .int .u8 y] w fun e w' => (∃ a cap, e = .returned (.slice a (objsP v y).length cap) ∧ Newer w.heap.size a ∧ SlS w' a cap ((objsP v y).map (spG v y))) ∧ Kept w w' := by
  have B1 := hid (fun u => bit_any v.ctl 1 u hv.c0 hv.c1)
  have B2 := hid (fun u => bit_any v.ctl 2 u hv.c0 hv.c1)
  unfold objsP
  cases q1 : bitOf v.ctl 1
  · rw [q1] at B1
    clear q1 B2 hv
    simp only [Bool.false_eq_true, if_false, List.map_nil, List.length_nil]
    obtain ⟨ctl, scy, scx, wy, wx, bgp, o0, o1, va, vc, vz, oa, oc, oz⟩ := v
    simp only [vdV] at *
    obtain ⟨vn, hvn⟩ : ∃ n, vz.length = n := ⟨_, rfl⟩
    obtain ⟨on, hon⟩ : ∃ n, oz.length = n := ⟨_, rfl⟩
    rw [hvn, hon]
    clear hvn hon
    go_enter Try.func20, Try.ntmps20
    go_wp2_with fail
    refine (B1.out _).mono ?_
    rintro e u ⟨rfl, rfl⟩
    go_wp2
    go_ret
    exact ⟨⟨none, 0, rfl, (fun x hx => by cases hx), slS_nil _⟩, (Kept.refl w).alloc _⟩
  · rw [q1] at B1
    simp only [if_true]
    obtain ⟨t, ht⟩ : ∃ t, bitOf v.ctl 2 = t := ⟨_, rfl⟩
    rw [ht] at B2 ⊢
    have SC := hid (fun u k => pscan16 v.oa v.oc v.oz y t u (sl_kept k hv.os) hv.ol)
    have ST := scan_ten v.oz y t
    generalize scanL v.oz y t = L at *
    have OR := hid (fun x cx u p => porder16 x cx L u p (by omega))
    have e1 : IntKind.i64.wrap y = y := by rw [IntKind.wrap_i64]; omega
    obtain ⟨vn, hvn⟩ : ∃ n, v.vz.length = n := ⟨_, rfl⟩
    obtain ⟨on, hon⟩ : ∃ n, v.oz.length = n := ⟨_, rfl⟩
    rw [hon] at SC
    have E1 := hvn
    have E2 := hon
    obtain ⟨ln, hln⟩ : ∃ n, L.length = n := ⟨_, rfl⟩
    rw [hln] at SC OR
    have AW : Hid (Blk (w.alloc (.cells (vdC v).toArray 24)) w.heap.size 24 (vdC v)) := blk_new w _ _
    simp only [vdV, vdC, hvn, hon] at AW ⊢
    clear hvn hon q1
    go_enter Try.func20, Try.ntmps20
    go_wp2_with fail
    refine (B1.out _).mono ?_
    rintro e u1 ⟨rfl, rfl⟩
    go_wp2_with fail
    refine (B2.out _).mono ?_
    rintro e u2 ⟨rfl, rfl⟩
    go_wp2_with fail
    refine (SC.out _ ((Kept.refl w).alloc _)).mono ?_
    rintro e u3 ⟨⟨a3, c3, rfl, s3⟩, k3⟩
    have K3 := hid (((Kept.refl w).alloc _).trans k3)
    have B3 := hid (blk_kept k3 AW.out)
    have S3 := hid s3
    clear k3 s3 AW
    go_wp2_with fail
    refine (OR.out _ _ _ S3.out).mono ?_
    rintro e u4 ⟨⟨M, t4, l4, a4, c4, rfl, s4⟩, k4⟩
    have MO := hid (ord_eq t4)
    have KU := hid (K3.out.trans k4)
    have BW := hid (blk_kept k4 B3.out)
    have FG := hid (fun q => slO_at s4 q)
    obtain ⟨n, hn⟩ : ∃ n, M.length = n := ⟨_, rfl⟩
    have HN := hid hn
    have n10 : n ≤ 10 := by omega
    rw [hn] at FG ⊢
    clear k4 s4 t4 S3 K3 B3 B1 B2 SC OR l4 ST hln hn
    go_wp2_with fail
    go_loopw [7, 31] (fun s7 s8 wr => ∃ (j m : Nat) (av : Option Addr) (cp : Nat), j ≤ n ∧ s7 = .slice av m cp ∧ s8 = .int .i64 (j : Int) ∧ Hid (((M.take j).map (spG v y)).length = m) ∧ OwnS wr u4.heap.size (.slice av m cp) ((M.take j).map (spG v y)) ∧ Kept u4 wr) (fun _ s8 _ => n - (intOf s8).toNat)
    case atStart => exact ⟨0, 0, none, 0, Nat.zero_le _, rfl, rfl, rfl, ownS_nil u4 _, Kept.refl u4⟩
    case round =>
      obtain ⟨j, m, av, cp, hj, rfl, rfl, HL, ho9, hk⟩ := hrel
      have KK := hid hk
      have OO := hid ho9
      clear ho9
      by_cases hlt : j < n
      · have g1 : decide ((j : Int) < (n : Int)) = true := decide_eq_true (by omega)
        have g3 : (j : Int) < (n : Int) := by omega
        obtain ⟨xx, rfl, hx, hc⟩ := FG.out (by omega)
        have O := oat_kept hk (by rw [addFB]; exact hx) (hc j hlt)
        obtain ⟨o, ho⟩ : ∃ o, M.getD j default = o := ⟨_, rfl⟩
        rw [ho] at O
        have NX := hid (show (M.take (j + 1)).map (spG v y) = (M.take j).map (spG v y) ++ [spG v y o] by rw [take_one (by rw [HN.out]; exact hlt), List.map_append, ho]; rfl)
        have RO := hid (fun u => prow16 o y t u)
        have tb := row_bd o y t
        have RP : Hid (∀ u, Kept w u → _) := fun u k => prow18 v (tileR o y t) (rowR o y t) false u (vdIn_kept k hv) tb.1 tb.2
        have l1 : oloP v o y = atP v.vz (placeP (tileR o y t) false (rowR o y t)) := by unfold oloP; rw [ht]
        have l2 : ohiP v o y = atP v.vz (placeP (tileR o y t) false (rowR o y t) + 1) := by unfold ohiP; rw [ht]
        have SG := hid (show spG v y o = (o, atP v.vz (placeP (tileR o y t) false (rowR o y t)), atP v.vz (placeP (tileR o y t) false (rowR o y t) + 1)) by rw [← l1, ← l2]; rfl)
        generalize atP v.vz (placeP (tileR o y t) false (rowR o y t)) = lo at *
        generalize atP v.vz (placeP (tileR o y t) false (rowR o y t) + 1) = hi at *
        generalize tileR o y t = tr at *
        generalize rowR o y t = rr at *
        generalize onP o y t = oo at *
        rw [SG.out] at NX
        have BV := hid (blk_kept hk BW.out)
        have KW := hid (KU.out.trans hk)
        clear SG l1 l2 ho hc
        obtain ⟨⟨oy, ly⟩, ⟨ox, lx⟩, ⟨ot, lt⟩, ⟨oatt, la⟩, ⟨onn, ln⟩⟩ := o
        obtain ⟨d0, d1, d2, d3, d4⟩ := O
        simp only [b8] at d0 d1 d2 d3 d4
        simp only [obV, b8] at RO
        simp only [vdV, E1, E2] at RP
        go_wp2_with fail
        refine (RO.out _).mono ?_
        rintro e u5 ⟨rfl, k5⟩
        have K5 := hid ((KK.out.alloc (.cells #[.int .u8 (oy : Int), .int .u8 (ox : Int), .int .u8 (ot : Int), .int .u8 (oatt : Int), .int .u8 (onn : Int)] 52)).trans k5)
        have A5 := hid (((Kept.refl wr).alloc (.cells #[.int .u8 (oy : Int), .int .u8 (ox : Int), .int .u8 (ot : Int), .int .u8 (oatt : Int), .int .u8 (onn : Int)] 52)).trans k5)
        have O5 := hid (owns_kept A5.out OO.out)
        have B5 := hid (blk_kept A5.out BV.out)
        have X5 := hid (blk_kept k5 (blk_new wr [.int .u8 (oy : Int), .int .u8 (ox : Int), .int .u8 (ot : Int), .int .u8 (oatt : Int), .int .u8 (onn : Int)] 52))
        obtain ⟨f0, f1, f2, f3, f4, f5, f6, f7, f8, f9⟩ := ten18 B5.out
        clear k5 d0 d1 d2 d3 d4
        go_wp2_with fail
        refine (RP.out _ (KW.out.trans A5.out)).mono ?_
        rintro e u6 ⟨rfl, k6⟩
        have K6 := hid (K5.out.trans k6)
        have O6 := hid (owns_kept k6 O5.out)
        have X6 := blk_kept k6 X5.out
        have h0 : u6.cell? ⟨wr.heap.size, 0, none⟩ = some (.int .u8 (oy : Int)) := blk_cell X6 0
        have h1 : u6.cell? ⟨wr.heap.size, 1, none⟩ = some (.int .u8 (ox : Int)) := blk_cell X6 1
        have h2 : u6.cell? ⟨wr.heap.size, 2, none⟩ = some (.int .u8 (ot : Int)) := blk_cell X6 2
        have h3 : u6.cell? ⟨wr.heap.size, 3, none⟩ = some (.int .u8 (oatt : Int)) := blk_cell X6 3
        have h4 : u6.cell? ⟨wr.heap.size, 4, none⟩ = some (.int .u8 (onn : Int)) := blk_cell X6 4
        clear k6 f0 f1 f2 f3 f4 f5 f6 f7 f8 f9 X5 O5 K5 A5 B5
        have LJ : ((M.take j).map (spG v y)).length = j := by rw [List.length_map, List.length_take, HN.out]; omega
        obtain ⟨PL, hPL⟩ : ∃ l, (M.take j).map (spG v y) = l := ⟨_, rfl⟩
        rw [hPL] at NX O6 LJ
        have lb : PL.length ≤ 10 := by omega
        clear hPL OO HL LJ
        have LE : Hid ((PL ++ [(⟨⟨⟨oy, ly⟩, ⟨ox, lx⟩, ⟨ot, lt⟩, ⟨oatt, la⟩, ⟨onn, ln⟩⟩, lo, hi⟩ : Sp)]).length = PL.length + 1) := by show _ = _; simp
        have hb2 : ∀ q, u4.heap.size ≤ (u6.alloc q).heap.size := fun q => by rw [World.size_alloc]; have := K6.out.size; omega
        go_wp2_with (at_builtin; (refine wl_appendS (L := PL) (owns_kept ((Kept.refl _).alloc _) O6.out) (one_slS u6 (⟨⟨⟨oy, ly⟩, ⟨ox, lx⟩, ⟨ot, lt⟩, ⟨oatt, la⟩, ⟨onn, ln⟩⟩, lo, hi⟩ : Sp)) rfl rfl rfl rfl rfl (hb2 _) (by simp only [List.length_cons, List.length_nil]; omega) (fun v' u7 o7 g7 => ?_); obtain ⟨a7, c7, e7, o8⟩ := ownS_form o7; subst e7; have K7 := hid ((K6.out.alloc _).by g7 (fun q hq => (O6.out.lt q hq).1)); have O7 := hid o8; clear g7 o7 o8))
        go_roundw
        case rel => exact ⟨j + 1, _, a7, c7, by omega, rfl, by go_num, (show _ = _ by rw [NX.out]; simp), by rw [NX.out, ← LE.out]; exact O7.out, K7.out⟩
        case measure => first | omega | (simp; omega) | (simp [intOf]; omega)
      · have je : j = n := by omega
        subst je
        have g1 : decide ((j : Int) < (j : Int)) = false := decide_eq_false (by omega)
        have g3 : ¬ (j : Int) < (j : Int) := by omega
        have OM := OO.out
        have TK : M.take j = M := List.take_of_length_le (by rw [HN.out]; omega)
        rw [TK] at OM HL
        have h9 := HL.out
        rw [List.length_map, HN.out] at h9
        subst h9
        obtain ⟨a9, c9, e9, s9, w9⟩ := own_slS OM
        have W9 := hid w9
        have S9 := hid s9
        rw [List.length_map, HN.out] at e9
        cases e9
        clear s9 OM OO w9
        go_wp2_with fail
        go_ret
        refine ⟨⟨av, cp, ?_, (fun x hx => Nat.le_trans KU.out.size (W9.out x hx)), ?_⟩, KU.out.trans KK.out⟩
        · rw [MO.out, HN.out]; rfl
        · rw [MO.out]; exact S9.out
end Go.Proofs.Ytecgpdjgbdobbab
