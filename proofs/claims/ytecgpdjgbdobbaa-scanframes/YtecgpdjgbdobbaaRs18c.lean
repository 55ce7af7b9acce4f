/- The document's line. -/
import Derived.Test.YtecgpdjgbdobbaaRs18b
import Derived.Test.YtecgpdjgbdobbaaSc16b
import Derived.Test.YtecgpdjgbdobbaaRod16
namespace Go.Proofs.Ytecgpdjgbdobbaa
open Go.RowKit
set_option linter.unusedVariables false
set_option linter.unusedSimpArgs false

theorem sl_one18 (w : World) (d : Int) (hd : InByte d) : Sl (w.alloc (.cells #[.int .u8 d] 5)) (some ⟨w.heap.size, 0, none⟩) 1 [d] := by
  refine ⟨⟨by simp [maxLen], fun x hx => by rw [List.mem_singleton.1 hx]; exact hd, .inr ⟨_, rfl, by simp, fun i hi => ?_⟩⟩, by simp, by simp [maxLen], fun e => by cases e⟩
  obtain rfl : i = 0 := by simp at hi; omega
  rw [ownB_add, blk_cell (blk_new w [.int .u8 d] 5)]
  rfl
theorem own_nil18 (w : World) (base : Nat) : w.ownsRow base 5 1 (.slice none 0 0) ([] : List Int).length (([] : List Int).map (Value.int .u8)) := ⟨rfl, .inl ⟨rfl, rfl⟩⟩
theorem own_form18 {w : World} {base : Nat} {v : Value} {L : List Int} (o : w.ownsRow base 5 1 v (L).length ((L).map (Value.int .u8))) (hb : ∀ x ∈ L, InByte x) : ∃ a cap, v = .slice a L.length cap ∧ w.ownsRow base 5 1 (.slice a L.length cap) (L).length ((L).map (Value.int .u8)) := by
  obtain ⟨a, cap, e, _⟩ := own_sl o hb
  exact ⟨a, cap, e, by rw [← e]; exact o⟩
theorem line_next (v : Vd) (y win : Int) {j : Nat} (h : j < 160) : (lineP v y win).take (j + 1) = (lineP v y win).take j ++ [dotL v y win j] := by
  rw [List.take_add_one]
  unfold lineP
  simp [h]
set_option maxRecDepth 100000 in
set_option maxHeartbeats 4000000 in
theorem rline18 (v : Vd) (y win : Int) (w : World) (hv : VdIn w v) (y0 : 0 ≤ y) (y1 : y ≤ 255) (w0 : 0 ≤ win) (w1 : win ≤ 255) :
    Calls Try.prog 13 #[vdV v, .int .u8 y, .int .u8 win] w fun e w' => (∃ a cap, e = .returned (.tuple #[.slice a 160 cap, .int .u8 (nxP v y win)]) ∧ Newer w.heap.size a ∧ Sl w' a cap (lineP v y win)) ∧ Kept w w' := by
  have C1 := hid (fun u k => rctl18 v 1 u (vdIn_kept k hv))
  have C2 := hid (fun u k => rctl18 v 2 u (vdIn_kept k hv))
  have WI := hid (fun u k => rwin18 v y u (vdIn_kept k hv) y0 y1)
  obtain ⟨t, ht⟩ : ∃ t, bitOf v.ctl 2 = t := ⟨_, rfl⟩
  have HT := hid ht
  rw [ht] at C2
  have SC := hid (fun u k => rscan16 v.oa v.oc v.oz y t u (sl_kept k hv.os))
  obtain ⟨L, hL⟩ : ∃ L, scanL v.oz y t = L := ⟨_, rfl⟩
  have HL := hid hL
  have l10 : L.length ≤ 10 := by rw [← hL]; unfold scanL; rw [List.length_take]; omega
  have OR := hid (fun x cx u p => rorder16 x cx L u p (by omega))
  rw [hL] at SC
  obtain ⟨ln, hln⟩ : ∃ n, L.length = n := ⟨_, rfl⟩
  rw [hln] at SC OR
  have e6 : IntKind.i64.wrap y = y := by rw [IntKind.wrap_i64]; omega
  have e7 : IntKind.i64.wrap win = win := by rw [IntKind.wrap_i64]; omega
  have e8 : IntKind.i64.wrap (win + 1) = win + 1 := by rw [IntKind.wrap_i64]; omega
  have m1 : Int.tmod (win + 1) 256 = (win + 1) % 256 := Int.tmod_eq_emod_of_nonneg (by omega)
  have e9 : IntKind.i64.wrap ((win + 1) % 256) = (win + 1) % 256 := by rw [IntKind.wrap_i64]; omega
  have e10 : IntKind.u8.wrap ((win + 1) % 256) = (win + 1) % 256 := by rw [IntKind.wrap_u8]; omega
  clear hL ht
  obtain ⟨vn, hvn⟩ : ∃ n, v.vz.length = n := ⟨_, rfl⟩
  obtain ⟨on, hon⟩ : ∃ n, v.oz.length = n := ⟨_, rfl⟩
  have VV : vdV v = .agg #[.int .u8 v.ctl, .int .u8 v.scy, .int .u8 v.scx, .int .u8 v.wy, .int .u8 v.wx, .int .u8 v.bgp, .int .u8 v.o0, .int .u8 v.o1, .slice v.va vn v.vc, .slice v.oa on v.oc] := by unfold vdV; rw [hvn, hon]
  rw [show v.oz.length = on from hon] at SC
  rw [VV] at C1 C2 WI ⊢
  clear hvn hon
  have K1 : Hid (Kept w (w.alloc (.cells #[.int .u8 v.ctl, .int .u8 v.scy, .int .u8 v.scx, .int .u8 v.wy, .int .u8 v.wx, .int .u8 v.bgp, .int .u8 v.o0, .int .u8 v.o1, .slice v.va vn v.vc, .slice v.oa on v.oc] 24))) := (Kept.refl w).alloc _
  have B1 : Hid (Blk (w.alloc (.cells #[.int .u8 v.ctl, .int .u8 v.scy, .int .u8 v.scx, .int .u8 v.wy, .int .u8 v.wx, .int .u8 v.bgp, .int .u8 v.o0, .int .u8 v.o1, .slice v.va vn v.vc, .slice v.oa on v.oc] 24)) w.heap.size 24 [.int .u8 v.ctl, .int .u8 v.scy, .int .u8 v.scx, .int .u8 v.wy, .int .u8 v.wx, .int .u8 v.bgp, .int .u8 v.o0, .int .u8 v.o1, .slice v.va vn v.vc, .slice v.oa on v.oc]) := blk_new w _ _
  cases q1 : bitOf v.ctl 1
  · have H1 := hid q1
    rw [q1] at C1
    clear q1
    go_enter Try.func13, Try.ntmps13
    obtain ⟨d0, d1, d2, d3, d4, d5, d6, d7, d8, d9⟩ := ten18 B1.out
    go_wp2_with fail
    refine (C1.out _ K1.out).mono ?_
    rintro e u4 ⟨rfl, k1⟩
    have K2 := hid (K1.out.trans k1)
    have B2 := hid (blk_kept k1 B1.out)
    clear k1 K1 B1 d0 d1 d2 d3 d4 d5 d6 d7 d8 d9
    have KU := K2
    have BU := B2
    have DT : Hid (∀ (x : Nat) (hx : x < 160) u, Kept u4 u → _) := fun x hx u k => rdot18 v [] none 0 x y win u (vdIn_kept (KU.out.trans k) hv) (slO_nil u) (Nat.zero_le _) hx y0 y1 w0 w1
    have DE : ∀ x : Nat, dotP v [] (x : Int) y win = dotL v y win x := fun x => by unfold dotL objsP; rw [H1.out, if_neg (by simp)]
    simp only [DE, VV, List.length_nil] at DT
    clear DE K2 B2
    go_wp2_with fail
    go_loopw [9, 10] (fun s9 s10 wr => ∃ (j m : Nat) (av : Option Addr) (cp : Nat), j ≤ 160 ∧ s9 = .slice av m cp ∧ s10 = .int .i64 (j : Int) ∧ Hid (((lineP v y win).take j).length = m) ∧ Hid (wr.ownsRow u4.heap.size 5 1 (.slice av m cp) ((lineP v y win).take j).length (((lineP v y win).take j).map (Value.int .u8))) ∧ Kept u4 wr) (fun _ s10 _ => 160 - (intOf s10).toNat)
    case atStart => exact ⟨0, 0, none, 0, Nat.zero_le _, rfl, rfl, rfl, own_nil18 _ _, Kept.refl _⟩
    case round =>
      obtain ⟨j, m, av, cp, hj, rfl, rfl, HL, OO, hk⟩ := hrel
      have KK := hid hk
      have KW := hid (KU.out.trans hk)
      have BX := hid (blk_kept hk BU.out)
      obtain ⟨d0, d1, d2, d3, d4, d5, d6, d7, d8, d9⟩ := ten18 BX.out
      by_cases hlt : j < 160
      · have g1 : decide ((j : Int) < 160) = true := decide_eq_true (by omega)
        have g3 : (j : Int) < 160 := by omega
        have e1 : IntKind.i64.wrap ((j : Int) + 1) = (j : Int) + 1 := by rw [IntKind.wrap_i64]; omega
        have DJ := hid (DT.out j hlt wr hk)
        have NX := hid (line_next v y win hlt)
        have db : InByte (dotL v y win j) := by have q := dot_bd v (objsP v y) (j : Int) y win; exact ⟨q.1, by show dotP _ _ _ _ _ ≤ 255; omega⟩
        have LN : ((lineP v y win).take j).length = j := by rw [List.length_take, line_len]; omega
        obtain ⟨PL, hPL⟩ : ∃ l, (lineP v y win).take j = l := ⟨_, rfl⟩
        have PB : Hid (∀ x ∈ PL ++ [dotL v y win j], InByte x) := by rw [← hPL, ← NX.out]; exact fun x hx => line_in v y win x (List.mem_of_mem_take hx)
        rw [hPL] at NX OO LN HL
        have lb : PL.length ≤ 160 := by omega
        have hm := HL.out
        subst hm
        generalize dotL v y win j = d at *
        clear hPL LN HL hk
        go_wp2_with fail
        refine DJ.out.mono ?_
        rintro e q1 ⟨rfl, k1⟩
        have K6 := hid (KK.out.trans k1)
        have O6 := hid (owns_kept k1 OO.out)
        clear k1 OO KK d0 d1 d2 d3 d4 d5 d6 d7 d8 d9
        have LE : Hid ((PL ++ [d]).length = PL.length + 1) := by show _ = _; simp
        have hb2 : ∀ q, u4.heap.size ≤ (q1.alloc q).heap.size := fun q => by rw [World.size_alloc]; have := K6.out.size; omega
        go_wp2_with (at_builtin; (refine wl_append (L := PL) (owns_kept ((Kept.refl _).alloc _) O6.out) (sl_one18 q1 d db) rfl rfl rfl rfl rfl (hb2 _) (by simp only [List.length_cons, List.length_nil]; omega) (fun v' u7 o7 g7 => ?_); obtain ⟨a7, c7, e7, o8⟩ := own_form18 o7 PB.out; subst e7; have K7 := hid ((K6.out.alloc _).by g7 (fun q hq => (O6.out.lt q hq).1)); have O7 := hid o8; clear g7 o7 o8))
        go_roundw
        case rel => exact ⟨j + 1, _, a7, c7, by omega, rfl, by go_num, (show _ = _ by rw [NX.out]; simp), (by show World.ownsRow _ _ _ _ _ _ _; rw [NX.out, ← LE.out]; exact O7.out), K7.out⟩
        case measure => first | omega | (simp; omega) | (simp [intOf]; omega)
      · have je : j = 160 := by omega
        subst je
        have g1 : decide (((160 : Nat) : Int) < 160) = false := by decide
        have TK : (lineP v y win).take 160 = lineP v y win := List.take_of_length_le (by rw [line_len]; omega)
        rw [TK] at OO HL
        have h9 := HL.out
        rw [line_len] at h9
        subst h9
        obtain ⟨a9, c9, e9, s9, w9⟩ := own_sl OO.out (line_in v y win)
        rw [line_len] at e9
        cases e9
        have S9 := hid s9
        have W9 : Hid (Newer w.heap.size av) := fun x hx => Nat.le_trans KU.out.size (w9 x hx)
        have WJ := hid (WI.out wr (KU.out.trans hk))
        clear s9 w9 OO HL TK hk
        cases qw : winP v y
        · rw [qw] at WJ
          have NXW := hid (show nxP v y win = win by unfold nxP; rw [qw]; rfl)
          clear qw
          go_wp2_with fail
          refine WJ.out.mono ?_
          rintro e q2 ⟨rfl, k2⟩
          have K8 := hid (KW.out.trans k2)
          have S8 := hid (sl_kept k2 S9.out)
          clear k2 d0 d1 d2 d3 d4 d5 d6 d7 d8 d9
          go_wp2_with fail
          refine bodyPost_ret (results_tmp2 rfl _ _ _) rfl ?_
          exact ⟨⟨av, cp, by rw [NXW.out]; rfl, W9.out, S8.out⟩, K8.out⟩
        · rw [qw] at WJ
          have NXW := hid (show nxP v y win = (win + 1) % 256 by unfold nxP; rw [qw]; rfl)
          clear qw
          go_wp2_with fail
          refine WJ.out.mono ?_
          rintro e q2 ⟨rfl, k2⟩
          have K8 := hid (KW.out.trans k2)
          have S8 := hid (sl_kept k2 S9.out)
          clear k2 d0 d1 d2 d3 d4 d5 d6 d7 d8 d9
          go_wp2_with fail
          refine bodyPost_ret (results_tmp2 rfl _ _ _) rfl ?_
          exact ⟨⟨av, cp, by rw [NXW.out]; rfl, W9.out, S8.out⟩, K8.out⟩
  · have H1 := hid q1
    rw [q1] at C1
    clear q1
    go_enter Try.func13, Try.ntmps13
    obtain ⟨d0, d1, d2, d3, d4, d5, d6, d7, d8, d9⟩ := ten18 B1.out
    go_wp2_with fail
    refine (C1.out _ K1.out).mono ?_
    rintro e u1 ⟨rfl, k1⟩
    have K2 := hid (K1.out.trans k1)
    have B2 := hid (blk_kept k1 B1.out)
    clear k1 K1 B1 d0 d1 d2 d3 d4 d5 d6 d7 d8 d9
    obtain ⟨d0, d1, d2, d3, d4, d5, d6, d7, d8, d9⟩ := ten18 B2.out
    go_wp2_with fail
    clear d0 d1 d2 d3 d4 d5 d6 d7 d8 d9
    obtain ⟨d0, d1, d2, d3, d4, d5, d6, d7, d8, d9⟩ := ten18 B2.out
    refine wp_region_held_drew (S := (fun w' => w'.cell? ⟨w.heap.size, 0, none⟩ = some (.int .u8 v.ctl) ∧ w'.cell? ⟨w.heap.size, 1, none⟩ = some (.int .u8 v.scy) ∧ w'.cell? ⟨w.heap.size, 2, none⟩ = some (.int .u8 v.scx) ∧ w'.cell? ⟨w.heap.size, 3, none⟩ = some (.int .u8 v.wy) ∧ w'.cell? ⟨w.heap.size, 4, none⟩ = some (.int .u8 v.wx) ∧ w'.cell? ⟨w.heap.size, 5, none⟩ = some (.int .u8 v.bgp) ∧ w'.cell? ⟨w.heap.size, 6, none⟩ = some (.int .u8 v.o0) ∧ w'.cell? ⟨w.heap.size, 7, none⟩ = some (.int .u8 v.o1) ∧ w'.cell? ⟨w.heap.size, 8, none⟩ = some (.slice v.va vn v.vc) ∧ w'.cell? ⟨w.heap.size, 9, none⟩ = some (.slice v.oa on v.oc))) (by kernel_rfl) (by go_keep) (fun hHeld => ?_)
    clear d0 d1 d2 d3 d4 d5 d6 d7 d8 d9
    have K3 := hid K2.out.drew
    have B3 := hid (blk_drew B2.out)
    clear K2 B2
    obtain ⟨d0, d1, d2, d3, d4, d5, d6, d7, d8, d9⟩ := ten18 B3.out
    refine wpAnyH_take (i := 0) (v := ?_) rfl (by kernel_rfl) (by kernel_rfl) (by kernel_rfl) (fun _ _ _ h => h) (Or.inl ⟨by rfl, ?_⟩) (by assumption) ?_
    rotate_left
    · intro w hSw
      (try dsimp only at hSw)
      obtain ⟨s0, s1, s2, s3, s4, s5, s6, s7, s8, s9⟩ := hSw
      go_simp
      try with_reducible rfl
    simp only [Act.put, List.getElem_toArray, List.getElem_cons_succ, List.getElem_cons_zero, List.setIfInBounds_toArray, List.set_cons_zero, List.set_cons_succ]
    refine wpAnyH_take (i := 1) (v := ?_) rfl (by kernel_rfl) (by kernel_rfl) (by kernel_rfl) (fun _ _ _ h => h) (Or.inl ⟨by rfl, ?_⟩) (by assumption) ?_
    rotate_left
    · intro w hSw
      (try dsimp only at hSw)
      obtain ⟨s0, s1, s2, s3, s4, s5, s6, s7, s8, s9⟩ := hSw
      go_simp
      try with_reducible rfl
    simp only [Act.put, List.getElem_toArray, List.getElem_cons_succ, List.getElem_cons_zero, List.setIfInBounds_toArray, List.set_cons_zero, List.set_cons_succ]
    refine wpAnyH_take (i := 2) (v := ?_) rfl (by kernel_rfl) (by kernel_rfl) (by kernel_rfl) (fun _ _ _ h => h) (Or.inl ⟨by rfl, ?_⟩) (by assumption) ?_
    rotate_left
    · intro w hSw
      (try dsimp only at hSw)
      obtain ⟨s0, s1, s2, s3, s4, s5, s6, s7, s8, s9⟩ := hSw
      go_simp
      try with_reducible rfl
    simp only [Act.put, List.getElem_toArray, List.getElem_cons_succ, List.getElem_cons_zero, List.setIfInBounds_toArray, List.set_cons_zero, List.set_cons_succ]
    refine wpAnyH_take (i := 3) (v := ?_) rfl (by kernel_rfl) (by kernel_rfl) (by kernel_rfl) (fun _ _ _ h => h) (Or.inl ⟨by rfl, ?_⟩) (by assumption) ?_
    rotate_left
    · intro w hSw
      (try dsimp only at hSw)
      obtain ⟨s0, s1, s2, s3, s4, s5, s6, s7, s8, s9⟩ := hSw
      go_simp
      try with_reducible rfl
    simp only [Act.put, List.getElem_toArray, List.getElem_cons_succ, List.getElem_cons_zero, List.setIfInBounds_toArray, List.set_cons_zero, List.set_cons_succ]
    refine wpAnyH_take (i := 4) (v := ?_) rfl (by kernel_rfl) (by kernel_rfl) (by kernel_rfl) (fun _ _ _ h => h) (Or.inl ⟨by rfl, ?_⟩) (by assumption) ?_
    rotate_left
    · intro w hSw
      (try dsimp only at hSw)
      obtain ⟨s0, s1, s2, s3, s4, s5, s6, s7, s8, s9⟩ := hSw
      go_simp
      try with_reducible rfl
    simp only [Act.put, List.getElem_toArray, List.getElem_cons_succ, List.getElem_cons_zero, List.setIfInBounds_toArray, List.set_cons_zero, List.set_cons_succ]
    refine wpAnyH_ready (rs := [5]) (by kernel_rfl) (by simp) ?_
    refine AllReadyH.cons rfl (fun K hK => ?_) AllReadyH.nil
    go_simp
    refine (C2.out _ K3.out).mono ?_
    rintro e u2 ⟨rfl, k1⟩
    have K4 := hid (K3.out.trans k1)
    have B4 := hid (blk_kept k1 B3.out)
    clear k1 K3 B3 d0 d1 d2 d3 d4 d5 d6 d7 d8 d9
    obtain ⟨d0, d1, d2, d3, d4, d5, d6, d7, d8, d9⟩ := ten18 B4.out
    refine hK.out _ _ (by go_keep) (fun hHeld => ?_)
    clear hK K
    try simp only [Act.put, List.getElem_toArray, List.getElem_cons_succ, List.getElem_cons_zero, List.setIfInBounds_toArray, List.set_cons_zero, List.set_cons_succ]
    refine wpAnyH_ready (rs := [6]) (by kernel_rfl) (by simp) ?_
    refine AllReadyH.cons rfl (fun K hK => ?_) AllReadyH.nil
    go_simp
    refine (SC.out _ K4.out).mono ?_
    rintro e u3 ⟨⟨a3, c3, rfl, s3⟩, k3⟩
    have K5 := hid (K4.out.trans k3)
    have B5 := hid (blk_kept k3 B4.out)
    have S3 := hid s3
    clear k3 s3 K4 B4 d0 d1 d2 d3 d4 d5 d6 d7 d8 d9
    obtain ⟨d0, d1, d2, d3, d4, d5, d6, d7, d8, d9⟩ := ten18 B5.out
    refine hK.out _ _ (by go_keep) (fun hHeld => ?_)
    clear hK K
    try simp only [Act.put, List.getElem_toArray, List.getElem_cons_succ, List.getElem_cons_zero, List.setIfInBounds_toArray, List.set_cons_zero, List.set_cons_succ]
    refine wpAnyH_ready (rs := [7]) (by kernel_rfl) (by simp) ?_
    refine AllReadyH.cons rfl (fun K hK => ?_) AllReadyH.nil
    go_simp
    refine (OR.out _ _ _ S3.out).mono ?_
    rintro e u4 ⟨⟨M, t4, l4, a4, c4, rfl, s4⟩, k4⟩
    have KU := hid (K5.out.trans k4)
    have BU := hid (blk_kept k4 B5.out)
    have MO := ord_eq t4
    have M10 : M.length ≤ 1000 := by omega
    obtain ⟨n, hn⟩ : ∃ n, M.length = n := ⟨_, rfl⟩
    have DT : Hid (∀ (x : Nat) (hx : x < 160) u, Kept u4 u → _) := fun x hx u k => rdot18 v M a4 c4 x y win u (vdIn_kept (KU.out.trans k) hv) (slO_kept k s4) M10 hx y0 y1 w0 w1
    have DE : ∀ x : Nat, dotP v M (x : Int) y win = dotL v y win x := fun x => by unfold dotL objsP; rw [H1.out, HT.out, if_pos rfl, HL.out, MO]
    simp only [DE, VV] at DT
    rw [hn] at DT ⊢
    clear k4 s4 t4 S3 K5 B5 l4 MO DE d0 d1 d2 d3 d4 d5 d6 d7 d8 d9
    obtain ⟨d0, d1, d2, d3, d4, d5, d6, d7, d8, d9⟩ := ten18 BU.out
    refine hK.out _ _ (by go_keep) (fun hHeld => ?_)
    clear hK K
    try simp only [Act.put, List.getElem_toArray, List.getElem_cons_succ, List.getElem_cons_zero, List.setIfInBounds_toArray, List.set_cons_zero, List.set_cons_succ]
    refine wpAnyH_take (i := 8) (v := ?_) rfl (by kernel_rfl) (by kernel_rfl) (by kernel_rfl) (fun _ _ _ h => h) (Or.inl ⟨by rfl, ?_⟩) (by assumption) ?_
    rotate_left
    · intro w hSw
      (try dsimp only at hSw)
      obtain ⟨s0, s1, s2, s3, s4, s5, s6, s7, s8, s9⟩ := hSw
      go_simp
      try with_reducible rfl
    simp only [Act.put, List.getElem_toArray, List.getElem_cons_succ, List.getElem_cons_zero, List.setIfInBounds_toArray, List.set_cons_zero, List.set_cons_succ]
    refine wpAnyH_done (by kernel_rfl) ?_ _
    clear hHeld
    clear d0 d1 d2 d3 d4 d5 d6 d7 d8 d9
    clear M10 hn
    go_wp2_with fail
    go_loopw [9, 10] (fun s9 s10 wr => ∃ (j m : Nat) (av : Option Addr) (cp : Nat), j ≤ 160 ∧ s9 = .slice av m cp ∧ s10 = .int .i64 (j : Int) ∧ Hid (((lineP v y win).take j).length = m) ∧ Hid (wr.ownsRow u4.heap.size 5 1 (.slice av m cp) ((lineP v y win).take j).length (((lineP v y win).take j).map (Value.int .u8))) ∧ Kept u4 wr) (fun _ s10 _ => 160 - (intOf s10).toNat)
    case atStart => exact ⟨0, 0, none, 0, Nat.zero_le _, rfl, rfl, rfl, own_nil18 _ _, Kept.refl _⟩
    case round =>
      obtain ⟨j, m, av, cp, hj, rfl, rfl, HL, OO, hk⟩ := hrel
      have KK := hid hk
      have KW := hid (KU.out.trans hk)
      have BX := hid (blk_kept hk BU.out)
      obtain ⟨d0, d1, d2, d3, d4, d5, d6, d7, d8, d9⟩ := ten18 BX.out
      by_cases hlt : j < 160
      · have g1 : decide ((j : Int) < 160) = true := decide_eq_true (by omega)
        have g3 : (j : Int) < 160 := by omega
        have e1 : IntKind.i64.wrap ((j : Int) + 1) = (j : Int) + 1 := by rw [IntKind.wrap_i64]; omega
        have DJ := hid (DT.out j hlt wr hk)
        have NX := hid (line_next v y win hlt)
        have db : InByte (dotL v y win j) := by have q := dot_bd v (objsP v y) (j : Int) y win; exact ⟨q.1, by show dotP _ _ _ _ _ ≤ 255; omega⟩
        have LN : ((lineP v y win).take j).length = j := by rw [List.length_take, line_len]; omega
        obtain ⟨PL, hPL⟩ : ∃ l, (lineP v y win).take j = l := ⟨_, rfl⟩
        have PB : Hid (∀ x ∈ PL ++ [dotL v y win j], InByte x) := by rw [← hPL, ← NX.out]; exact fun x hx => line_in v y win x (List.mem_of_mem_take hx)
        rw [hPL] at NX OO LN HL
        have lb : PL.length ≤ 160 := by omega
        have hm := HL.out
        subst hm
        generalize dotL v y win j = d at *
        clear hPL LN HL hk
        go_wp2_with fail
        refine DJ.out.mono ?_
        rintro e q1 ⟨rfl, k1⟩
        have K6 := hid (KK.out.trans k1)
        have O6 := hid (owns_kept k1 OO.out)
        clear k1 OO KK d0 d1 d2 d3 d4 d5 d6 d7 d8 d9
        have LE : Hid ((PL ++ [d]).length = PL.length + 1) := by show _ = _; simp
        have hb2 : ∀ q, u4.heap.size ≤ (q1.alloc q).heap.size := fun q => by rw [World.size_alloc]; have := K6.out.size; omega
        go_wp2_with (at_builtin; (refine wl_append (L := PL) (owns_kept ((Kept.refl _).alloc _) O6.out) (sl_one18 q1 d db) rfl rfl rfl rfl rfl (hb2 _) (by simp only [List.length_cons, List.length_nil]; omega) (fun v' u7 o7 g7 => ?_); obtain ⟨a7, c7, e7, o8⟩ := own_form18 o7 PB.out; subst e7; have K7 := hid ((K6.out.alloc _).by g7 (fun q hq => (O6.out.lt q hq).1)); have O7 := hid o8; clear g7 o7 o8))
        go_roundw
        case rel => exact ⟨j + 1, _, a7, c7, by omega, rfl, by go_num, (show _ = _ by rw [NX.out]; simp), (by show World.ownsRow _ _ _ _ _ _ _; rw [NX.out, ← LE.out]; exact O7.out), K7.out⟩
        case measure => first | omega | (simp; omega) | (simp [intOf]; omega)
      · have je : j = 160 := by omega
        subst je
        have g1 : decide (((160 : Nat) : Int) < 160) = false := by decide
        have TK : (lineP v y win).take 160 = lineP v y win := List.take_of_length_le (by rw [line_len]; omega)
        rw [TK] at OO HL
        have h9 := HL.out
        rw [line_len] at h9
        subst h9
        obtain ⟨a9, c9, e9, s9, w9⟩ := own_sl OO.out (line_in v y win)
        rw [line_len] at e9
        cases e9
        have S9 := hid s9
        have W9 : Hid (Newer w.heap.size av) := fun x hx => Nat.le_trans KU.out.size (w9 x hx)
        have WJ := hid (WI.out wr (KU.out.trans hk))
        clear s9 w9 OO HL TK hk
        cases qw : winP v y
        · rw [qw] at WJ
          have NXW := hid (show nxP v y win = win by unfold nxP; rw [qw]; rfl)
          clear qw
          go_wp2_with fail
          refine WJ.out.mono ?_
          rintro e q2 ⟨rfl, k2⟩
          have K8 := hid (KW.out.trans k2)
          have S8 := hid (sl_kept k2 S9.out)
          clear k2 d0 d1 d2 d3 d4 d5 d6 d7 d8 d9
          go_wp2_with fail
          refine bodyPost_ret (results_tmp2 rfl _ _ _) rfl ?_
          exact ⟨⟨av, cp, by rw [NXW.out]; rfl, W9.out, S8.out⟩, K8.out⟩
        · rw [qw] at WJ
          have NXW := hid (show nxP v y win = (win + 1) % 256 by unfold nxP; rw [qw]; rfl)
          clear qw
          go_wp2_with fail
          refine WJ.out.mono ?_
          rintro e q2 ⟨rfl, k2⟩
          have K8 := hid (KW.out.trans k2)
          have S8 := hid (sl_kept k2 S9.out)
          clear k2 d0 d1 d2 d3 d4 d5 d6 d7 d8 d9
          go_wp2_with fail
          refine bodyPost_ret (results_tmp2 rfl _ _ _) rfl ?_
          exact ⟨⟨av, cp, by rw [NXW.out]; rfl, W9.out, S8.out⟩, K8.out⟩
end Go.Proofs.Ytecgpdjgbdobbaa
