/- A sheet's pixels are reckoned. -/
import Derived.Test.YtdimkeknjhdjfabSh17c
import Derived.Test.YtdimkeknjhdjfabRtl17
import Derived.Deep.RegionHeld3
namespace Go.Proofs.Ytdimkeknjhdjfab
open Go.RowKit
set_option linter.unusedVariables false
set_option linter.unusedSimpArgs false

theorem wp_st17 {P : Program} {op : Oper} {a : Act} {w : World} {K : Act → World → Prop} {Q : Exit → Act → World → Prop} {ty : TypeId} {x y : Operand} {b o : Nat} {v : Value} {t : TypeId} {cs : List Value}
    (hB : Blk w b t cs) (ho : op.op = .store ty x y) (hx : a.eval x = .pointer (some ⟨b, o, none⟩)) (hy : a.eval y = v)
    (hi : (P.info? ty).map (·.size) = some v.cells.size) (h1 : v.cells.toList.all (·.oneCell') = true) (hl : o + v.cells.toList.length ≤ cs.length)
    (h : ∀ u, Put w b t (cs.take o ++ v.cells.toList ++ cs.drop (o + v.cells.toList.length)) u → K (a.put op.dst undef) u) : op.wp P a w K Q := by
  unfold Oper.wp execOp
  simp only [ho, hx, hy, Instr.storeAt, Instr.sureAddr, Sem.run_bind, Sem.run_pure, Result.andThen_ok, run_storeVar_any w b o ty v (blk_there hB (by simpa using hl)) hi (Array.all_eq_true_iff_forall_mem.2 (fun x hx => List.all_eq_true.1 h1 x (by simpa using hx)))]
  exact h _ (put_of hB o v.cells.toList hl)
set_option maxRecDepth 100000 in
set_option maxHeartbeats 4000000 in
theorem reckon17 (b : Nat) (a : Option Addr) (cap : Nat) (z : List Int) (d st se n : Int) (w : World) (hB : Blk w b 50 (shL true (.slice a z.length cap) d st se pix0 n)) (hr : Row w a z) (hne : ∀ x, a = some x → x.block ≠ b) :
    Calls Try.prog 11 #[.pointer (some ⟨b, 0, none⟩)] w fun e w' => e = .returned (.tuple #[]) ∧ Blk w' b 50 (shL true (.slice none 0 0) d st se (pixL z) n) ∧ KeptX (fun k => k = b) w w' := by
  have RW : Hid (∀ u, KeptX (fun k => k = b) w u → Row u a z) := fun u k => rowX k hr (.inr fun x hx e => hne x hx e)
  have IB : Hid (∀ i, 0 ≤ atP z i ∧ atP z i ≤ 255) := atP_in z hr.2.1
  have BW := hid hB
  rw [← pixTo_0 z] at BW
  clear hB hr hne
  go_enter Try.func11, Try.ntmps11
  go_wp2_with fail
  go_loopw [2, 3, 4, 5, 8] (fun v2 v3 v4 v5 v8 wr => ∃ t : Nat, t ≤ 384 ∧ v5 = .int .i64 (t : Int) ∧ Blk wr b 50 (shL true (.slice a z.length cap) d st se (pixTo z (8 * t)) n) ∧ KeptX (fun k => k = b) w wr) (fun _ _ _ v5 _ _ => 384 - (intOf v5).toNat)
  case atStart => exact ⟨0, Nat.zero_le _, rfl, BW.out, KeptX.refl w⟩
  case round =>
    obtain ⟨t, ht, rfl, hb, hk⟩ := hrel
    have B0 := hid hb
    have K0 := hid hk
    clear hb hk BW
    by_cases hlt : t < 384
    · have g1 : decide ((t : Int) < 384) = true := decide_eq_true (by omega)
      have e1 : IntKind.i64.wrap ((t : Int) + 1) = (t : Int) + 1 := by rw [IntKind.wrap_i64]; omega
      go_wp2_with fail
      go_loopw [3, 4, 8] (fun v3 v4 v8 wr => ∃ r : Nat, r ≤ 8 ∧ v8 = .int .i64 (r : Int) ∧ Blk wr b 50 (shL true (.slice a z.length cap) d st se (pixTo z (8 * t + r)) n) ∧ KeptX (fun k => k = b) w wr) (fun _ _ v8 _ => 8 - (intOf v8).toNat)
      case atStart => exact ⟨0, Nat.zero_le _, rfl, B0.out, K0.out⟩
      case round =>
        obtain ⟨r, hr, rfl, hb, hk⟩ := hrel
        have BB := hid hb
        have KK := hid hk
        clear hb hk B0 K0
        by_cases hlr : r < 8
        · have g2 : decide ((r : Int) < 8) = true := decide_eq_true (by omega)
          have e2 : IntKind.i64.wrap ((r : Int) + 1) = (r : Int) + 1 := by rw [IntKind.wrap_i64]; omega
          have PL := hid (fun u => pplace0 (t : Int) (r : Int) u (by omega) (by omega) (by omega) (by omega))
          have e3 : IntKind.i64.wrap (16 * (t : Int) + 2 * (r : Int) + 1) = 16 * (t : Int) + 2 * (r : Int) + 1 := by rw [IntKind.wrap_i64]; omega
          have A1 := hid (fun u h => pat17 a cap z (16 * (t : Int) + 2 * (r : Int)) u h)
          have A2 := hid (fun u h => pat17 a cap z (16 * (t : Int) + 2 * (r : Int) + 1) u h)
          have NX := hid (pixTo_next z (8 * t + r) (by omega))
          have p1 : ((2 * (8 * t + r) : Nat) : Int) = 16 * (t : Int) + 2 * (r : Int) := by omega
          have p2 : ((2 * (8 * t + r) + 1 : Nat) : Int) = 16 * (t : Int) + 2 * (r : Int) + 1 := by omega
          rw [p1, p2] at NX
          clear p1 p2
          have i1 := IB.out (16 * (t : Int) + 2 * (r : Int))
          have i2 := IB.out (16 * (t : Int) + 2 * (r : Int) + 1)
          generalize atP z (16 * (t : Int) + 2 * (r : Int)) = lo at *
          generalize atP z (16 * (t : Int) + 2 * (r : Int) + 1) = hi at *
          generalize 16 * (t : Int) + 2 * (r : Int) = pl at *
          have RO := hid (fun u => prow17 lo hi u i1.1 i1.2 i2.1 i2.2)
          have t0 : (0 : Int) ≤ (t : Int) := by omega
          have t1 : (t : Int) < 384 := by omega
          have r0 : (0 : Int) ≤ (r : Int) := by omega
          have r1 : (r : Int) < 8 := by omega
          have cb : (fun u : World => u.cell? ⟨b, 1, none⟩) = fun u => u.cell? ⟨b, 1, none⟩ := rfl
          have c0 := blk_cell BB.out 1
          rw [show (shL true (.slice a z.length cap) d st se (pixTo z (8 * t + r)) n)[1]? = some (.slice a z.length cap) from rfl] at c0
          have zb := blk_lt BB.out
          clear cb
          go_wp2_with fail
          refine (PL.out _).mono ?_
          rintro e u0 ⟨rfl, rfl⟩
          go_wp2_with fail
          refine wp_region_held_drew (S := (fun w' => w'.cell? ⟨b, 1, none⟩ = some (.slice a z.length cap))) (by kernel_rfl) (by go_keep) (fun hHeld => ?_)
          refine wpAnyH_take (i := 0) (v := ?_) rfl (by kernel_rfl) (by kernel_rfl) (by kernel_rfl) (fun _ _ _ h => h) (Or.inl ⟨by rfl, ?_⟩) (by assumption) ?_
          rotate_left
          · intro w hSw
            (try dsimp only at hSw)
            go_simp
            try with_reducible rfl
          simp only [Act.put, List.getElem_toArray, List.getElem_cons_succ, List.getElem_cons_zero, List.setIfInBounds_toArray, List.set_cons_zero, List.set_cons_succ]
          refine wpAnyH_take (i := 1) (v := ?_) rfl (by kernel_rfl) (by kernel_rfl) (by kernel_rfl) (fun _ _ _ h => h) (Or.inl ⟨by rfl, ?_⟩) (by assumption) ?_
          rotate_left
          · intro w hSw
            (try dsimp only at hSw)
            go_simp
            try with_reducible rfl
          simp only [Act.put, List.getElem_toArray, List.getElem_cons_succ, List.getElem_cons_zero, List.setIfInBounds_toArray, List.set_cons_zero, List.set_cons_succ]
          refine wpAnyH_take (i := 2) (v := ?_) rfl (by kernel_rfl) (by kernel_rfl) (by kernel_rfl) (fun _ _ _ h => h) (Or.inl ⟨by rfl, ?_⟩) (by assumption) ?_
          rotate_left
          · intro w hSw
            (try dsimp only at hSw)
            go_simp
            try with_reducible rfl
          simp only [Act.put, List.getElem_toArray, List.getElem_cons_succ, List.getElem_cons_zero, List.setIfInBounds_toArray, List.set_cons_zero, List.set_cons_succ]
          refine wpAnyH_take (i := 3) (v := ?_) rfl (by kernel_rfl) (by kernel_rfl) (by kernel_rfl) (fun _ _ _ h => h) (Or.inl ⟨by rfl, ?_⟩) (by assumption) ?_
          rotate_left
          · intro w hSw
            (try dsimp only at hSw)
            go_simp
            try with_reducible rfl
          simp only [Act.put, List.getElem_toArray, List.getElem_cons_succ, List.getElem_cons_zero, List.setIfInBounds_toArray, List.set_cons_zero, List.set_cons_succ]
          refine wpAnyH_take (i := 4) (v := ?_) rfl (by kernel_rfl) (by kernel_rfl) (by kernel_rfl) (fun _ _ _ h => h) (Or.inl ⟨by rfl, ?_⟩) (by assumption) ?_
          rotate_left
          · intro w hSw
            (try dsimp only at hSw)
            go_simp
            try with_reducible rfl
          simp only [Act.put, List.getElem_toArray, List.getElem_cons_succ, List.getElem_cons_zero, List.setIfInBounds_toArray, List.set_cons_zero, List.set_cons_succ]
          refine wpAnyH_take (i := 5) (v := ?_) rfl (by kernel_rfl) (by kernel_rfl) (by kernel_rfl) (fun _ _ _ h => h) (Or.inl ⟨by rfl, ?_⟩) (by assumption) ?_
          rotate_left
          · intro w hSw
            (try dsimp only at hSw)
            go_simp
            try with_reducible rfl
          simp only [Act.put, List.getElem_toArray, List.getElem_cons_succ, List.getElem_cons_zero, List.setIfInBounds_toArray, List.set_cons_zero, List.set_cons_succ]
          refine wpAnyH_take (i := 6) (v := ?_) rfl (by kernel_rfl) (by kernel_rfl) (by kernel_rfl) (fun _ _ _ h => h) (Or.inl ⟨by rfl, ?_⟩) (by assumption) ?_
          rotate_left
          · intro w hSw
            (try dsimp only at hSw)
            go_simp
            try with_reducible rfl
          simp only [Act.put, List.getElem_toArray, List.getElem_cons_succ, List.getElem_cons_zero, List.setIfInBounds_toArray, List.set_cons_zero, List.set_cons_succ]
          refine wpAnyH_take (i := 7) (v := ?_) rfl (by kernel_rfl) (by kernel_rfl) (by kernel_rfl) (fun _ _ _ h => h) (Or.inl ⟨by rfl, ?_⟩) (by assumption) ?_
          rotate_left
          · intro w hSw
            (try dsimp only at hSw)
            go_simp
            try with_reducible rfl
          simp only [Act.put, List.getElem_toArray, List.getElem_cons_succ, List.getElem_cons_zero, List.setIfInBounds_toArray, List.set_cons_zero, List.set_cons_succ]
          refine wpAnyH_take (i := 9) (v := ?_) rfl (by kernel_rfl) (by kernel_rfl) (by kernel_rfl) (fun _ _ _ h => h) (Or.inl ⟨by rfl, ?_⟩) (by assumption) ?_
          rotate_left
          · intro w hSw
            (try dsimp only at hSw)
            go_simp
            try with_reducible rfl
          simp only [Act.put, List.getElem_toArray, List.getElem_cons_succ, List.getElem_cons_zero, List.setIfInBounds_toArray, List.set_cons_zero, List.set_cons_succ]
          refine wpAnyH_take (i := 10) (v := ?_) rfl (by kernel_rfl) (by kernel_rfl) (by kernel_rfl) (fun _ _ _ h => h) (Or.inl ⟨by rfl, ?_⟩) (by assumption) ?_
          rotate_left
          · intro w hSw
            (try dsimp only at hSw)
            go_simp
            try with_reducible rfl
          simp only [Act.put, List.getElem_toArray, List.getElem_cons_succ, List.getElem_cons_zero, List.setIfInBounds_toArray, List.set_cons_zero, List.set_cons_succ]
          refine wpAnyH_take (i := 11) (v := ?_) rfl (by kernel_rfl) (by kernel_rfl) (by kernel_rfl) (fun _ _ _ h => h) (Or.inl ⟨by rfl, ?_⟩) (by assumption) ?_
          rotate_left
          · intro w hSw
            (try dsimp only at hSw)
            go_simp
            try with_reducible rfl
          simp only [Act.put, List.getElem_toArray, List.getElem_cons_succ, List.getElem_cons_zero, List.setIfInBounds_toArray, List.set_cons_zero, List.set_cons_succ]
          refine wpAnyH_take (i := 12) (v := ?_) rfl (by kernel_rfl) (by kernel_rfl) (by kernel_rfl) (fun _ _ _ h => h) (Or.inl ⟨by rfl, ?_⟩) (by assumption) ?_
          rotate_left
          · intro w hSw
            (try dsimp only at hSw)
            go_simp
            try with_reducible rfl
          simp only [Act.put, List.getElem_toArray, List.getElem_cons_succ, List.getElem_cons_zero, List.setIfInBounds_toArray, List.set_cons_zero, List.set_cons_succ]
          refine wpAnyH_take (i := 13) (v := ?_) rfl (by kernel_rfl) (by kernel_rfl) (by kernel_rfl) (fun _ _ _ h => h) (Or.inl ⟨by rfl, ?_⟩) (by assumption) ?_
          rotate_left
          · intro w hSw
            (try dsimp only at hSw)
            go_simp
            try with_reducible rfl
          simp only [Act.put, List.getElem_toArray, List.getElem_cons_succ, List.getElem_cons_zero, List.setIfInBounds_toArray, List.set_cons_zero, List.set_cons_succ]
          refine wpAnyH_take (i := 14) (v := ?_) rfl (by kernel_rfl) (by kernel_rfl) (by kernel_rfl) (fun _ _ _ h => h) (Or.inl ⟨by rfl, ?_⟩) (by assumption) ?_
          rotate_left
          · intro w hSw
            (try dsimp only at hSw)
            go_simp
            try with_reducible rfl
          simp only [Act.put, List.getElem_toArray, List.getElem_cons_succ, List.getElem_cons_zero, List.setIfInBounds_toArray, List.set_cons_zero, List.set_cons_succ]
          refine wpAnyH_take (i := 17) (v := ?_) rfl (by kernel_rfl) (by kernel_rfl) (by kernel_rfl) (fun _ _ _ h => h) (Or.inl ⟨by rfl, ?_⟩) (by assumption) ?_
          rotate_left
          · intro w hSw
            (try dsimp only at hSw)
            go_simp
            try with_reducible rfl
          simp only [Act.put, List.getElem_toArray, List.getElem_cons_succ, List.getElem_cons_zero, List.setIfInBounds_toArray, List.set_cons_zero, List.set_cons_succ]
          refine wpAnyH_take (i := 18) (v := ?_) rfl (by kernel_rfl) (by kernel_rfl) (by kernel_rfl) (fun _ _ _ h => h) (Or.inl ⟨by rfl, ?_⟩) (by assumption) ?_
          rotate_left
          · intro w hSw
            (try dsimp only at hSw)
            go_simp
            try with_reducible rfl
          simp only [Act.put, List.getElem_toArray, List.getElem_cons_succ, List.getElem_cons_zero, List.setIfInBounds_toArray, List.set_cons_zero, List.set_cons_succ]
          refine wpAnyH_take (i := 19) (v := ?_) rfl (by kernel_rfl) (by kernel_rfl) (by kernel_rfl) (fun _ _ _ h => h) (Or.inl ⟨by rfl, ?_⟩) (by assumption) ?_
          rotate_left
          · intro w hSw
            (try dsimp only at hSw)
            go_simp
            try with_reducible rfl
          simp only [Act.put, List.getElem_toArray, List.getElem_cons_succ, List.getElem_cons_zero, List.setIfInBounds_toArray, List.set_cons_zero, List.set_cons_succ]
          refine wpAnyH_ready (rs := [8]) (by kernel_rfl) (by simp) ?_
          refine AllReadyH.cons rfl (fun K hK => ?_) AllReadyH.nil
          go_simp
          refine (A1.out _ (RW.out _ KK.out.drew)).mono ?_
          rintro e y1 ⟨rfl, q1⟩
          have B1 := blk_kept q1 (blk_drew BB.out)
          have K1 := hid (KK.out.drew.then q1)
          have c1 : y1.cell? ⟨b, 1, none⟩ = some (.slice a z.length cap) := blk_cell B1 1
          clear q1
          refine hK.out _ _ (by go_keep) (fun hHeld => ?_)
          clear hK K
          try simp only [Act.put, List.getElem_toArray, List.getElem_cons_succ, List.getElem_cons_zero, List.setIfInBounds_toArray, List.set_cons_zero, List.set_cons_succ]
          refine wpAnyH_ready (rs := [15]) (by kernel_rfl) (by simp) ?_
          refine AllReadyH.cons rfl (fun K hK => ?_) AllReadyH.nil
          go_simp
          refine (A2.out _ (RW.out _ K1.out)).mono ?_
          rintro e y2 ⟨rfl, q2⟩
          have B2 := blk_kept q2 B1
          have K2 := hid (K1.out.then q2)
          have c2 : y2.cell? ⟨b, 1, none⟩ = some (.slice a z.length cap) := blk_cell B2 1
          clear q2
          refine hK.out _ _ (by go_keep) (fun hHeld => ?_)
          clear hK K
          try simp only [Act.put, List.getElem_toArray, List.getElem_cons_succ, List.getElem_cons_zero, List.setIfInBounds_toArray, List.set_cons_zero, List.set_cons_succ]
          refine wpAnyH_ready (rs := [16]) (by kernel_rfl) (by simp) ?_
          refine AllReadyH.cons rfl (fun K hK => ?_) AllReadyH.nil
          go_simp
          refine (RO.out _).mono ?_
          rintro e y3 ⟨rfl, q3⟩
          have B3 := blk_kept q3 B2
          have K3 := hid (K2.out.then q3)
          have c3 : y3.cell? ⟨b, 1, none⟩ = some (.slice a z.length cap) := blk_cell B3 1
          clear q3
          refine hK.out _ _ (by go_keep) (fun hHeld => ?_)
          clear hK K
          try simp only [Act.put, List.getElem_toArray, List.getElem_cons_succ, List.getElem_cons_zero, List.setIfInBounds_toArray, List.set_cons_zero, List.set_cons_succ]
          refine wpAnyH_take (i := 20) (v := ?_) rfl (by kernel_rfl) (by kernel_rfl) (by kernel_rfl) (fun _ _ _ h => h) (Or.inl ⟨by rfl, ?_⟩) (by assumption) ?_
          rotate_left
          · intro w hSw
            (try dsimp only at hSw)
            go_simp
            try with_reducible rfl
          simp only [Act.put, List.getElem_toArray, List.getElem_cons_succ, List.getElem_cons_zero, List.setIfInBounds_toArray, List.set_cons_zero, List.set_cons_succ]
          refine wpAnyH_ready (rs := [21]) (by kernel_rfl) (by simp) ?_
          refine AllReadyH.cons rfl (fun K hK => ?_) AllReadyH.nil
          refine wp_st17 B3 rfl rfl rfl (by kernel_rfl) rfl (by rw [shL_len (pixTo_len z _)]; show 5 + t * 64 + r * 8 + 8 ≤ 24582; omega) (fun y4 p4 => ?_)
          have B4 : Blk y4 b 50 (shL true (.slice a z.length cap) d st se (pixTo z (8 * t + (r + 1))) n) := by
            have q := p4.blk
            rw [show 5 + t * 64 + r * 8 = 5 + 8 * (8 * t + r) by omega] at q
            have q2 := shL_put (m := true) (h := .slice a z.length cap) (d := d) (s := st) (e := se) (n := n) (pixTo_len z (8 * t + r)) (8 * (8 * t + r)) (rowL lo hi) (by show _ + 8 ≤ _; omega)
            have q3 : Blk y4 b 50 ((shL true (.slice a z.length cap) d st se (pixTo z (8 * t + r)) n).take (5 + 8 * (8 * t + r)) ++ rowL lo hi ++ (shL true (.slice a z.length cap) d st se (pixTo z (8 * t + r)) n).drop (5 + 8 * (8 * t + r) + (rowL lo hi).length)) := q
            rw [q2, show (rowL lo hi).length = 8 from rfl, NX.out] at q3
            exact q3
          have K4 := hid (p4.keptX (fun k => k = b) w K3.out (.inl rfl))
          have c4 : y4.cell? ⟨b, 1, none⟩ = some (.slice a z.length cap) := blk_cell B4 1
          clear p4
          refine hK.out _ _ (by go_keep) (fun hHeld => ?_)
          clear hK K
          try simp only [Act.put, List.getElem_toArray, List.getElem_cons_succ, List.getElem_cons_zero, List.setIfInBounds_toArray, List.set_cons_zero, List.set_cons_succ]
          refine wpAnyH_done (by kernel_rfl) ?_ _
          go_wp2_with fail
          go_roundw
          case rel => exact ⟨r + 1, by omega, by first | go_num | rfl, B4, K4.out⟩
          case measure => first | omega | (simp; omega) | (simp [intOf]; omega)
        · have re : r = 8 := by omega
          subst re
          have g2 : decide (((8 : Nat) : Int) < 8) = false := by decide
          go_wp2_with fail
          go_roundw
          case rel => exact ⟨t + 1, by omega, by first | go_num | rfl, BB.out, KK.out⟩
          case measure => first | omega | (simp; omega) | (simp [intOf]; omega)
    · have te : t = 384 := by omega
      subst te
      have B5 := B0.out
      have K5 := K0.out
      clear B0 K0
      go_wp2_with ((with_reducible refine at_st 22 ?_); refine wl_store rfl rfl rfl rfl B5 (by kernel_rfl) rfl (by rw [shL_len (pixTo_len z _)]; exact Nat.le_of_ble_eq_true rfl) (fun v6 p6 => ?_); have B6 : Blk v6 b 50 (shL true (.slice none 0 0) d st se (pixL z) n) := p6.blk; have K6 := hid (p6.keptX (fun k => k = b) w K5 (.inl rfl)); clear p6)
      go_end0
      exact ⟨rfl, B6, K6.out⟩
end Go.Proofs.Ytdimkeknjhdjfab
