/- The document's Plan of layer 21, over this seat's translation. -/
import Derived.Test.YtbflhpffojlpgaaDoorRm21b
import Derived.Deep.RegionHeld3
namespace Go.Proofs.YtbflhpffojlpgaaDoor
open Go.RowKit
set_option linter.unusedVariables false
set_option linter.unusedSimpArgs false

theorem tell_next (x : Int) (t : Bool) (S : List UInt8) (j : Nat) (h : j < S.length) : tellP x t (S.drop j) = if S[j] = 46 then (if t = false ∧ ¬ x = 4 then [] else tellP x t (S.drop (j + 1))) else cycP (S[j].toNat : Int) x :: tellP x t (S.drop (j + 1)) := by
  rw [List.drop_eq_getElem_cons h]
  rfl
theorem words_fin : allM (fun f _ => decide ((wordsS f.kind f.x f.y).size ≤ 6)) = true := by decide +kernel
theorem words_len (op : Int) (cb : Bool) (h0 : 0 ≤ op) (h1 : op ≤ 255) : (wordsS (fmOf op cb).kind (fmOf op cb).x (fmOf op cb).y).size ≤ 6 := of_decide_eq_true (all_m words_fin op cb true h0 h1)
/-- append(s, x...), s the call's own, x whatever cycles, as one operation. -/
theorem wp_appM {w : World} {o : Oper} {a : Act} {K : Act → World → Prop} {Q : Exit → Act → World → Prop} {s x : Operand} {base : Nat} {v : Value} {L : List Mc} {y : Addr} {cap lz : Nat} {M : List Mc}
    (own : OwnM w base v L) (sl : SlM w (some y) cap M) (ho : o.op = .call { callee := .builtin .append, args := #[s, x], argTypes := #[24, 24] })
    (hs : a.eval s = v) (hx : a.eval x = .slice (some y) lz cap) (hlz : lz = M.length) (hb : base ≤ w.heap.size) (hm : L.length + M.length ≤ 1000000)
    (h : ∀ v' u, OwnM u base v' (L ++ M) → w.grownBy u v.ownBlock → K (a.put o.dst v') u) : o.wp Tryd.prog a w K Q := by
  obtain ⟨i0, hi, hz0, hz1, hz2⟩ := info_parts info21
  subst hlz
  refine wp_append_own _ s x 24 ho base 32 i0 _ 3 24 Tryd.underlying24 hi hz0 hz1 hz2 rfl (by decide) v _ _ hs own y M.length cap (M.flatMap mcC) hx (flatM_len M) (slM_news sl) ?_ ?_ ?_ hb ?_
  · intro u hu
    obtain ⟨q, _, hq⟩ := List.mem_flatMap.1 hu
    exact mcC_one q u hq
  · unfold maxLen; omega
  · omega
  · intro v' u h1 h2 _
    refine h v' u ?_ h2
    show u.ownsRow base _ 3 v' (L ++ M).length ((L ++ M).flatMap mcC)
    rw [List.length_append, List.flatMap_append]
    exact h1
set_option maxRecDepth 100000 in
set_option maxHeartbeats 4000000 in
theorem rplan21 (op : Int) (cb tk : Bool) (w : World) (h0 : 0 ≤ op) (h1 : op ≤ 255) : Calls Tryd.prog 11 #[.int .u8 op, .bool cb, .bool tk] w (MRet w (rplanP (fmOf op cb) tk)) := by
  have HP := hid (plan_in op cb tk h0 h1)
  have FO := hid (rform21 op cb w h0 h1)
  have WS := words_len op cb h0 h1
  show Calls _ _ _ _ (MRet w (tellP (fmOf op cb).x tk (wordsS (fmOf op cb).kind (fmOf op cb).x (fmOf op cb).y).data.toList))
  generalize fmOf op cb = f at *
  have WO := hid (fun u => rwrd21 f.kind f.x f.y f.bytes f.cycles f.taken u)
  generalize wordsS f.kind f.x f.y = s at *
  obtain ⟨R, hR⟩ : ∃ R, tellP f.x tk s.data.toList = R := ⟨_, rfl⟩
  rw [hR]
  have HR := hid hR
  clear hR
  go_enter Tryd.func11, Tryd.ntmps11
  go_wp2_with fail
  refine FO.out.mono ?_
  rintro e u1 ⟨rfl, q1⟩
  have K1 := hid (q1.alloc (.cells #[.int .i64 f.kind, .int .i64 f.x, .int .i64 f.y, .int .i64 f.bytes, .int .i64 f.cycles, .int .i64 f.taken] 29))
  have H1 := hid (has_alloc u1 #[.int .i64 f.kind, .int .i64 f.x, .int .i64 f.y, .int .i64 f.bytes, .int .i64 f.cycles, .int .i64 f.taken] 29)
  clear q1 FO
  simp only [fmL]
  go_wp2_with fail
  refine (WO.out _).mono ?_
  rintro e u2 ⟨rfl, q2⟩
  have K2 := hid (K1.out.trans q2)
  have H2 := hid (hasK q2 H1.out)
  have HB := hid H2.out.1
  clear q2 K1 H1 WO
  go_wp2
  go_loopw [9, 10] (fun s9 s10 wr => ∃ (j n : Nat) (av : Option Addr) (cp : Nat) (M : List Mc), j ≤ s.size ∧ n ≤ j ∧ s9 = .slice av n cp ∧ s10 = .int .i64 (j : Int) ∧ Hid (M.length = n) ∧ Hid (M ++ tellP f.x tk (s.data.toList.drop j) = R) ∧ OwnM wr u2.heap.size (.slice av n cp) M ∧ Kept u2 wr) (fun _ s10 _ => s.size - (intOf s10).toNat)
  case atStart => exact ⟨0, 0, none, 0, [], by omega, Nat.le_refl _, rfl, rfl, rfl, HR.out, ownM_nil u2 _, Kept.refl u2⟩
  case round =>
    obtain ⟨j, n, av, cp, M, hj, hnj, rfl, rfl, HL, TR, ho, hk⟩ := hrel
    have KK := hid hk
    have OO := hid ho
    have HF := hid (hasK hk H2.out)
    have z1 := HF.out.1
    have d0 : wr.cell? ⟨u1.heap.size, 0, none⟩ = some (.int .i64 f.kind) := HF.out.2 0
    have d1 : wr.cell? ⟨u1.heap.size, 1, none⟩ = some (.int .i64 f.x) := HF.out.2 1
    have d2 : wr.cell? ⟨u1.heap.size, 2, none⟩ = some (.int .i64 f.y) := HF.out.2 2
    have d3 : wr.cell? ⟨u1.heap.size, 3, none⟩ = some (.int .i64 f.bytes) := HF.out.2 3
    have d4 : wr.cell? ⟨u1.heap.size, 4, none⟩ = some (.int .i64 f.cycles) := HF.out.2 4
    have d5 : wr.cell? ⟨u1.heap.size, 5, none⟩ = some (.int .i64 f.taken) := HF.out.2 5
    clear ho hk
    by_cases hlt : j < s.size
    · have g1 : decide ((j : Int) < (s.size : Int)) = true := decide_eq_true (by omega)
      have g2 : (j : Int) < (s.size : Int) := by omega
      have jl : j < s.data.toList.length := by simpa using hlt
      have TN := hid (tell_next f.x tk s.data.toList j jl)
      obtain ⟨z, hz⟩ : ∃ z, sg s j = z := ⟨_, rfl⟩
      have ZC : Hid (z = (s.data.toList[j].toNat : Int)) := by show _ = _; rw [← hz]; unfold sg; rw [List.getD_eq_getElem?_getD, List.getElem?_eq_getElem jl]; rfl
      by_cases hd : z = 46
      · have CD : Hid (s.data.toList[j] = 46) := by show _ = _; have := ZC.out; rw [hd] at this; apply UInt8.toNat.inj; have h : (46 : UInt8).toNat = 46 := rfl; omega
        cases tk
        · by_cases hx4 : f.x = 4
          · have SR := sign_run s j 46 hlt (hz.trans hd)
            have g3 : ((46 : Int) != 46) = false := rfl
            have g4 : (f.x != 4) = false := by simp [hx4]
            have NX := hid (show tellP f.x false (s.data.toList.drop (j + 1)) = tellP f.x false (s.data.toList.drop j) by rw [TN.out, if_pos CD.out, if_neg (by simp [hx4])])
            clear hx4
            clear hd TN CD hz
            go_wp2
            go_roundw
            case rel => exact ⟨j + 1, n, av, cp, M, by omega, by omega, rfl, by go_num, HL, (show _ = _ by rw [NX.out]; exact TR.out), OO.out, KK.out⟩
            case measure => first | omega | (simp; omega) | (simp [intOf]; omega)
          · have SR := sign_run s j 46 hlt (hz.trans hd)
            have g3 : ((46 : Int) != 46) = false := rfl
            have g4 : (f.x != 4) = true := by simp [hx4]
            have NX := hid (show tellP f.x false (s.data.toList.drop j) = [] by rw [TN.out, if_pos CD.out, if_pos ⟨rfl, hx4⟩])
            have RM := hid (show M = R by have := TR.out; rw [NX.out, List.append_nil] at this; exact this)
            clear hx4 hd TN CD hz
            obtain ⟨a3, c3, e3, s3, _⟩ := own_slM OO.out
            rw [HL.out] at e3
            cases e3
            have S3 := hid s3
            clear s3
            go_wp2
            go_ret
            exact ⟨av, cp, by rw [← RM.out, HL.out]; rfl, by rw [← RM.out]; exact S3.out, K2.out.trans KK.out⟩
        · have SR := sign_run s j 46 hlt (hz.trans hd)
          have g3 : ((46 : Int) != 46) = false := rfl
          have NX := hid (show tellP f.x true (s.data.toList.drop (j + 1)) = tellP f.x true (s.data.toList.drop j) by rw [TN.out, if_pos CD.out, if_neg (by simp)])
          clear hd TN CD hz
          go_wp2
          go_roundw
          case rel => exact ⟨j + 1, n, av, cp, M, by omega, by omega, rfl, by go_num, HL, (show _ = _ by rw [NX.out]; exact TR.out), OO.out, KK.out⟩
          case measure => first | omega | (simp; omega) | (simp [intOf]; omega)
      · have CD : Hid (¬ s.data.toList[j] = 46) := by show ¬ _; intro q; apply hd; rw [ZC.out, q]; rfl
        have SR := sign_run s j z hlt hz
        have g3 : (z != 46) = true := by simp [hd]
        have NX := hid (show cycP z f.x :: tellP f.x tk (s.data.toList.drop (j + 1)) = tellP f.x tk (s.data.toList.drop j) by rw [TN.out, if_neg CD.out, ← ZC.out])
        have HC := hid (fun u => rcyc21 z f.kind f.x f.y f.bytes f.cycles f.taken u HP.out.2.1 HP.out.2.2.1)
        clear hd TN CD hz
        obtain ⟨m, hm⟩ : ∃ m, cycP z f.x = m := ⟨_, rfl⟩
        rw [hm] at HC NX
        clear hm
        obtain ⟨m0, m1, m2⟩ := m
        go_wp2_with fail
        refine wp_region_held_drew (S := (fun w' => w'.cell? ⟨u1.heap.size, 0, none⟩ = some (.int .i64 f.kind) ∧ w'.cell? ⟨u1.heap.size, 1, none⟩ = some (.int .i64 f.x) ∧ w'.cell? ⟨u1.heap.size, 2, none⟩ = some (.int .i64 f.y) ∧ w'.cell? ⟨u1.heap.size, 3, none⟩ = some (.int .i64 f.bytes) ∧ w'.cell? ⟨u1.heap.size, 4, none⟩ = some (.int .i64 f.cycles) ∧ w'.cell? ⟨u1.heap.size, 5, none⟩ = some (.int .i64 f.taken))) (by kernel_rfl) ⟨d0, d1, d2, d3, d4, d5⟩ (fun hHeld => ?_)
        refine wpAnyH_take (i := 0) (v := ?_) rfl (by kernel_rfl) (by kernel_rfl) (by kernel_rfl) (fun _ _ _ h => h) (Or.inl ⟨by rfl, ?_⟩) (by assumption) ?_
        rotate_left
        · intro w hSw
          (try dsimp only at hSw)
          go_simp
          try with_reducible rfl
        simp only [Act.put, List.getElem_toArray, List.getElem_cons_succ, List.getElem_cons_zero, List.setIfInBounds_toArray, List.set_cons_zero, List.set_cons_succ]
        refine wpAnyH_take (i := 1) (v := ?_) rfl (by kernel_rfl) (by kernel_rfl) (by kernel_rfl) (fun _ _ _ h => h) (Or.inl ⟨by rfl, ?_⟩) (by assumption) ?_
        rotate_left
        · intro w hSw
          (try dsimp only at hSw)
          go_simp
          try with_reducible rfl
        simp only [Act.put, List.getElem_toArray, List.getElem_cons_succ, List.getElem_cons_zero, List.setIfInBounds_toArray, List.set_cons_zero, List.set_cons_succ]
        refine wpAnyH_take (i := 2) (v := ?_) rfl (by kernel_rfl) (by kernel_rfl) (by kernel_rfl) (fun _ _ _ h => h) (Or.inl ⟨by rfl, ?_⟩) (by assumption) ?_
        rotate_left
        · intro w hSw
          (try dsimp only at hSw)
          go_simp
          try with_reducible rfl
        simp only [Act.put, List.getElem_toArray, List.getElem_cons_succ, List.getElem_cons_zero, List.setIfInBounds_toArray, List.set_cons_zero, List.set_cons_succ]
        refine wpAnyH_take (i := 3) (v := ?_) rfl (by kernel_rfl) (by kernel_rfl) (by kernel_rfl) (fun _ _ _ h => h) (Or.inl ⟨by rfl, ?_⟩) (by assumption) ?_
        rotate_left
        · intro w hSw
          (try dsimp only at hSw)
          go_simp
          try with_reducible rfl
        simp only [Act.put, List.getElem_toArray, List.getElem_cons_succ, List.getElem_cons_zero, List.setIfInBounds_toArray, List.set_cons_zero, List.set_cons_succ]
        refine wpAnyH_take (i := 4) (v := ?_) rfl (by kernel_rfl) (by kernel_rfl) (by kernel_rfl) (fun _ _ _ h => h) (Or.inl ⟨by rfl, ?_⟩) (by assumption) ?_
        rotate_left
        · intro w hSw
          (try dsimp only at hSw)
          go_simp
          try with_reducible rfl
        simp only [Act.put, List.getElem_toArray, List.getElem_cons_succ, List.getElem_cons_zero, List.setIfInBounds_toArray, List.set_cons_zero, List.set_cons_succ]
        refine wpAnyH_ready (rs := [5]) (by kernel_rfl) (by simp) ?_
        refine AllReadyH.cons rfl (fun K hK => ?_) AllReadyH.nil
        go_simp
        refine (HC.out _).mono ?_
        rintro e u3 ⟨rfl, k3⟩
        have K3 := hid (KK.out.drew.trans k3)
        have O3 := hid (owns_kept k3 (owns_kept (Kept.refl wr).drew OO.out))
        have H3 := hid (hasK k3 (hasK (Kept.refl wr).drew HF.out))
        have f0 : u3.cell? ⟨u1.heap.size, 0, none⟩ = some (.int .i64 f.kind) := H3.out.2 0
        have f1 : u3.cell? ⟨u1.heap.size, 1, none⟩ = some (.int .i64 f.x) := H3.out.2 1
        have f2 : u3.cell? ⟨u1.heap.size, 2, none⟩ = some (.int .i64 f.y) := H3.out.2 2
        have f3 : u3.cell? ⟨u1.heap.size, 3, none⟩ = some (.int .i64 f.bytes) := H3.out.2 3
        have f4 : u3.cell? ⟨u1.heap.size, 4, none⟩ = some (.int .i64 f.cycles) := H3.out.2 4
        have f5 : u3.cell? ⟨u1.heap.size, 5, none⟩ = some (.int .i64 f.taken) := H3.out.2 5
        clear k3 OO KK HF d0 d1 d2 d3 d4 d5
        refine hK.out _ _ (⟨f0, f1, f2, f3, f4, f5⟩) (fun hHeld => ?_)
        clear hK K
        try simp only [Act.put, List.getElem_toArray, List.getElem_cons_succ, List.getElem_cons_zero, List.setIfInBounds_toArray, List.set_cons_zero, List.set_cons_succ]
        refine wpAnyH_ready (rs := [6]) (by kernel_rfl) (by simp) ?_
        refine AllReadyH.cons rfl (fun K hK => ?_) AllReadyH.nil
        simp only [mcC]
        go_simp
        have H4 := hid (hasK ((Kept.refl u3).alloc (.cells (mcC (m0, m1, m2)).toArray 32)) H3.out)
        have O4 := hid (owns_kept ((Kept.refl u3).alloc (.cells (mcC (m0, m1, m2)).toArray 32)) O3.out)
        have K4 := hid (K3.out.alloc (.cells (mcC (m0, m1, m2)).toArray 32))
        have b4 : u2.heap.size ≤ (u3.alloc (.cells (mcC (m0, m1, m2)).toArray 32)).heap.size := K4.out.size
        refine hK.out _ _ (⟨H4.out.2 0, H4.out.2 1, H4.out.2 2, H4.out.2 3, H4.out.2 4, H4.out.2 5⟩) (fun hHeld => ?_)
        clear hK K
        try simp only [Act.put, List.getElem_toArray, List.getElem_cons_succ, List.getElem_cons_zero, List.setIfInBounds_toArray, List.set_cons_zero, List.set_cons_succ]
        refine wpAnyH_ready (rs := [7]) (by kernel_rfl) (by simp) ?_
        refine AllReadyH.cons rfl (fun K hK => ?_) AllReadyH.nil
        rw [if_pos (by rfl)]
        refine wp_appM (L := M) (M := [(m0, m1, m2)]) O4.out (one_slM u3 (m0, m1, m2)) rfl rfl rfl rfl b4 (by have := HL.out; simp only [List.length_cons, List.length_nil]; omega) (fun v5 u5 o5 g5 => ?_)
        obtain ⟨a5, c5, e5, o6⟩ := ownM_form o5
        subst e5
        have K5 := hid (K4.out.by g5 (fun q hq => (O4.out.lt q hq).1))
        have O5 := hid o6
        have H5 : Has u5 u1.heap.size #[.int .i64 f.kind, .int .i64 f.x, .int .i64 f.y, .int .i64 f.bytes, .int .i64 f.cycles, .int .i64 f.taken] := ⟨Nat.lt_of_lt_of_le H4.out.1 g5.size, fun i => (World.cell?_of_block (g5.block u1.heap.size H4.out.1 (fun q => by have := (O4.out.lt u1.heap.size q.symm).1; have := HB.out; omega))).trans (H4.out.2 i)⟩
        clear g5 o5 o6
        refine hK.out _ _ (⟨H5.2 0, H5.2 1, H5.2 2, H5.2 3, H5.2 4, H5.2 5⟩) (fun hHeld => ?_)
        clear hK K
        try simp only [Act.put, List.getElem_toArray, List.getElem_cons_succ, List.getElem_cons_zero, List.setIfInBounds_toArray, List.set_cons_zero, List.set_cons_succ]
        refine wpAnyH_take (i := 8) (v := ?_) rfl (by kernel_rfl) (by kernel_rfl) (by kernel_rfl) (fun _ _ _ h => h) (Or.inl ⟨by rfl, ?_⟩) (by assumption) ?_
        rotate_left
        · intro w hSw
          (try dsimp only at hSw)
          go_simp
          try with_reducible rfl
        simp only [Act.put, List.getElem_toArray, List.getElem_cons_succ, List.getElem_cons_zero, List.setIfInBounds_toArray, List.set_cons_zero, List.set_cons_succ]
        refine wpAnyH_done (by kernel_rfl) ?_ _
        clear hHeld
        go_wp2
        go_roundw
        case rel => exact ⟨j + 1, _, a5, c5, M ++ [(m0, m1, m2)], by omega, by rw [HL.out]; omega, rfl, by go_num, (show _ = _ by simp [HL.out]), (show _ = _ by rw [List.append_assoc, List.singleton_append, NX.out]; exact TR.out), by rw [← show (M ++ [(m0, m1, m2)]).length = M.length + 1 by simp]; exact O5.out, K5.out⟩
        case measure => first | omega | (simp; omega) | (simp [intOf]; omega)
    · have g1 : decide ((j : Int) < (s.size : Int)) = false := decide_eq_false (by omega)
      have g2 : ¬ (j : Int) < (s.size : Int) := by omega
      have NX := hid (show tellP f.x tk (s.data.toList.drop j) = [] by rw [List.drop_eq_nil_of_le (by simp; omega)]; rfl)
      have RM := hid (show M = R by have := TR.out; rw [NX.out, List.append_nil] at this; exact this)
      obtain ⟨a3, c3, e3, s3, _⟩ := own_slM OO.out
      rw [HL.out] at e3
      cases e3
      have S3 := hid s3
      clear s3
      go_wp2
      go_ret
      exact ⟨av, cp, by rw [← RM.out, HL.out]; rfl, by rw [← RM.out]; exact S3.out, K2.out.trans KK.out⟩
end Go.Proofs.YtbflhpffojlpgaaDoor
