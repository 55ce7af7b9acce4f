/- A part is laid over a line; the ground's and the window's. -/
import Derived.Test.YtecgpdjgbdobbabG23
import Derived.Deep.RegionHeld3
namespace Go.Proofs.Ytecgpdjgbdobbab
open Go.RowKit
set_option linter.unusedVariables false
set_option linter.unusedSimpArgs false

theorem wp_st18 {P : Program} {op : Oper} {a : Act} {w : World} {K : Act → World → Prop} {Q : Exit → Act → World → Prop} {ty : TypeId} {x y : Operand} {b o : Nat} {v : Value} {t : TypeId} {cs : List Value}
    (hB : Blk w b t cs) (ho : op.op = .store ty x y) (hx : a.eval x = .pointer (some ⟨b, o, none⟩)) (hy : a.eval y = v)
    (hi : (P.info? ty).map (·.size) = some v.cells.size) (h1 : v.cells.toList.all (·.oneCell') = true) (hl : o + v.cells.toList.length ≤ cs.length)
    (h : ∀ u, Put w b t (cs.take o ++ v.cells.toList ++ cs.drop (o + v.cells.toList.length)) u → K (a.put op.dst undef) u) : op.wp P a w K Q := by
  unfold Oper.wp execOp
  simp only [ho, hx, hy, Instr.storeAt, Instr.sureAddr, Sem.run_bind, Sem.run_pure, Result.andThen_ok, run_storeVar_any w b o ty v (blk_there hB (by simpa using hl)) hi (Array.all_eq_true_iff_forall_mem.2 (fun x hx => List.all_eq_true.1 h1 x (by simpa using hx)))]
  exact h _ (put_of hB o v.cells.toList hl)
set_option maxRecDepth 100000 in
set_option maxHeartbeats 4000000 in
theorem lay18 (f : FuncId) (p1 p2 p3 : Value) (b : Nat) (g0 g1 : Nat → Int) (w : World) (hB : Blk w b 32 (colsL g0)) (hcf : ∀ args u, (callFunc f args).run Try.prog u = .ok (.enter f args) u)
    (hf : ∀ (x : Nat) u, x < 160 → KeptX (fun k => k = b) w u → Calls Try.prog f #[.int .i64 (x : Int), .int .u8 (g0 x), p1, p2, p3] u fun e u' => e = .returned (.int .u8 (g1 x)) ∧ Kept u u') :
    Calls Try.prog 9 #[.pointer (some ⟨b, 0, none⟩), .func (.func f) #[] #[p1, p2, p3]] w fun e w' => e = .returned (.tuple #[]) ∧ Blk w' b 32 (colsL g1) ∧ KeptX (fun k => k = b) w w' := by
  have BW := hid hB
  rw [← mid_0 g0 g1] at BW
  have FW := hid hf
  clear hB hf
  go_enter Try.func9, Try.ntmps9
  go_wp2_with fail
  go_loopw [4, 5] (fun v4 v5 wr => ∃ j : Nat, j ≤ 160 ∧ v5 = .int .i64 (j : Int) ∧ Blk wr b 32 (colsL (midG g0 g1 j)) ∧ KeptX (fun k => k = b) w wr) (fun _ v5 _ => 160 - (intOf v5).toNat)
  case atStart => exact ⟨0, Nat.zero_le _, rfl, BW.out, KeptX.refl w⟩
  case round =>
    obtain ⟨j, hj, rfl, hb, hk⟩ := hrel
    have BB := hid hb
    have KK := hid hk
    clear hb hk BW
    by_cases hlt : j < 160
    · have g2 : decide ((j : Int) < 160) = true := decide_eq_true (by omega)
      have e1 : IntKind.i64.wrap ((j : Int) + 1) = (j : Int) + 1 := by rw [IntKind.wrap_i64]; omega
      have NX := hid (mid_next g0 g1 j hlt)
      have AT : Hid ((colsL (midG g0 g1 j))[j]? = some (.int .u8 (g0 j))) := (cols_at _ hlt).trans (by rw [mid_at])
      have FJ := hid (fun u k => FW.out j u hlt k)
      generalize g0 j = bel at *
      generalize g1 j = nw at *
      have c0 : wr.cell? ⟨b, j, none⟩ = some (.int .u8 bel) := (blk_cell BB.out j).trans AT.out
      have zb := blk_lt BB.out
      have t0 : (0 : Int) ≤ (j : Int) := by omega
      have t1 : (j : Int) < 160 := by omega
      go_wp2_with fail
      refine wp_region_held_drew (S := (fun _ => True)) (by kernel_rfl) (by go_keep) (fun hHeld => ?_)
      refine wpAnyH_take (i := 0) (v := ?_) rfl (by kernel_rfl) (by kernel_rfl) (by kernel_rfl) (fun _ _ _ h => h) (Or.inl ⟨by rfl, ?_⟩) (by assumption) ?_
      rotate_left
      · intro w hSw
        (try dsimp only at hSw)
        go_simp
        try with_reducible rfl
      simp only [Act.put, List.getElem_toArray, List.getElem_cons_succ, List.getElem_cons_zero, List.setIfInBounds_toArray, List.set_cons_zero, List.set_cons_succ]
      refine wpAnyH_take (i := 1) (v := ?_) rfl (by kernel_rfl) (by kernel_rfl) (by kernel_rfl) (fun _ _ _ h => h) (Or.inl ⟨by rfl, ?_⟩) (by assumption) ?_
      rotate_left
      · intro w hSw
        (try dsimp only at hSw)
        go_simp
        try with_reducible rfl
      simp only [Act.put, List.getElem_toArray, List.getElem_cons_succ, List.getElem_cons_zero, List.setIfInBounds_toArray, List.set_cons_zero, List.set_cons_succ]
      refine wpAnyH_take (i := 2) (v := ?_) rfl (by kernel_rfl) (by kernel_rfl) (by kernel_rfl) (fun _ _ _ h => h) (Or.inl ⟨by rfl, ?_⟩) (by assumption) ?_
      rotate_left
      · intro w hSw
        (try dsimp only at hSw)
        go_simp
        try with_reducible rfl
      simp only [Act.put, List.getElem_toArray, List.getElem_cons_succ, List.getElem_cons_zero, List.setIfInBounds_toArray, List.set_cons_zero, List.set_cons_succ]
      refine wpAnyH_take (i := 3) (v := ?_) rfl (by kernel_rfl) (by kernel_rfl) (by kernel_rfl) (fun _ _ _ h => h) (Or.inl ⟨by rfl, ?_⟩) (by assumption) ?_
      rotate_left
      · intro w hSw
        (try dsimp only at hSw)
        go_simp
        try with_reducible rfl
      simp only [Act.put, List.getElem_toArray, List.getElem_cons_succ, List.getElem_cons_zero, List.setIfInBounds_toArray, List.set_cons_zero, List.set_cons_succ]
      refine wpAnyH_take (i := 4) (v := ?_) rfl (by kernel_rfl) (by kernel_rfl) (by kernel_rfl) (fun _ _ _ h => h) (Or.inl ⟨by rfl, ?_⟩) (by assumption) ?_
      rotate_left
      · intro w hSw
        (try dsimp only at hSw)
        go_simp
        try with_reducible rfl
      simp only [Act.put, List.getElem_toArray, List.getElem_cons_succ, List.getElem_cons_zero, List.setIfInBounds_toArray, List.set_cons_zero, List.set_cons_succ]
      refine wpAnyH_take (i := 5) (v := ?_) rfl (by kernel_rfl) (by kernel_rfl) (by kernel_rfl) (fun _ _ _ h => h) (Or.inl ⟨by rfl, ?_⟩) (by assumption) ?_
      rotate_left
      · intro w hSw
        (try dsimp only at hSw)
        go_simp
        try with_reducible rfl
      simp only [Act.put, List.getElem_toArray, List.getElem_cons_succ, List.getElem_cons_zero, List.setIfInBounds_toArray, List.set_cons_zero, List.set_cons_succ]
      refine wpAnyH_take (i := 6) (v := ?_) rfl (by kernel_rfl) (by kernel_rfl) (by kernel_rfl) (fun _ _ _ h => h) (Or.inl ⟨by rfl, ?_⟩) (by assumption) ?_
      rotate_left
      · intro w hSw
        (try dsimp only at hSw)
        go_simp
        try with_reducible rfl
      simp only [Act.put, List.getElem_toArray, List.getElem_cons_succ, List.getElem_cons_zero, List.setIfInBounds_toArray, List.set_cons_zero, List.set_cons_succ]
      refine wpAnyH_take (i := 7) (v := ?_) rfl (by kernel_rfl) (by kernel_rfl) (by kernel_rfl) (fun _ _ _ h => h) (Or.inl ⟨by rfl, ?_⟩) (by assumption) ?_
      rotate_left
      · intro w hSw
        (try dsimp only at hSw)
        go_simp
        try with_reducible rfl
      simp only [Act.put, List.getElem_toArray, List.getElem_cons_succ, List.getElem_cons_zero, List.setIfInBounds_toArray, List.set_cons_zero, List.set_cons_succ]
      refine wpAnyH_take (i := 10) (v := ?_) rfl (by kernel_rfl) (by kernel_rfl) (by kernel_rfl) (fun _ _ _ h => h) (Or.inl ⟨by rfl, ?_⟩) (by assumption) ?_
      rotate_left
      · intro w hSw
        (try dsimp only at hSw)
        go_simp
        try with_reducible rfl
      simp only [Act.put, List.getElem_toArray, List.getElem_cons_succ, List.getElem_cons_zero, List.setIfInBounds_toArray, List.set_cons_zero, List.set_cons_succ]
      refine wpAnyH_ready (rs := [8]) (by kernel_rfl) (by simp) ?_
      refine AllReadyH.cons rfl (fun K hK => ?_) AllReadyH.nil
      go_simp
      refine hK.out _ _ (by go_keep) (fun hHeld => ?_)
      clear hK K
      try simp only [Act.put, List.getElem_toArray, List.getElem_cons_succ, List.getElem_cons_zero, List.setIfInBounds_toArray, List.set_cons_zero, List.set_cons_succ]
      refine wpAnyH_ready (rs := [9]) (by kernel_rfl) (by simp) ?_
      refine AllReadyH.cons rfl (fun K hK => ?_) AllReadyH.nil
      go_simp
      refine (FJ.out _ KK.out.drew).mono ?_
      rintro e y1 ⟨rfl, q1⟩
      have B1 := blk_kept q1 (blk_drew BB.out)
      have K1 := hid (KK.out.drew.then q1)
      have c1 : y1.cell? ⟨b, j, none⟩ = some (.int .u8 bel) := (blk_cell B1 j).trans AT.out
      clear q1
      refine hK.out _ _ (by go_keep) (fun hHeld => ?_)
      clear hK K
      try simp only [Act.put, List.getElem_toArray, List.getElem_cons_succ, List.getElem_cons_zero, List.setIfInBounds_toArray, List.set_cons_zero, List.set_cons_succ]
      refine wpAnyH_take (i := 11) (v := ?_) rfl (by kernel_rfl) (by kernel_rfl) (by kernel_rfl) (fun _ _ _ h => h) (Or.inl ⟨by rfl, ?_⟩) (by assumption) ?_
      rotate_left
      · intro w hSw
        (try dsimp only at hSw)
        go_simp
        try with_reducible rfl
      simp only [Act.put, List.getElem_toArray, List.getElem_cons_succ, List.getElem_cons_zero, List.setIfInBounds_toArray, List.set_cons_zero, List.set_cons_succ]
      refine wpAnyH_ready (rs := [12]) (by kernel_rfl) (by simp) ?_
      refine AllReadyH.cons rfl (fun K hK => ?_) AllReadyH.nil
      refine wp_st18 B1 rfl rfl rfl (by kernel_rfl) rfl (by rw [cols_len]; show j + 1 ≤ 160; omega) (fun y4 p4 => ?_)
      have B4 : Blk y4 b 32 (colsL (midG g0 g1 (j + 1))) := by
        rw [← NX.out]
        exact p4.blk
      have K4 := hid (p4.keptX (fun k => k = b) w K1.out (.inl rfl))
      clear p4
      refine hK.out _ _ trivial (fun hHeld => ?_)
      clear hK K
      try simp only [Act.put, List.getElem_toArray, List.getElem_cons_succ, List.getElem_cons_zero, List.setIfInBounds_toArray, List.set_cons_zero, List.set_cons_succ]
      refine wpAnyH_done (by kernel_rfl) ?_ _
      go_wp2_with fail
      go_roundw
      case rel => exact ⟨j + 1, by omega, by first | go_num | rfl, B4, K4.out⟩
      case measure => first | omega | (simp; omega) | (simp [intOf]; omega)
    · have je : j = 160 := by omega
      subst je
      have BR := BB.out
      rw [mid_160] at BR
      have g2 : decide (((160 : Nat) : Int) < 160) = false := by decide
      go_wp2_with fail
      go_end0
      exact ⟨rfl, BR, KK.out⟩
set_option maxRecDepth 100000 in
set_option maxHeartbeats 4000000 in
theorem pgrc18 (v : Vd) (h : Bool) (y : Int) (x : Nat) (bel : Int) (bv bh by_ : Nat) (w : World) (hv : VdIn w v) (hx : x < 160) (y0 : 0 ≤ y) (y1 : y ≤ 255) (hB : Blk w bv 24 (vdC v)) (hH : Blk w bh 4 [.bool h]) (hY : Blk w by_ 5 [.int .u8 y]) :
    Calls Try.prog 17 #[.int .i64 (x : Int), .int .u8 bel, .pointer (some ⟨bv, 0, none⟩), .pointer (some ⟨bh, 0, none⟩), .pointer (some ⟨by_, 0, none⟩)] w fun e w' => e = .returned (.int .u8 (celP v h (((x : Int) + v.scx) % 256) ((y + v.scy) % 256))) ∧ Kept w w' := by
  have CO := hid (pcol18 v h (((x : Int) + v.scx) % 256) ((y + v.scy) % 256) w hv (by omega) (by omega) (by omega) (by omega))
  generalize celP v h (((x : Int) + v.scx) % 256) ((y + v.scy) % 256) = c at *
  have e1 : IntKind.u8.wrap (x : Int) = (x : Int) := by rw [IntKind.wrap_u8]; omega
  have e2 : IntKind.u8.wrap ((x : Int) + v.scx) = ((x : Int) + v.scx) % 256 := by rw [IntKind.wrap_u8]
  have e3 : IntKind.u8.wrap (y + v.scy) = (y + v.scy) % 256 := by rw [IntKind.wrap_u8]
  have h0 : w.cell? ⟨bh, 0, none⟩ = some (.bool h) := blk_cell hH 0
  have i0 : w.cell? ⟨by_, 0, none⟩ = some (.int .u8 y) := blk_cell hY 0
  clear hv hH hY
  obtain ⟨ctl, scy, scx, wy, wx, bgp, o0, o1, va, vc, vz, oa, oc, oz⟩ := v
  simp only [vdV, vdC] at *
  obtain ⟨vn, hvn⟩ : ∃ n, vz.length = n := ⟨_, rfl⟩
  obtain ⟨on, hon⟩ : ∃ n, oz.length = n := ⟨_, rfl⟩
  rw [hvn, hon] at CO hB
  clear hvn hon
  obtain ⟨d0, d1, d2, d3, d4, d5, d6, d7, d8, d9⟩ := ten18 hB
  go_enter Try.func17, Try.ntmps17
  go_wp2_with fail
  refine CO.out.mono ?_
  rintro e u ⟨rfl, k⟩
  have K1 := hid k
  clear k
  go_wp2
  go_ret
  exact ⟨rfl, K1.out⟩
set_option maxRecDepth 100000 in
set_option maxHeartbeats 4000000 in
theorem pwic18 (v : Vd) (h : Bool) (n : Int) (x : Nat) (bel : Int) (bv bh by_ : Nat) (w : World) (hv : VdIn w v) (hx : x < 160) (n0 : 0 ≤ n) (n1 : n ≤ 255) (hB : Blk w bv 24 (vdC v)) (hH : Blk w bh 4 [.bool h]) (hY : Blk w by_ 5 [.int .u8 n]) :
    Calls Try.prog 19 #[.int .i64 (x : Int), .int .u8 bel, .pointer (some ⟨bv, 0, none⟩), .pointer (some ⟨bh, 0, none⟩), .pointer (some ⟨by_, 0, none⟩)] w fun e w' => e = .returned (.int .u8 (if v.wx ≤ (x : Int) + 7 then celP v h ((x : Int) + 7 - v.wx) n else bel)) ∧ Kept w w' := by
  have h0 : w.cell? ⟨bh, 0, none⟩ = some (.bool h) := blk_cell hH 0
  have i0 : w.cell? ⟨by_, 0, none⟩ = some (.int .u8 n) := blk_cell hY 0
  have e1 : IntKind.i64.wrap ((x : Int) + 7) = (x : Int) + 7 := by rw [IntKind.wrap_i64]; omega
  have t0 := hv.t0
  have t1 := hv.t1
  have e2 : IntKind.i64.wrap ((x : Int) + 7 - v.wx) = (x : Int) + 7 - v.wx := by rw [IntKind.wrap_i64]; omega
  have e4 : IntKind.i64.wrap v.wx = v.wx := by rw [IntKind.wrap_i64]; omega
  by_cases hc : v.wx ≤ (x : Int) + 7
  · rw [if_pos hc]
    have CO := hid (pcol18 v h ((x : Int) + 7 - v.wx) n w hv (by omega) (by omega) n0 n1)
    generalize celP v h ((x : Int) + 7 - v.wx) n = c at *
    have g1 : ¬ ((x : Int) + 7 - v.wx < 0) := by omega
    have e3 : IntKind.u8.wrap ((x : Int) + 7 - v.wx) = (x : Int) + 7 - v.wx := by rw [IntKind.wrap_u8]; omega
    clear hv hH hY
    obtain ⟨ctl, scy, scx, wy, wx, bgp, o0, o1, va, vc, vz, oa, oc, oz⟩ := v
    simp only [vdV, vdC] at *
    obtain ⟨vn, hvn⟩ : ∃ n, vz.length = n := ⟨_, rfl⟩
    obtain ⟨on, hon⟩ : ∃ n, oz.length = n := ⟨_, rfl⟩
    rw [hvn, hon] at CO hB
    clear hvn hon
    obtain ⟨d0, d1, d2, d3, d4, d5, d6, d7, d8, d9⟩ := ten18 hB
    go_enter Try.func19, Try.ntmps19
    go_wp2_with fail
    refine CO.out.mono ?_
    rintro e u ⟨rfl, k⟩
    have K1 := hid k
    clear k
    go_wp2
    go_ret
    exact ⟨rfl, K1.out⟩
  · rw [if_neg hc]
    have g1 : (x : Int) + 7 - v.wx < 0 := by omega
    clear hv hH hY
    obtain ⟨ctl, scy, scx, wy, wx, bgp, o0, o1, va, vc, vz, oa, oc, oz⟩ := v
    simp only [vdV, vdC] at *
    obtain ⟨vn, hvn⟩ : ∃ n, vz.length = n := ⟨_, rfl⟩
    obtain ⟨on, hon⟩ : ∃ n, oz.length = n := ⟨_, rfl⟩
    rw [hvn, hon] at hB
    clear hvn hon
    obtain ⟨d0, d1, d2, d3, d4, d5, d6, d7, d8, d9⟩ := ten18 hB
    go_enter Try.func19, Try.ntmps19
    go_wp2
    go_ret
    exact ⟨rfl, Kept.refl w⟩
set_option maxRecDepth 100000 in
set_option maxHeartbeats 4000000 in
theorem pgro18 (v : Vd) (y : Int) (w : World) (hv : VdIn w v) :
    Calls Try.prog 10 #[vdV v, .int .u8 y] w fun e w' => (∃ bv bh by_, e = .returned (.func (.func 17) #[] #[.pointer (some ⟨bv, 0, none⟩), .pointer (some ⟨bh, 0, none⟩), .pointer (some ⟨by_, 0, none⟩)]) ∧ w.heap.size ≤ bv ∧ w.heap.size ≤ bh ∧ w.heap.size ≤ by_ ∧ Blk w' bv 24 (vdC v) ∧ Blk w' bh 4 [.bool (bitOf v.ctl 3)] ∧ Blk w' by_ 5 [.int .u8 y]) ∧ Kept w w' := by
  have BI := hid (fun u => bit_any v.ctl 3 u hv.c0 hv.c1)
  generalize bitOf v.ctl 3 = hb at *
  clear hv
  obtain ⟨ctl, scy, scx, wy, wx, bgp, o0, o1, va, vc, vz, oa, oc, oz⟩ := v
  simp only [vdV, vdC] at *
  obtain ⟨vn, hvn⟩ : ∃ n, vz.length = n := ⟨_, rfl⟩
  obtain ⟨on, hon⟩ : ∃ n, oz.length = n := ⟨_, rfl⟩
  rw [hvn, hon]
  clear hvn hon
  have KW := hid ((((Kept.refl w).alloc (.cells #[.int .u8 ctl, .int .u8 scy, .int .u8 scx, .int .u8 wy, .int .u8 wx, .int .u8 bgp, .int .u8 o0, .int .u8 o1, .slice va vn vc, .slice oa on oc] 24)).alloc (.cells #[.int .u8 y] 5)).alloc (.cells #[.bool false] 4))
  have X0 : Blk (((w.alloc (.cells #[.int .u8 ctl, .int .u8 scy, .int .u8 scx, .int .u8 wy, .int .u8 wx, .int .u8 bgp, .int .u8 o0, .int .u8 o1, .slice va vn vc, .slice oa on oc] 24)).alloc (.cells #[.int .u8 y] 5)).alloc (.cells #[.bool false] 4)) w.heap.size 24 [.int .u8 ctl, .int .u8 scy, .int .u8 scx, .int .u8 wy, .int .u8 wx, .int .u8 bgp, .int .u8 o0, .int .u8 o1, .slice va vn vc, .slice oa on oc] := blk_past (blk_past (blk_new w [.int .u8 ctl, .int .u8 scy, .int .u8 scx, .int .u8 wy, .int .u8 wx, .int .u8 bgp, .int .u8 o0, .int .u8 o1, .slice va vn vc, .slice oa on oc] 24) _) _
  have X1 : Blk (((w.alloc (.cells #[.int .u8 ctl, .int .u8 scy, .int .u8 scx, .int .u8 wy, .int .u8 wx, .int .u8 bgp, .int .u8 o0, .int .u8 o1, .slice va vn vc, .slice oa on oc] 24)).alloc (.cells #[.int .u8 y] 5)).alloc (.cells #[.bool false] 4)) (w.heap.size + 1) 5 [.int .u8 y] := by have q := blk_new (w.alloc (.cells #[.int .u8 ctl, .int .u8 scy, .int .u8 scx, .int .u8 wy, .int .u8 wx, .int .u8 bgp, .int .u8 o0, .int .u8 o1, .slice va vn vc, .slice oa on oc] 24)) [.int .u8 y] 5; rw [World.size_alloc] at q; exact blk_past q _
  have X2 : Blk (((w.alloc (.cells #[.int .u8 ctl, .int .u8 scy, .int .u8 scx, .int .u8 wy, .int .u8 wx, .int .u8 bgp, .int .u8 o0, .int .u8 o1, .slice va vn vc, .slice oa on oc] 24)).alloc (.cells #[.int .u8 y] 5)).alloc (.cells #[.bool false] 4)) (w.heap.size + 1 + 1) 4 [.bool false] := by have q := blk_new ((w.alloc (.cells #[.int .u8 ctl, .int .u8 scy, .int .u8 scx, .int .u8 wy, .int .u8 wx, .int .u8 bgp, .int .u8 o0, .int .u8 o1, .slice va vn vc, .slice oa on oc] 24)).alloc (.cells #[.int .u8 y] 5)) [.bool false] 4; rw [World.size_alloc, World.size_alloc] at q; exact q
  have Y0 := hid X0
  have Y1 := hid X1
  have Y2 := hid X2
  clear X0 X1 X2
  go_enter Try.func10, Try.ntmps10
  go_wp2_with fail
  refine (BI.out _).mono ?_
  rintro e u ⟨rfl, rfl⟩
  go_wp2_with ((with_reducible refine at_st 4 ?_); refine wl_store rfl rfl rfl rfl Y2.out (by kernel_rfl) rfl (Nat.le_refl 1) (fun v2 p2 => ?_); have B2 := hid (show Blk v2 (w.heap.size + 1 + 1) 4 [.bool hb] from p2.blk); have A0 := hid (p2.other _ _ _ (by omega) Y0.out); have A1 := hid (p2.other _ _ _ (by omega) Y1.out); have K2 := hid (p2.kept _ KW.out (by omega)); clear p2)
  go_ret
  exact ⟨⟨w.heap.size, w.heap.size + 1 + 1, w.heap.size + 1, rfl, by omega, by omega, by omega, A0.out, B2.out, A1.out⟩, K2.out⟩
set_option maxRecDepth 100000 in
set_option maxHeartbeats 4000000 in
theorem pwid18 (v : Vd) (y : Int) (w : World) (hv : VdIn w v) :
    Calls Try.prog 12 #[vdV v, .int .u8 y] w fun e w' => (∃ bv bh by_, e = .returned (.func (.func 19) #[] #[.pointer (some ⟨bv, 0, none⟩), .pointer (some ⟨bh, 0, none⟩), .pointer (some ⟨by_, 0, none⟩)]) ∧ w.heap.size ≤ bv ∧ w.heap.size ≤ bh ∧ w.heap.size ≤ by_ ∧ Blk w' bv 24 (vdC v) ∧ Blk w' bh 4 [.bool (bitOf v.ctl 6)] ∧ Blk w' by_ 5 [.int .u8 y]) ∧ Kept w w' := by
  have BI := hid (fun u => bit_any v.ctl 6 u hv.c0 hv.c1)
  generalize bitOf v.ctl 6 = hb at *
  clear hv
  obtain ⟨ctl, scy, scx, wy, wx, bgp, o0, o1, va, vc, vz, oa, oc, oz⟩ := v
  simp only [vdV, vdC] at *
  obtain ⟨vn, hvn⟩ : ∃ n, vz.length = n := ⟨_, rfl⟩
  obtain ⟨on, hon⟩ : ∃ n, oz.length = n := ⟨_, rfl⟩
  rw [hvn, hon]
  clear hvn hon
  have KW := hid ((((Kept.refl w).alloc (.cells #[.int .u8 ctl, .int .u8 scy, .int .u8 scx, .int .u8 wy, .int .u8 wx, .int .u8 bgp, .int .u8 o0, .int .u8 o1, .slice va vn vc, .slice oa on oc] 24)).alloc (.cells #[.int .u8 y] 5)).alloc (.cells #[.bool false] 4))
  have X0 : Blk (((w.alloc (.cells #[.int .u8 ctl, .int .u8 scy, .int .u8 scx, .int .u8 wy, .int .u8 wx, .int .u8 bgp, .int .u8 o0, .int .u8 o1, .slice va vn vc, .slice oa on oc] 24)).alloc (.cells #[.int .u8 y] 5)).alloc (.cells #[.bool false] 4)) w.heap.size 24 [.int .u8 ctl, .int .u8 scy, .int .u8 scx, .int .u8 wy, .int .u8 wx, .int .u8 bgp, .int .u8 o0, .int .u8 o1, .slice va vn vc, .slice oa on oc] := blk_past (blk_past (blk_new w [.int .u8 ctl, .int .u8 scy, .int .u8 scx, .int .u8 wy, .int .u8 wx, .int .u8 bgp, .int .u8 o0, .int .u8 o1, .slice va vn vc, .slice oa on oc] 24) _) _
  have X1 : Blk (((w.alloc (.cells #[.int .u8 ctl, .int .u8 scy, .int .u8 scx, .int .u8 wy, .int .u8 wx, .int .u8 bgp, .int .u8 o0, .int .u8 o1, .slice va vn vc, .slice oa on oc] 24)).alloc (.cells #[.int .u8 y] 5)).alloc (.cells #[.bool false] 4)) (w.heap.size + 1) 5 [.int .u8 y] := by have q := blk_new (w.alloc (.cells #[.int .u8 ctl, .int .u8 scy, .int .u8 scx, .int .u8 wy, .int .u8 wx, .int .u8 bgp, .int .u8 o0, .int .u8 o1, .slice va vn vc, .slice oa on oc] 24)) [.int .u8 y] 5; rw [World.size_alloc] at q; exact blk_past q _
  have X2 : Blk (((w.alloc (.cells #[.int .u8 ctl, .int .u8 scy, .int .u8 scx, .int .u8 wy, .int .u8 wx, .int .u8 bgp, .int .u8 o0, .int .u8 o1, .slice va vn vc, .slice oa on oc] 24)).alloc (.cells #[.int .u8 y] 5)).alloc (.cells #[.bool false] 4)) (w.heap.size + 1 + 1) 4 [.bool false] := by have q := blk_new ((w.alloc (.cells #[.int .u8 ctl, .int .u8 scy, .int .u8 scx, .int .u8 wy, .int .u8 wx, .int .u8 bgp, .int .u8 o0, .int .u8 o1, .slice va vn vc, .slice oa on oc] 24)).alloc (.cells #[.int .u8 y] 5)) [.bool false] 4; rw [World.size_alloc, World.size_alloc] at q; exact q
  have Y0 := hid X0
  have Y1 := hid X1
  have Y2 := hid X2
  clear X0 X1 X2
  go_enter Try.func12, Try.ntmps12
  go_wp2_with fail
  refine (BI.out _).mono ?_
  rintro e u ⟨rfl, rfl⟩
  go_wp2_with ((with_reducible refine at_st 4 ?_); refine wl_store rfl rfl rfl rfl Y2.out (by kernel_rfl) rfl (Nat.le_refl 1) (fun v2 p2 => ?_); have B2 := hid (show Blk v2 (w.heap.size + 1 + 1) 4 [.bool hb] from p2.blk); have A0 := hid (p2.other _ _ _ (by omega) Y0.out); have A1 := hid (p2.other _ _ _ (by omega) Y1.out); have K2 := hid (p2.kept _ KW.out (by omega)); clear p2)
  go_ret
  exact ⟨⟨w.heap.size, w.heap.size + 1 + 1, w.heap.size + 1, rfl, by omega, by omega, by omega, A0.out, B2.out, A1.out⟩, K2.out⟩
end Go.Proofs.Ytecgpdjgbdobbab
