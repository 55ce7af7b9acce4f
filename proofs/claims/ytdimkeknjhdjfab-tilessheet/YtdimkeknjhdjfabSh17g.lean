/- A sheet is made. -/
import Derived.Test.YtdimkeknjhdjfabSh17f
namespace Go.Proofs.Ytdimkeknjhdjfab
open Go.RowKit
set_option linter.unusedVariables false
set_option linter.unusedSimpArgs false

theorem wp_app17 {w : World} {o : Oper} {a : Act} {K : Act → World → Prop} {Q : Exit → Act → World → Prop} {s x : Operand} {base : Nat} {v : Value} {L : List Int} {ax : Option Addr} {cap lz : Nat} {z : List Int}
    (own : w.ownsRow base 5 1 v L.length (L.map (Value.int .u8))) (sl : Sl w ax cap z) (ho : o.op = .call { callee := .builtin .append, args := #[s, x], argTypes := #[22, 22] })
    (hs : a.eval s = v) (hx : a.eval x = .slice ax lz cap) (hlz : lz = z.length) (hb : base ≤ w.heap.size) (hm : L.length + z.length ≤ 140737488355328)
    (h : ∀ v' u, u.ownsRow base 5 1 v' (L ++ z).length ((L ++ z).map (Value.int .u8)) → w.grownBy u v.ownBlock → K (a.put o.dst v') u) : o.wp Try.prog a w K Q := by
  obtain ⟨i0, hi, hz0, hz1, hz2⟩ := info_parts info10_u8
  subst hlz
  cases ax with
  | none =>
    obtain rfl : cap = 0 := sl.nil rfl
    have z0 := sl.len
    obtain rfl : z = [] := List.eq_nil_of_length_eq_zero (by omega)
    have hrun := run_append_owned_none (P := Try.prog) (w := w) base 22 o.type 5 i0 1 Try.underlying22 hi v _ _ own
    have q := h v w (by rw [List.append_nil]; exact own) ⟨rfl, rfl, rfl, Nat.le_refl _, fun _ _ _ => rfl⟩
    have hx' : a.eval x = .slice none 0 0 := hx
    unfold Oper.wp
    simp [execOp, ho, resolve, invoke, builtin, hs, hx', hrun, Result.andThen]
    exact q
  | some y =>
    refine wp_append_own _ s x 22 ho base 5 i0 (.int .u8 0) 1 1 Try.underlying22 hi hz0 hz1 hz2 rfl (by decide) v _ _ hs own y z.length cap (z.map (Value.int .u8)) hx (by rw [List.length_map, Nat.mul_one]) (row_news10 sl.row) ?_ ?_ ?_ hb ?_
    · intro u hu; obtain ⟨q, _, rfl⟩ := List.mem_map.1 hu; rfl
    · unfold maxLen; omega
    · omega
    · intro v' u h1 h2 _
      refine h v' u ?_ h2
      rw [List.length_append, List.map_append]
      exact h1
theorem own_nil17 (w : World) (base : Nat) : w.ownsRow base 5 1 (.slice none 0 0) ([] : List Int).length (([] : List Int).map (Value.int .u8)) := ⟨rfl, .inl ⟨rfl, rfl⟩⟩
set_option maxRecDepth 100000 in
set_option maxHeartbeats 4000000 in
theorem new17 (a : Option Addr) (cap : Nat) (z : List Int) (w : World) (sl : Sl w a cap z) : Calls Try.prog 4 #[.slice a z.length cap] w fun e w' => ∃ b, e = .returned (.pointer (some ⟨b, 0, none⟩)) ∧ SheetAt w' w.heap.size b (z.take 6144) 0 ∧ Kept w w' := by
  obtain ⟨Z, hZ⟩ : ∃ Z, (shL false (.slice none 0 0) 0 0 0 pix0 0).toArray = Z := ⟨_, rfl⟩
  have hz0 : ∀ u, (zeroValue 50).run Try.prog u = .ok (.agg Z) u := fun u => by rw [← hZ]; exact zero17 u
  have hz1 : ¬ Z = #[] := by rw [← hZ]; intro q; have := congrArg Array.size q; rw [List.size_toArray, shL_len pix0_len] at this; simp at this
  have hz2 : Z.setIfInBounds 0 (.bool true) = (shL true (.slice none 0 0) 0 0 0 pix0 0).toArray := by rw [← hZ]; simp [shL]
  clear hZ
  have BN := hid (blk_new w (shL true (.slice none 0 0) 0 0 0 pix0 0) 50)
  have KN := hid ((Kept.refl w).alloc (.cells (shL true (.slice none 0 0) 0 0 0 pix0 0).toArray 50))
  have SN := hid (sl_kept KN.out sl)
  have ZS : Hid ((w.alloc (.cells (shL true (.slice none 0 0) 0 0 0 pix0 0).toArray 50)).heap.size = w.heap.size + 1) := World.size_alloc w _
  have HB8 : Hid (∀ x ∈ z.take 6144, InByte x) := fun x hx => sl.row.2.1 x (List.mem_of_mem_take hx)
  have KL : Hid ((z.take 6144).length ≤ 6144) := by show (z.take 6144).length ≤ 6144; rw [List.length_take]; omega
  have hx1 := sl.len
  have hx2 := sl.max
  have c0 : (w.alloc (.cells (shL true (.slice none 0 0) 0 0 0 pix0 0).toArray 50)).cell? ⟨w.heap.size, 1, none⟩ = some (.slice none 0 0) := blk_cell BN.out 1
  by_cases hz : z.length ≤ 6144
  · have g1 : decide ((z.length : Int) ≤ 6144) = true := decide_eq_true (by omega)
    have m1 : ¬ (6144 : Int) < (z.length : Int) := by omega
    have m2 : (0 : Int) ≤ (z.length : Int) := by omega
    have m3 : (z.length : Int) ≤ (cap : Int) := by omega
    have zt : z.take 6144 = z := List.take_of_length_le hz
    rw [zt] at HB8 KL ⊢
    clear sl zt
    go_enter Try.func4, Try.ntmps4
    go_wp2_with fail
    refine wp_region_held_drew (S := (fun w' => True)) (by kernel_rfl) trivial (fun hHeld => ?_)
    refine wpAnyH_take (i := 0) (v := ?_) rfl (by kernel_rfl) (by kernel_rfl) (by kernel_rfl) (fun _ _ _ h => h) (Or.inl ⟨by rfl, ?_⟩) (by assumption) ?_
    rotate_left
    · intro w hSw
      (try dsimp only at hSw)
      go_simp
      try with_reducible rfl
    simp only [Act.put, List.getElem_toArray, List.getElem_cons_succ, List.getElem_cons_zero, List.setIfInBounds_toArray, List.set_cons_zero, List.set_cons_succ]
    refine wpAnyH_take (i := 1) (v := ?_) rfl (by kernel_rfl) (by kernel_rfl) (by kernel_rfl) (fun _ _ _ h => h) (Or.inl ⟨by rfl, ?_⟩) (by assumption) ?_
    rotate_left
    · intro w hSw
      (try dsimp only at hSw)
      go_simp
      try with_reducible rfl
    simp only [Act.put, List.getElem_toArray, List.getElem_cons_succ, List.getElem_cons_zero, List.setIfInBounds_toArray, List.set_cons_zero, List.set_cons_succ]
    refine wpAnyH_take (i := 2) (v := ?_) rfl (by kernel_rfl) (by kernel_rfl) (by kernel_rfl) (fun _ _ _ h => h) (Or.inl ⟨by rfl, ?_⟩) (by assumption) ?_
    rotate_left
    · intro w hSw
      (try dsimp only at hSw)
      go_simp
      try with_reducible rfl
    simp only [Act.put, List.getElem_toArray, List.getElem_cons_succ, List.getElem_cons_zero, List.setIfInBounds_toArray, List.set_cons_zero, List.set_cons_succ]
    refine wpAnyH_take (i := 3) (v := ?_) rfl (by kernel_rfl) (by kernel_rfl) (by kernel_rfl) (fun _ _ _ h => h) (Or.inl ⟨by rfl, ?_⟩) (by assumption) ?_
    rotate_left
    · intro w hSw
      (try dsimp only at hSw)
      go_simp
      try with_reducible rfl
    simp only [Act.put, List.getElem_toArray, List.getElem_cons_succ, List.getElem_cons_zero, List.setIfInBounds_toArray, List.set_cons_zero, List.set_cons_succ]
    refine wpAnyH_take (i := 5) (v := ?_) rfl (by kernel_rfl) (by kernel_rfl) (by kernel_rfl) (fun _ _ _ h => h) (Or.inl ⟨by rfl, ?_⟩) (by assumption) ?_
    rotate_left
    · intro w hSw
      (try dsimp only at hSw)
      go_simp
      try with_reducible rfl
    simp only [Act.put, List.getElem_toArray, List.getElem_cons_succ, List.getElem_cons_zero, List.setIfInBounds_toArray, List.set_cons_zero, List.set_cons_succ]
    refine wpAnyH_take (i := 6) (v := ?_) rfl (by kernel_rfl) (by kernel_rfl) (by kernel_rfl) (fun _ _ _ h => h) (Or.inl ⟨by rfl, ?_⟩) (by assumption) ?_
    rotate_left
    · intro w hSw
      (try dsimp only at hSw)
      go_simp
      try with_reducible rfl
    simp only [Act.put, List.getElem_toArray, List.getElem_cons_succ, List.getElem_cons_zero, List.setIfInBounds_toArray, List.set_cons_zero, List.set_cons_succ]
    refine wpAnyH_take (i := 7) (v := ?_) rfl (by kernel_rfl) (by kernel_rfl) (by kernel_rfl) (fun _ _ _ h => h) (Or.inl ⟨by rfl, ?_⟩) (by assumption) ?_
    rotate_left
    · intro w hSw
      (try dsimp only at hSw)
      go_simp
      try with_reducible rfl
    simp only [Act.put, List.getElem_toArray, List.getElem_cons_succ, List.getElem_cons_zero, List.setIfInBounds_toArray, List.set_cons_zero, List.set_cons_succ]
    refine wpAnyH_take (i := 8) (v := ?_) rfl (by kernel_rfl) (by kernel_rfl) (by kernel_rfl) (fun _ _ _ h => h) (Or.inl ⟨by rfl, ?_⟩) (by assumption) ?_
    rotate_left
    · intro w hSw
      (try dsimp only at hSw)
      go_simp
      rw [if_neg (by omega)]
    simp only [Act.put, List.getElem_toArray, List.getElem_cons_succ, List.getElem_cons_zero, List.setIfInBounds_toArray, List.set_cons_zero, List.set_cons_succ]
    refine wpAnyH_take (i := 9) (v := ?_) rfl (by kernel_rfl) (by kernel_rfl) (by kernel_rfl) (fun _ _ _ h => h) (Or.inl ⟨by rfl, ?_⟩) (by assumption) ?_
    rotate_left
    · intro w hSw
      (try dsimp only at hSw)
      go_simp
      try with_reducible rfl
    simp only [Act.put, List.getElem_toArray, List.getElem_cons_succ, List.getElem_cons_zero, List.setIfInBounds_toArray, List.set_cons_zero, List.set_cons_succ]
    refine wpAnyH_ready (rs := [4]) (by kernel_rfl) (by simp) ?_
    refine AllReadyH.cons rfl (fun K hK => ?_) AllReadyH.nil
    go_simp
    refine hK.out _ _ trivial (fun hHeld => ?_)
    clear hK K
    try simp only [Act.put, List.getElem_toArray, List.getElem_cons_succ, List.getElem_cons_zero, List.setIfInBounds_toArray, List.set_cons_zero, List.set_cons_succ]
    refine wpAnyH_ready (rs := [10]) (by kernel_rfl) (by simp) ?_
    refine AllReadyH.cons rfl (fun K hK => ?_) AllReadyH.nil
    refine wp_app17 (L := []) (base := w.heap.size + 1) (z := z) (own_nil17 _ _) (sl_kept (Kept.refl _).drew SN.out) rfl rfl rfl rfl (by show w.heap.size + 1 ≤ (World.heap _).size; exact Nat.le_of_eq ZS.out.symm) (by show 0 + _ ≤ _; have := KL.out; omega) (fun v1 y1 o1 g1 => ?_)
    obtain ⟨a1, cap1, rfl, s1, nw1⟩ := own_sl o1 (by rw [List.nil_append]; exact HB8.out)
    rw [List.nil_append] at s1
    have B1 : Blk y1 w.heap.size 50 (shL true (.slice none 0 0) 0 0 0 pix0 0) := blk_by g1 (blk_drew BN.out) (by intro q; cases q)
    have K1 := hid ((KN.out.drew).by g1 (fun k h => by cases h))
    have c1 : y1.cell? ⟨w.heap.size, 1, none⟩ = some (.slice none 0 0) := blk_cell B1 1
    clear g1 o1
    refine hK.out _ _ trivial (fun hHeld => ?_)
    clear hK K
    try simp only [Act.put, List.getElem_toArray, List.getElem_cons_succ, List.getElem_cons_zero, List.setIfInBounds_toArray, List.set_cons_zero, List.set_cons_succ]
    refine wpAnyH_take (i := 11) (v := ?_) rfl (by kernel_rfl) (by kernel_rfl) (by kernel_rfl) (fun _ _ _ h => h) (Or.inl ⟨by rfl, ?_⟩) (by assumption) ?_
    rotate_left
    · intro w hSw
      (try dsimp only at hSw)
      go_simp
      try with_reducible rfl
    simp only [Act.put, List.getElem_toArray, List.getElem_cons_succ, List.getElem_cons_zero, List.setIfInBounds_toArray, List.set_cons_zero, List.set_cons_succ]
    refine wpAnyH_take (i := 12) (v := ?_) rfl (by kernel_rfl) (by kernel_rfl) (by kernel_rfl) (fun _ _ _ h => h) (Or.inl ⟨by rfl, ?_⟩) (by assumption) ?_
    rotate_left
    · intro w hSw
      (try dsimp only at hSw)
      go_simp
      try with_reducible rfl
    simp only [Act.put, List.getElem_toArray, List.getElem_cons_succ, List.getElem_cons_zero, List.setIfInBounds_toArray, List.set_cons_zero, List.set_cons_succ]
    refine wpAnyH_ready (rs := [13]) (by kernel_rfl) (by simp) ?_
    refine AllReadyH.cons rfl (fun K hK => ?_) AllReadyH.nil
    refine wp_st17 B1 rfl rfl rfl (by kernel_rfl) rfl (by rw [shL_len pix0_len]; exact Nat.le_of_ble_eq_true rfl) (fun y2 p2 => ?_)
    have B2 : Blk y2 w.heap.size 50 (shL true (.slice a1 (z).length cap1) 0 0 0 pix0 0) := p2.blk
    have R2 : Row y2 a1 z := p2.row _ _ s1.row (fun x hx => by have := nw1 x hx; omega)
    have K2 := hid (p2.kept _ K1.out (Nat.le_refl _))
    have N2 : SheetAt y2 w.heap.size w.heap.size (z) 0 := .inl ⟨a1, cap1, B2, R2, fun x hx => ⟨by have := nw1 x hx; omega, by have := nw1 x hx; omega⟩, Nat.le_refl _⟩
    refine hK.out _ _ trivial (fun hHeld => ?_)
    clear hK K
    try simp only [Act.put, List.getElem_toArray, List.getElem_cons_succ, List.getElem_cons_zero, List.setIfInBounds_toArray, List.set_cons_zero, List.set_cons_succ]
    refine wpAnyH_done (by kernel_rfl) ?_ _
    go_wp2
    go_ret
    exact ⟨_, rfl, N2, K2.out⟩
  · have g1 : decide ((z.length : Int) ≤ 6144) = false := decide_eq_false (by omega)
    have m1 : (6144 : Int) < (z.length : Int) := by omega
    have m3 : (6144 : Int) ≤ (cap : Int) := by omega
    have m4 : 6144 ≤ cap := by omega
    have HT : Hid (6144 = (z.take 6144).length) := by show 6144 = (z.take 6144).length; rw [List.length_take]; omega
    have SM : Hid (Sl (w.alloc (.cells (shL true (.slice none 0 0) 0 0 0 pix0 0).toArray 50)) a cap (z.take 6144)) := ⟨row_take 6144 SN.out.row, by have := HT.out; omega, SN.out.max, SN.out.nil⟩
    generalize z.take 6144 = zt at *
    clear sl
    go_enter Try.func4, Try.ntmps4
    go_wp2_with fail
    refine wp_region_held_drew (S := (fun w' => True)) (by kernel_rfl) trivial (fun hHeld => ?_)
    refine wpAnyH_take (i := 0) (v := ?_) rfl (by kernel_rfl) (by kernel_rfl) (by kernel_rfl) (fun _ _ _ h => h) (Or.inl ⟨by rfl, ?_⟩) (by assumption) ?_
    rotate_left
    · intro w hSw
      (try dsimp only at hSw)
      go_simp
      try with_reducible rfl
    simp only [Act.put, List.getElem_toArray, List.getElem_cons_succ, List.getElem_cons_zero, List.setIfInBounds_toArray, List.set_cons_zero, List.set_cons_succ]
    refine wpAnyH_take (i := 1) (v := ?_) rfl (by kernel_rfl) (by kernel_rfl) (by kernel_rfl) (fun _ _ _ h => h) (Or.inl ⟨by rfl, ?_⟩) (by assumption) ?_
    rotate_left
    · intro w hSw
      (try dsimp only at hSw)
      go_simp
      try with_reducible rfl
    simp only [Act.put, List.getElem_toArray, List.getElem_cons_succ, List.getElem_cons_zero, List.setIfInBounds_toArray, List.set_cons_zero, List.set_cons_succ]
    refine wpAnyH_take (i := 2) (v := ?_) rfl (by kernel_rfl) (by kernel_rfl) (by kernel_rfl) (fun _ _ _ h => h) (Or.inl ⟨by rfl, ?_⟩) (by assumption) ?_
    rotate_left
    · intro w hSw
      (try dsimp only at hSw)
      go_simp
      try with_reducible rfl
    simp only [Act.put, List.getElem_toArray, List.getElem_cons_succ, List.getElem_cons_zero, List.setIfInBounds_toArray, List.set_cons_zero, List.set_cons_succ]
    refine wpAnyH_take (i := 3) (v := ?_) rfl (by kernel_rfl) (by kernel_rfl) (by kernel_rfl) (fun _ _ _ h => h) (Or.inl ⟨by rfl, ?_⟩) (by assumption) ?_
    rotate_left
    · intro w hSw
      (try dsimp only at hSw)
      go_simp
      try with_reducible rfl
    simp only [Act.put, List.getElem_toArray, List.getElem_cons_succ, List.getElem_cons_zero, List.setIfInBounds_toArray, List.set_cons_zero, List.set_cons_succ]
    refine wpAnyH_take (i := 5) (v := ?_) rfl (by kernel_rfl) (by kernel_rfl) (by kernel_rfl) (fun _ _ _ h => h) (Or.inl ⟨by rfl, ?_⟩) (by assumption) ?_
    rotate_left
    · intro w hSw
      (try dsimp only at hSw)
      go_simp
      try with_reducible rfl
    simp only [Act.put, List.getElem_toArray, List.getElem_cons_succ, List.getElem_cons_zero, List.setIfInBounds_toArray, List.set_cons_zero, List.set_cons_succ]
    refine wpAnyH_take (i := 6) (v := ?_) rfl (by kernel_rfl) (by kernel_rfl) (by kernel_rfl) (fun _ _ _ h => h) (Or.inl ⟨by rfl, ?_⟩) (by assumption) ?_
    rotate_left
    · intro w hSw
      (try dsimp only at hSw)
      go_simp
      try with_reducible rfl
    simp only [Act.put, List.getElem_toArray, List.getElem_cons_succ, List.getElem_cons_zero, List.setIfInBounds_toArray, List.set_cons_zero, List.set_cons_succ]
    refine wpAnyH_take (i := 7) (v := ?_) rfl (by kernel_rfl) (by kernel_rfl) (by kernel_rfl) (fun _ _ _ h => h) (Or.inl ⟨by rfl, ?_⟩) (by assumption) ?_
    rotate_left
    · intro w hSw
      (try dsimp only at hSw)
      go_simp
      try with_reducible rfl
    simp only [Act.put, List.getElem_toArray, List.getElem_cons_succ, List.getElem_cons_zero, List.setIfInBounds_toArray, List.set_cons_zero, List.set_cons_succ]
    refine wpAnyH_take (i := 8) (v := ?_) rfl (by kernel_rfl) (by kernel_rfl) (by kernel_rfl) (fun _ _ _ h => h) (Or.inl ⟨by rfl, ?_⟩) (by assumption) ?_
    rotate_left
    · intro w hSw
      (try dsimp only at hSw)
      go_simp
      try with_reducible rfl
    simp only [Act.put, List.getElem_toArray, List.getElem_cons_succ, List.getElem_cons_zero, List.setIfInBounds_toArray, List.set_cons_zero, List.set_cons_succ]
    refine wpAnyH_take (i := 9) (v := ?_) rfl (by kernel_rfl) (by kernel_rfl) (by kernel_rfl) (fun _ _ _ h => h) (Or.inl ⟨by rfl, ?_⟩) (by assumption) ?_
    rotate_left
    · intro w hSw
      (try dsimp only at hSw)
      go_simp
      try with_reducible rfl
    simp only [Act.put, List.getElem_toArray, List.getElem_cons_succ, List.getElem_cons_zero, List.setIfInBounds_toArray, List.set_cons_zero, List.set_cons_succ]
    refine wpAnyH_ready (rs := [4]) (by kernel_rfl) (by simp) ?_
    refine AllReadyH.cons rfl (fun K hK => ?_) AllReadyH.nil
    go_simp
    refine hK.out _ _ trivial (fun hHeld => ?_)
    clear hK K
    try simp only [Act.put, List.getElem_toArray, List.getElem_cons_succ, List.getElem_cons_zero, List.setIfInBounds_toArray, List.set_cons_zero, List.set_cons_succ]
    refine wpAnyH_ready (rs := [10]) (by kernel_rfl) (by simp) ?_
    refine AllReadyH.cons rfl (fun K hK => ?_) AllReadyH.nil
    refine wp_app17 (L := []) (base := w.heap.size + 1) (z := zt) (own_nil17 _ _) (sl_kept (Kept.refl _).drew SM.out) rfl rfl rfl HT.out (by show w.heap.size + 1 ≤ (World.heap _).size; exact Nat.le_of_eq ZS.out.symm) (by show 0 + _ ≤ _; have := KL.out; omega) (fun v1 y1 o1 g1 => ?_)
    obtain ⟨a1, cap1, rfl, s1, nw1⟩ := own_sl o1 (by rw [List.nil_append]; exact HB8.out)
    rw [List.nil_append] at s1
    have B1 : Blk y1 w.heap.size 50 (shL true (.slice none 0 0) 0 0 0 pix0 0) := blk_by g1 (blk_drew BN.out) (by intro q; cases q)
    have K1 := hid ((KN.out.drew).by g1 (fun k h => by cases h))
    have c1 : y1.cell? ⟨w.heap.size, 1, none⟩ = some (.slice none 0 0) := blk_cell B1 1
    clear g1 o1
    refine hK.out _ _ trivial (fun hHeld => ?_)
    clear hK K
    try simp only [Act.put, List.getElem_toArray, List.getElem_cons_succ, List.getElem_cons_zero, List.setIfInBounds_toArray, List.set_cons_zero, List.set_cons_succ]
    refine wpAnyH_take (i := 11) (v := ?_) rfl (by kernel_rfl) (by kernel_rfl) (by kernel_rfl) (fun _ _ _ h => h) (Or.inl ⟨by rfl, ?_⟩) (by assumption) ?_
    rotate_left
    · intro w hSw
      (try dsimp only at hSw)
      go_simp
      try with_reducible rfl
    simp only [Act.put, List.getElem_toArray, List.getElem_cons_succ, List.getElem_cons_zero, List.setIfInBounds_toArray, List.set_cons_zero, List.set_cons_succ]
    refine wpAnyH_take (i := 12) (v := ?_) rfl (by kernel_rfl) (by kernel_rfl) (by kernel_rfl) (fun _ _ _ h => h) (Or.inl ⟨by rfl, ?_⟩) (by assumption) ?_
    rotate_left
    · intro w hSw
      (try dsimp only at hSw)
      go_simp
      try with_reducible rfl
    simp only [Act.put, List.getElem_toArray, List.getElem_cons_succ, List.getElem_cons_zero, List.setIfInBounds_toArray, List.set_cons_zero, List.set_cons_succ]
    refine wpAnyH_ready (rs := [13]) (by kernel_rfl) (by simp) ?_
    refine AllReadyH.cons rfl (fun K hK => ?_) AllReadyH.nil
    refine wp_st17 B1 rfl rfl rfl (by kernel_rfl) rfl (by rw [shL_len pix0_len]; exact Nat.le_of_ble_eq_true rfl) (fun y2 p2 => ?_)
    have B2 : Blk y2 w.heap.size 50 (shL true (.slice a1 (zt).length cap1) 0 0 0 pix0 0) := p2.blk
    have R2 : Row y2 a1 zt := p2.row _ _ s1.row (fun x hx => by have := nw1 x hx; omega)
    have K2 := hid (p2.kept _ K1.out (Nat.le_refl _))
    have N2 : SheetAt y2 w.heap.size w.heap.size (zt) 0 := .inl ⟨a1, cap1, B2, R2, fun x hx => ⟨by have := nw1 x hx; omega, by have := nw1 x hx; omega⟩, Nat.le_refl _⟩
    refine hK.out _ _ trivial (fun hHeld => ?_)
    clear hK K
    try simp only [Act.put, List.getElem_toArray, List.getElem_cons_succ, List.getElem_cons_zero, List.setIfInBounds_toArray, List.set_cons_zero, List.set_cons_succ]
    refine wpAnyH_done (by kernel_rfl) ?_ _
    go_wp2
    go_ret
    exact ⟨_, rfl, N2, K2.out⟩
end Go.Proofs.Ytdimkeknjhdjfab
