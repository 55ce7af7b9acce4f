/- Layer 14: IrqAlls, as a walk. -/
import Derived.Test.YtfgkchmnmnmccaaSw14
import Derived.Test.YtfgkchmnmnmccaaRi14
namespace Go.Proofs.Ytfgkchmnmnmccaa
open Go.RowKit Go.Shelf
set_option linter.unusedVariables false
set_option linter.unusedSimpArgs false
attribute [local go_sem] Oper.semAt_some

theorem boxed_kept {W w : World} (k : Kept W w) {B : Nat} {t : TypeId} {v : Value} (h : Boxed W B t v) : Boxed w B t v := (k.block B h.lt).trans h
theorem boxed_below {n : Nat} {W w : World} (k : Below n W w) {B : Nat} {t : TypeId} {v : Value} (h : Boxed W B t v) (hn : B < n) : Boxed w B t v := (k.block B hn).trans h
/-- The cells of a slice of ints. -/
def Cells (n : Nat) (w : World) (a : Option Addr) (L : List Int) : Prop := ∀ j, j < L.length → ∃ g, a = some ⟨g, 0, none⟩ ∧ g < n ∧ w.cell? ⟨g, j, none⟩ = some (.int .i64 (L[j]?.getD 0))
theorem cells_of {w : World} {v : Value} {L : List Int} (h : IsL w v L) : ∃ a cap, v = .slice a L.length cap ∧ Cells w.heap.size w a L := by
  rcases h with ⟨rfl, rfl⟩ | ⟨g, cap, rfl, hg, hc⟩
  · exact ⟨none, 0, rfl, fun j hj => absurd hj (Nat.not_lt_zero _)⟩
  · exact ⟨_, cap, rfl, fun j hj => ⟨g, rfl, hg, hc j hj⟩⟩
theorem cells_below {n : Nat} {W w : World} (k : Below n W w) {a : Option Addr} {L : List Int} (h : Cells n W a L) : Cells n w a L := fun j hj => by
  obtain ⟨g, e, hg, hc⟩ := h j hj
  exact ⟨g, e, hg, (k.cell (p := ⟨g, j, none⟩) hg).trans hc⟩
theorem cells_more {n m : Nat} {w : World} {a : Option Addr} {L : List Int} (h : Cells n w a L) (hm : n ≤ m) : Cells m w a L := fun j hj => by
  obtain ⟨g, e, hg, hc⟩ := h j hj
  exact ⟨g, e, by omega, hc⟩
/-- What has come is the head of what there is. -/
theorem pre_len {pre L : List Int} (h : pre <+: L) : pre.length ≤ L.length := h.length_le
theorem pre_over {pre L : List Int} {x : Int} (h : L.length ≤ pre.length) : ¬ (pre ++ [x] <+: L) := fun q => by
  have := q.length_le
  simp at this
  omega
theorem pre_next {pre L : List Int} {x : Int} (h : pre <+: L) (hl : pre.length < L.length) : (pre ++ [x] <+: L) ↔ L[pre.length]?.getD 0 = x := by
  obtain ⟨r, rfl⟩ := h
  cases r with
  | nil => simp at hl
  | cons y r =>
    simp [List.prefix_append_right_inj, List.cons_prefix_cons]
    exact eq_comm
theorem kept_put {W X : World} (h : Kept W X) {D : Nat} (hD : W.heap.size ≤ D) (o : Obj) : Kept W (X.putObj D o) := h.by (grownBy_putObj' X D o) (fun k e => by cases e; exact hD)
theorem at_gl {n : Nat} {P : Program} {ops : Array Oper} {rest : List Oper} {a : Act} {w : World} {Q : Exit → Act → World → Prop} {d : Option Tmp} {x : Operand} {y t : TypeId} {ps : String} {af : Array Edge} {g : Nat × Bool}
    (h : wpListIn Fence.wide n P ops Q (⟨d, .call { callee := .builtin .len, args := #[x], argTypes := #[y] }, t, ps, af, some g⟩ :: rest) a w) : wpListIn Fence.wide n P ops Q (⟨d, .call { callee := .builtin .len, args := #[x], argTypes := #[y] }, t, ps, af, some g⟩ :: rest) a w := h
theorem skip_wide {n : Nat} {P : Program} {ops : Array Oper} {Q : Exit → Act → World → Prop} {o : Oper} {rest : List Oper} {a : Act} {w : World} (hw : Region.wanted o (yielded ops a.tmps) = false)
    (h : wpListIn Fence.wide n P ops Q rest (a.put o.dst undef) w) : wpListIn Fence.wide n P ops Q (o :: rest) a w := by
  unfold wpListIn
  rw [hw]
  exact ⟨fun _ _ => trivial, h⟩
set_option maxRecDepth 100000 in
set_option maxHeartbeats 4000000 in
theorem alls14 (p most : Int) (w : World) (p0 : 0 ≤ p) (p1 : p ≤ 255) (m0 : 0 ≤ most) (m1 : most ≤ 255) : Calls Try.prog 4 #[.int .u8 p, .int .u8 most] w fun e w' => e = .returned (.bool true) ∧ Kept w w' := by
  have hro : Fence.wide.round = none := rfl
  have S := hid (fun (q : Nat) u => callsIn_wide (n := q).2 (kshown14 u))
  have R := hid (fun (q : Nat) u => callsIn_wide (n := q).2 (rall14 p u p0 p1))
  have HA := hid (fun (q : Nat) u => callsIn_wide (n := q).2 (pall14 p u))
  refine (callsIn_wide (n := 6)).1 ?_
  refine callsIn_of_wp_marks Try.func4 rfl trivial ?_ hro
  simp only [Try.ntmps4, List.size_toArray, List.length_cons, List.length_nil, Nat.reduceAdd, Nat.reduceSub, Array.replicate_succ, Array.replicate_zero, List.push_toArray, List.append_toArray, List.nil_append, List.cons_append]
  gi_wp2_with (refine ⟨trivial, ?_⟩; gi_at_call 9; refine (S.out _ _).mono ?_; rintro e u1 ⟨rfl, k1⟩; refine Hid.out ?_)
  refine hid ?_
  have b0 := boxed_kept k1 ((Boxed.new w 5 (.int .u8 most)).alloc (.cells #[.bool false] 4))
  have b1 := Boxed.new (w.alloc (.cells #[.int .u8 most] 5)) 4 (.bool false)
  rw [World.size_alloc] at b1
  replace b1 := boxed_kept k1 b1
  have K1 := hid ((((Kept.refl w).alloc (.cells #[.int .u8 most] 5)).alloc (.cells #[.bool false] 4)).trans k1)
  clear k1 S
  gi_wp2_with (refine ⟨trivial, ?_⟩; gi_at_call 14; refine (R.out _ _).mono ?_; rintro e u2 ⟨⟨v, rfl, o⟩, k2⟩; refine Hid.out ?_)
  refine hid ?_
  obtain ⟨a, cap, rfl, C0⟩ := cells_of (isL_own o)
  replace b0 := boxed_kept k2 b0
  replace b1 := boxed_kept k2 b1
  have K2 := hid (K1.out.trans k2)
  have sz : w.heap.size + 2 ≤ u2.heap.size := by have := b1.lt; omega
  have LL := allP_len p
  obtain ⟨L, hL⟩ : ∃ L, allP p = L := ⟨_, rfl⟩
  rw [hL] at C0 LL ⊢
  have HL := hid hL
  clear hL
  clear k2 R o K1
  gi_wp2
  have a0 := (b0.alloc (.cells #[.slice a L.length cap] 29)).alloc (.cells #[.int .i64 0] 3)
  have a1 := (b1.alloc (.cells #[.slice a L.length cap] 29)).alloc (.cells #[.int .i64 0] 3)
  have a2 := (Boxed.new u2 29 (.slice a L.length cap)).alloc (.cells #[.int .i64 0] 3)
  have a3 := Boxed.new (u2.alloc (.cells #[.slice a L.length cap] 29)) 3 (.int .i64 0)
  rw [World.size_alloc] at a3
  have aC := cells_more (cells_below (((Below.refl _ u2).alloc (Nat.le_refl _) (.cells #[.slice a L.length cap] 29)).alloc (by simp) (.cells #[.int .i64 0] 3)) C0) (show u2.heap.size ≤ ((u2.alloc (.cells #[.slice a L.length cap] 29)).alloc (.cells #[.int .i64 0] 3)).heap.size by simp; omega)
  have KA := hid ((K2.out.alloc (.cells #[.slice a L.length cap] 29)).alloc (.cells #[.int .i64 0] 3))
  have sA : Hid (((u2.alloc (.cells #[.slice a L.length cap] 29)).alloc (.cells #[.int .i64 0] 3)).heap.size ≥ u2.heap.size + 2) := by simp [Hid]
  obtain ⟨A, hA⟩ : ∃ A, (u2.alloc (.cells #[.slice a L.length cap] 29)).alloc (.cells #[.int .i64 0] 3) = A := ⟨_, rfl⟩
  rw [hA] at a0 a1 a2 a3 aC KA sA ⊢
  clear b0 b1 C0 K2 hA
  refine wpIn_loop_rounds 3 ?_
  rw [roundsIn_succ]
  have c3 := a3.cell
  gi_wp2_with (refine ⟨trivial, ?_⟩; gi_at_call 15; refine (HA.out _ _).mono ?_; rintro e w' ⟨rfl, rfl⟩)
  have bi := (Boxed.new A 3 (.int .i64 0)).alloc (.cells #[.int .u8 p] 5)
  have bp := Boxed.new (A.alloc (.cells #[.int .i64 0] 3)) 5 (.int .u8 p)
  rw [World.size_alloc] at bp
  have hB0 : Below A.heap.size A ((A.alloc (.cells #[.int .i64 0] 3)).alloc (.cells #[.int .u8 p] 5)) := ((Below.refl _ A).alloc (Nat.le_refl _) _).alloc (by simp) _
  refine' wpIn_rangeFunc_ownG hro (by decide) (gf := 28) (lb := #[.pointer (some ⟨A.heap.size + 1, 0, none⟩)]) rfl trivial (enters_of Try.func28 (by kernel_rfl) rfl)
    (pall_stops 5 (by decide) (A.heap.size + 1) p p0 p1 _ (by simp) bp.cell) kpB_t kpB_b (Below.refl _ _) (fun _ => rfl)
    (fun pre W => (pre <+: L ∧ (most = 0 ∨ (pre.length : Int) < most)) ∧ Boxed W A.heap.size 3 (.int .i64 (pre.length : Int)) ∧ Below A.heap.size A W)
    (fun c pre W => (c = .ret ∧ ¬ pre <+: L) ∨ (c = .exit 2 ∧ pre <+: L ∧ 0 < pre.length ∧ (pre.length : Int) = most ∧ Boxed W A.heap.size 3 (.int .i64 (pre.length : Int)) ∧ Below A.heap.size A W))
    (OwnFrom.and (ownFrom_pure _ _) (OwnFrom.and (Own.from (boxed_own _ _ _) _) (ownFrom_below (Nat.le_refl _) (by simp; omega))))
    (fun c s X Y row hs hg hr => by
        rcases hs with h | ⟨q1, q2, q3, q4, q5, q6⟩
        · exact .inl h
        · exact .inr ⟨q1, q2, q3, q4, boxed_by q5 hg hr, ownFrom_below (β := Unit) (Nat.le_refl _) (by simp; omega) () X Y row q6 hg hr⟩)
    ⟨⟨List.nil_prefix, by show most = 0 ∨ (0 : Int) < most; omega⟩, bi, hB0⟩
    _ ?assign ?body ?done ?stop
  case assign =>
    intro l x W K hK
    gi_wp2
    exact hK
  case body =>
    rintro l pre x W ⟨⟨hp, hc⟩, hb, hB⟩ _
    have d0 := (boxed_below hB a0 a0.lt).cell
    have d1 := (boxed_below hB a1 a1.lt).cell
    have z1 := (boxed_below hB a1 a1.lt).frozen
    have d2 := (boxed_below hB a2 a2.lt).cell
    have d3 := (boxed_below hB a3 a3.lt).cell
    have di := hb.cell
    have zi := hb.frozen
    have CC := cells_below hB aC
    clear c3 bi bp hB0 HA KA aC
    by_cases h1 : L.length ≤ pre.length
    · have q1 : decide ((L.length : Int) ≤ (pre.length : Int)) = true := decide_eq_true (by omega)
      have q2 : decide (L.length ≤ pre.length) = true := decide_eq_true h1
      have NO : ¬ (pre ++ [x] <+: L) := pre_over h1
      gi_wp2
      exact ⟨(KeepsOthers.setCell _ _ _).from _, .inl ⟨rfl, NO⟩⟩
    · have q1 : decide ((L.length : Int) ≤ (pre.length : Int)) = false := decide_eq_false (by omega)
      have q1b : decide (L.length ≤ pre.length) = false := decide_eq_false h1
      have q4 : IntKind.i64.wrap ((pre.length : Int) + 1) = (pre.length : Int) + 1 := by rw [IntKind.wrap_i64]; omega
      have q5 : pre.length < L.length := by omega
      obtain ⟨g, rfl, hg, cg⟩ := CC pre.length (by omega)
      have PN := pre_next (x := x) hp (by omega)
      clear CC
      generalize L[pre.length]?.getD 0 = y at cg PN
      have s0 := ((boxed_below hB a0 a0.lt).other (B' := A.heap.size) (Nat.ne_of_lt a0.lt) (.int .i64 ((pre.length : Int) + 1))).cell
      have s3 := ((boxed_below hB a3 a3.lt).other (B' := A.heap.size) (Nat.ne_of_lt a3.lt) (.int .i64 ((pre.length : Int) + 1))).cell
      have si := (hb.set (.int .i64 ((pre.length : Int) + 1))).cell
      by_cases h2 : y = x
      · have pn := PN.2 h2
        have q2 : (y != x) = false := by simpa using h2
        have hs : Boxed (W.setCell ⟨A.heap.size, 0, none⟩ (.int .i64 ((pre.length : Int) + 1))) A.heap.size 3 (.int .i64 ((pre ++ [x]).length : Int)) := by
          have := hb.set (.int .i64 ((pre.length : Int) + 1))
          rw [show (((pre ++ [x]).length : Nat) : Int) = (pre.length : Int) + 1 by simp]
          exact this
        by_cases h3 : (pre.length : Int) + 1 = most
        · subst h3
          gi_wp2
          exact ⟨(KeepsOthers.setCell _ _ _).from _, .inr ⟨rfl, pn, by simp, by simp, hs, hB.setCell (p := ⟨A.heap.size, 0, none⟩) (Nat.le_refl _) _⟩⟩
        · have q3 : ((pre.length : Int) + 1 == most) = false := by simpa using h3
          gi_wp2
          exact ⟨(KeepsOthers.setCell _ _ _).from _, fun v hv => (World.cell?_setCell_other _ _ _ _ (fun q => by have := congrArg Addr.block q; simp at this)).trans hv, ⟨pn, by rcases hc with h | h; exact .inl h; exact .inr (by simp; omega)⟩, hs, hB.setCell (p := ⟨A.heap.size, 0, none⟩) (Nat.le_refl _) _⟩
      · have NO : ¬ (pre ++ [x] <+: L) := fun q => h2 (PN.1 q)
        have q2 : (y != x) = true := by simpa using h2
        gi_wp2
        exact ⟨(KeepsOthers.setCell _ _ _).from _, .inl ⟨rfl, NO⟩⟩
  case done =>
    rintro D ys W hD hy ⟨⟨hp, hc⟩, hb, hB⟩ hK
    obtain rfl : L = ys := (hy.trans HL.out).symm
    clear hy
    have d0 := (boxed_below hB a0 a0.lt).cell
    have d2 := (boxed_below hB a2 a2.lt).cell
    have d3 := (boxed_below hB a3 a3.lt).cell
    have di := hb.cell
    clear c3 bi bp hB0
    by_cases e1 : most = 0
    · subst e1
      gi_wp2_with ((with_reducible refine at_gl ?_); refine skip_wide (by rfl) ?_; simp only [Act.put, List.setIfInBounds_toArray, List.set_cons_succ, List.set_cons_zero])
      have KD : Hid ((W.alloc (.cells #[.int .i64 1] 3)).heap[D]? = some (.deferred (some []))) := (Below.heap_alloc _ _ _ (Array.getElem?_eq_some_iff.1 hK).1).trans hK
      have hBB : Below A.heap.size A (W.alloc (.cells #[.int .i64 1] 3)) := hB.alloc hB.size _
      replace a0 := boxed_below hBB a0 a0.lt
      replace a1 := boxed_below hBB a1 a1.lt
      replace a2 := boxed_below hBB a2 a2.lt
      replace a3 := Boxed.new W 3 (.int .i64 1)
      replace aC := cells_more (cells_below hBB aC) hBB.size
      replace KA := hid (KA.out.trans (below_kept hBB))
      have hDw : w.heap.size ≤ D := by have := sz; have := sA.out; simp at hD; omega
      obtain ⟨bt, hbt⟩ : ∃ b, W.heap.size = b := ⟨_, rfl⟩
      obtain ⟨B, hB'⟩ : ∃ B, W.alloc (.cells #[.int .i64 1] 3) = B := ⟨_, rfl⟩
      rw [hB'] at KD a0 a1 a2 a3 aC KA ⊢
      rw [hbt] at a3 ⊢
      clear hB' hbt hBB hb hB hp hc d0 d2 d3 di hK hD sA
      rw [roundsIn_succ]
      have c3 := a3.cell
      gi_wp2_with (refine ⟨trivial, ?_⟩; gi_at_call 15; refine (HA.out _ _).mono ?_; rintro e w' ⟨rfl, rfl⟩)
      have bi := (Boxed.new B 3 (.int .i64 0)).alloc (.cells #[.int .u8 p] 5)
      have bp := Boxed.new (B.alloc (.cells #[.int .i64 0] 3)) 5 (.int .u8 p)
      rw [World.size_alloc] at bp
      have hB0 : Below B.heap.size B ((B.alloc (.cells #[.int .i64 0] 3)).alloc (.cells #[.int .u8 p] 5)) := ((Below.refl _ B).alloc (Nat.le_refl _) _).alloc (by simp) _
      refine' wpIn_rangeFunc_ownG hro (by decide) (gf := 28) (lb := #[.pointer (some ⟨B.heap.size + 1, 0, none⟩)]) rfl trivial (enters_of Try.func28 (by kernel_rfl) rfl)
        (pall_stops 5 (by decide) (B.heap.size + 1) p p0 p1 _ (by simp) bp.cell) kpB_t kpB_b (Below.refl _ _) (fun _ => rfl)
        (fun pre W => (pre <+: L ∧ True) ∧ Boxed W B.heap.size 3 (.int .i64 (pre.length : Int)) ∧ Below B.heap.size B W)
        (fun c pre W => c = .ret ∧ ¬ pre <+: L)
        (OwnFrom.and (ownFrom_pure _ _) (OwnFrom.and (Own.from (boxed_own _ _ _) _) (ownFrom_below (Nat.le_refl _) (by simp; omega))))
        (fun c => ownFrom_pure _ (fun pre => c = .ret ∧ ¬ pre <+: L))
        ⟨⟨List.nil_prefix, trivial⟩, bi, hB0⟩
        _ ?assignN1 ?bodyN1 ?doneN1 ?stopN1
      case assignN1 =>
        intro l x W K hK
        gi_wp2
        exact hK
      case bodyN1 =>
        rintro l pre x W ⟨⟨hp, hc⟩, hb, hB⟩ _
        have d0 := (boxed_below hB a0 a0.lt).cell
        have d1 := (boxed_below hB a1 a1.lt).cell
        have z1 := (boxed_below hB a1 a1.lt).frozen
        have d2 := (boxed_below hB a2 a2.lt).cell
        have d3 := (boxed_below hB a3 a3.lt).cell
        have di := hb.cell
        have zi := hb.frozen
        have CC := cells_below hB aC
        clear c3 bi bp hB0 HA KA aC
        by_cases h1 : L.length ≤ pre.length
        · have q1 : decide ((L.length : Int) ≤ (pre.length : Int)) = true := decide_eq_true (by omega)
          have q2 : decide (L.length ≤ pre.length) = true := decide_eq_true h1
          have NO : ¬ (pre ++ [x] <+: L) := pre_over h1
          gi_wp2
          exact ⟨(KeepsOthers.setCell _ _ _).from _, ⟨rfl, NO⟩⟩
        · have q1 : decide ((L.length : Int) ≤ (pre.length : Int)) = false := decide_eq_false (by omega)
          have q1b : decide (L.length ≤ pre.length) = false := decide_eq_false h1
          have q4 : IntKind.i64.wrap ((pre.length : Int) + 1) = (pre.length : Int) + 1 := by rw [IntKind.wrap_i64]; omega
          have q5 : pre.length < L.length := by omega
          obtain ⟨g, rfl, hg, cg⟩ := CC pre.length (by omega)
          have PN := pre_next (x := x) hp (by omega)
          clear CC
          generalize L[pre.length]?.getD 0 = y at cg PN
          have s0 := ((boxed_below hB a0 a0.lt).other (B' := B.heap.size) (Nat.ne_of_lt a0.lt) (.int .i64 ((pre.length : Int) + 1))).cell
          have s3 := ((boxed_below hB a3 a3.lt).other (B' := B.heap.size) (Nat.ne_of_lt a3.lt) (.int .i64 ((pre.length : Int) + 1))).cell
          have si := (hb.set (.int .i64 ((pre.length : Int) + 1))).cell
          by_cases h2 : y = x
          · have pn := PN.2 h2
            have q2 : (y != x) = false := by simpa using h2
            have hs : Boxed (W.setCell ⟨B.heap.size, 0, none⟩ (.int .i64 ((pre.length : Int) + 1))) B.heap.size 3 (.int .i64 ((pre ++ [x]).length : Int)) := by
              have := hb.set (.int .i64 ((pre.length : Int) + 1))
              rw [show (((pre ++ [x]).length : Nat) : Int) = (pre.length : Int) + 1 by simp]
              exact this
            gi_wp2
            exact ⟨(KeepsOthers.setCell _ _ _).from _, fun v hv => (World.cell?_setCell_other _ _ _ _ (fun q => by have := congrArg Addr.block q; simp at this)).trans hv, ⟨pn, trivial⟩, hs, hB.setCell (p := ⟨B.heap.size, 0, none⟩) (Nat.le_refl _) _⟩
          · have NO : ¬ (pre ++ [x] <+: L) := fun q => h2 (PN.1 q)
            have q2 : (y != x) = true := by simpa using h2
            gi_wp2
            exact ⟨(KeepsOthers.setCell _ _ _).from _, ⟨rfl, NO⟩⟩
      case doneN1 =>
        rintro D2 ys W2 hD2 hy ⟨⟨hp2, _⟩, hb2, hB2⟩ hK2
        obtain rfl : L = ys := (hy.trans HL.out).symm
        clear hy hp2
        have d2 := (boxed_below hB2 a2 a2.lt).cell
        have d3 := (boxed_below hB2 a3 a3.lt).cell
        have di := hb2.cell
        clear c3 bi bp hB0
        gi_wp2_with ((with_reducible refine at_gl ?_); refine skip_wide (by rfl) ?_; simp only [Act.put, List.setIfInBounds_toArray, List.set_cons_succ, List.set_cons_zero])
        have x1 := (boxed_below hB2 a1 a1.lt).alloc (.cells #[.int .i64 2] 3)
        have x3 := (Boxed.new W2 3 (.int .i64 2)).cell
        have y1 := x1.cell
        have y2 := x1.frozen
        have KC := hid ((KA.out.trans (below_kept hB2)).alloc (.cells #[.int .i64 2] 3))
        have D2K : (W2.alloc (.cells #[.int .i64 2] 3)).heap[D2]? = some (.deferred (some [])) := (Below.heap_alloc _ _ _ (Array.getElem?_eq_some_iff.1 hK2).1).trans hK2
        have D1K : (W2.alloc (.cells #[.int .i64 2] 3)).heap[D]? = some (.deferred (some [])) := (Below.heap_alloc _ _ _ (Nat.lt_of_lt_of_le (Array.getElem?_eq_some_iff.1 KD.out).1 hB2.size)).trans ((hB2.block D (Array.getElem?_eq_some_iff.1 KD.out).1).trans KD.out)
        have ne : D ≠ D2 := by
          have h1 := (Array.getElem?_eq_some_iff.1 KD.out).1
          simp at hD2
          omega
        have hD2w : w.heap.size ≤ D2 := by have := KA.out.size; simp at hD2; omega
        have X1 := hid x1
        rw [roundsIn_succ]
        clear hK2 hB2 hb2 d2 d3 di a0 a1 a2 a3 aC KA x1 HA
        gi_wp2
        have k2 := (KeepsOthers.setCell (W2.alloc (.cells #[.int .i64 2] 3)) ⟨w.heap.size + 1, 0, none⟩ (.bool true)).same D2 _ D2K rfl
        have k1 := (KeepsOthers.setCell (W2.alloc (.cells #[.int .i64 2] 3)) ⟨w.heap.size + 1, 0, none⟩ (.bool true)).same D _ D1K rfl
        have s1 := X1.out.set (.bool true)
        have k1' := (World.putObj_heap_other (o := .deferred none) ne).trans k1
        refine ⟨by simp, .inl ⟨_, _, rfl, run_takeDeferred k2, ⟨by simp, .inl ⟨_, _, rfl, run_takeDeferred k1', ?_⟩⟩⟩⟩
        have r1 := (boxed_put (boxed_put s1 k2 (.deferred none)) k1' (.deferred none)).cell
        refine ⟨.bool true, ?_, rfl, kept_put (kept_put (KC.out.setCell8 (Nat.le_succ _) 0 _) hD2w _) hDw _⟩
        simp [results, Try.results4, go_sem, r1]
      case stopN1 =>
        rintro D2 c pre2 W2 hD2 hp2 ⟨_, hx⟩ hK2
        rw [HL.out] at hp2
        exact absurd hp2 hx
    · have e2 : (most == 0) = false := by simpa using e1
      by_cases e3 : (L.length : Int) < most
      · have e4 : decide ((L.length : Int) < most) = true := decide_eq_true e3
        gi_wp2_with ((with_reducible refine at_gl ?_); refine skip_wide (by rfl) ?_; simp only [Act.put, List.setIfInBounds_toArray, List.set_cons_succ, List.set_cons_zero])
        have KD : Hid ((W.alloc (.cells #[.int .i64 1] 3)).heap[D]? = some (.deferred (some []))) := (Below.heap_alloc _ _ _ (Array.getElem?_eq_some_iff.1 hK).1).trans hK
        have hBB : Below A.heap.size A (W.alloc (.cells #[.int .i64 1] 3)) := hB.alloc hB.size _
        replace a0 := boxed_below hBB a0 a0.lt
        replace a1 := boxed_below hBB a1 a1.lt
        replace a2 := boxed_below hBB a2 a2.lt
        replace a3 := Boxed.new W 3 (.int .i64 1)
        replace aC := cells_more (cells_below hBB aC) hBB.size
        replace KA := hid (KA.out.trans (below_kept hBB))
        have hDw : w.heap.size ≤ D := by have := sz; have := sA.out; simp at hD; omega
        obtain ⟨bt, hbt⟩ : ∃ b, W.heap.size = b := ⟨_, rfl⟩
        obtain ⟨B, hB'⟩ : ∃ B, W.alloc (.cells #[.int .i64 1] 3) = B := ⟨_, rfl⟩
        rw [hB'] at KD a0 a1 a2 a3 aC KA ⊢
        rw [hbt] at a3 ⊢
        clear hB' hbt hBB hb hB hp hc d0 d2 d3 di hK hD sA
        rw [roundsIn_succ]
        have c3 := a3.cell
        gi_wp2_with (refine ⟨trivial, ?_⟩; gi_at_call 15; refine (HA.out _ _).mono ?_; rintro e w' ⟨rfl, rfl⟩)
        have bi := (Boxed.new B 3 (.int .i64 0)).alloc (.cells #[.int .u8 p] 5)
        have bp := Boxed.new (B.alloc (.cells #[.int .i64 0] 3)) 5 (.int .u8 p)
        rw [World.size_alloc] at bp
        have hB0 : Below B.heap.size B ((B.alloc (.cells #[.int .i64 0] 3)).alloc (.cells #[.int .u8 p] 5)) := ((Below.refl _ B).alloc (Nat.le_refl _) _).alloc (by simp) _
        refine' wpIn_rangeFunc_ownG hro (by decide) (gf := 28) (lb := #[.pointer (some ⟨B.heap.size + 1, 0, none⟩)]) rfl trivial (enters_of Try.func28 (by kernel_rfl) rfl)
          (pall_stops 5 (by decide) (B.heap.size + 1) p p0 p1 _ (by simp) bp.cell) kpB_t kpB_b (Below.refl _ _) (fun _ => rfl)
          (fun pre W => (pre <+: L ∧ True) ∧ Boxed W B.heap.size 3 (.int .i64 (pre.length : Int)) ∧ Below B.heap.size B W)
          (fun c pre W => c = .ret ∧ ¬ pre <+: L)
          (OwnFrom.and (ownFrom_pure _ _) (OwnFrom.and (Own.from (boxed_own _ _ _) _) (ownFrom_below (Nat.le_refl _) (by simp; omega))))
          (fun c => ownFrom_pure _ (fun pre => c = .ret ∧ ¬ pre <+: L))
          ⟨⟨List.nil_prefix, trivial⟩, bi, hB0⟩
          _ ?assignN2 ?bodyN2 ?doneN2 ?stopN2
        case assignN2 =>
          intro l x W K hK
          gi_wp2
          exact hK
        case bodyN2 =>
          rintro l pre x W ⟨⟨hp, hc⟩, hb, hB⟩ _
          have d0 := (boxed_below hB a0 a0.lt).cell
          have d1 := (boxed_below hB a1 a1.lt).cell
          have z1 := (boxed_below hB a1 a1.lt).frozen
          have d2 := (boxed_below hB a2 a2.lt).cell
          have d3 := (boxed_below hB a3 a3.lt).cell
          have di := hb.cell
          have zi := hb.frozen
          have CC := cells_below hB aC
          clear c3 bi bp hB0 HA KA aC
          by_cases h1 : L.length ≤ pre.length
          · have q1 : decide ((L.length : Int) ≤ (pre.length : Int)) = true := decide_eq_true (by omega)
            have q2 : decide (L.length ≤ pre.length) = true := decide_eq_true h1
            have NO : ¬ (pre ++ [x] <+: L) := pre_over h1
            gi_wp2
            exact ⟨(KeepsOthers.setCell _ _ _).from _, ⟨rfl, NO⟩⟩
          · have q1 : decide ((L.length : Int) ≤ (pre.length : Int)) = false := decide_eq_false (by omega)
            have q1b : decide (L.length ≤ pre.length) = false := decide_eq_false h1
            have q4 : IntKind.i64.wrap ((pre.length : Int) + 1) = (pre.length : Int) + 1 := by rw [IntKind.wrap_i64]; omega
            have q5 : pre.length < L.length := by omega
            obtain ⟨g, rfl, hg, cg⟩ := CC pre.length (by omega)
            have PN := pre_next (x := x) hp (by omega)
            clear CC
            generalize L[pre.length]?.getD 0 = y at cg PN
            have s0 := ((boxed_below hB a0 a0.lt).other (B' := B.heap.size) (Nat.ne_of_lt a0.lt) (.int .i64 ((pre.length : Int) + 1))).cell
            have s3 := ((boxed_below hB a3 a3.lt).other (B' := B.heap.size) (Nat.ne_of_lt a3.lt) (.int .i64 ((pre.length : Int) + 1))).cell
            have si := (hb.set (.int .i64 ((pre.length : Int) + 1))).cell
            by_cases h2 : y = x
            · have pn := PN.2 h2
              have q2 : (y != x) = false := by simpa using h2
              have hs : Boxed (W.setCell ⟨B.heap.size, 0, none⟩ (.int .i64 ((pre.length : Int) + 1))) B.heap.size 3 (.int .i64 ((pre ++ [x]).length : Int)) := by
                have := hb.set (.int .i64 ((pre.length : Int) + 1))
                rw [show (((pre ++ [x]).length : Nat) : Int) = (pre.length : Int) + 1 by simp]
                exact this
              gi_wp2
              exact ⟨(KeepsOthers.setCell _ _ _).from _, fun v hv => (World.cell?_setCell_other _ _ _ _ (fun q => by have := congrArg Addr.block q; simp at this)).trans hv, ⟨pn, trivial⟩, hs, hB.setCell (p := ⟨B.heap.size, 0, none⟩) (Nat.le_refl _) _⟩
            · have NO : ¬ (pre ++ [x] <+: L) := fun q => h2 (PN.1 q)
              have q2 : (y != x) = true := by simpa using h2
              gi_wp2
              exact ⟨(KeepsOthers.setCell _ _ _).from _, ⟨rfl, NO⟩⟩
        case doneN2 =>
          rintro D2 ys W2 hD2 hy ⟨⟨hp2, _⟩, hb2, hB2⟩ hK2
          obtain rfl : L = ys := (hy.trans HL.out).symm
          clear hy hp2
          have d2 := (boxed_below hB2 a2 a2.lt).cell
          have d3 := (boxed_below hB2 a3 a3.lt).cell
          have di := hb2.cell
          clear c3 bi bp hB0
          gi_wp2_with ((with_reducible refine at_gl ?_); refine skip_wide (by rfl) ?_; simp only [Act.put, List.setIfInBounds_toArray, List.set_cons_succ, List.set_cons_zero])
          have x1 := (boxed_below hB2 a1 a1.lt).alloc (.cells #[.int .i64 2] 3)
          have x3 := (Boxed.new W2 3 (.int .i64 2)).cell
          have y1 := x1.cell
          have y2 := x1.frozen
          have KC := hid ((KA.out.trans (below_kept hB2)).alloc (.cells #[.int .i64 2] 3))
          have D2K : (W2.alloc (.cells #[.int .i64 2] 3)).heap[D2]? = some (.deferred (some [])) := (Below.heap_alloc _ _ _ (Array.getElem?_eq_some_iff.1 hK2).1).trans hK2
          have D1K : (W2.alloc (.cells #[.int .i64 2] 3)).heap[D]? = some (.deferred (some [])) := (Below.heap_alloc _ _ _ (Nat.lt_of_lt_of_le (Array.getElem?_eq_some_iff.1 KD.out).1 hB2.size)).trans ((hB2.block D (Array.getElem?_eq_some_iff.1 KD.out).1).trans KD.out)
          have ne : D ≠ D2 := by
            have h1 := (Array.getElem?_eq_some_iff.1 KD.out).1
            simp at hD2
            omega
          have hD2w : w.heap.size ≤ D2 := by have := KA.out.size; simp at hD2; omega
          have X1 := hid x1
          rw [roundsIn_succ]
          clear hK2 hB2 hb2 d2 d3 di a0 a1 a2 a3 aC KA x1 HA
          gi_wp2
          have k2 := (KeepsOthers.setCell (W2.alloc (.cells #[.int .i64 2] 3)) ⟨w.heap.size + 1, 0, none⟩ (.bool true)).same D2 _ D2K rfl
          have k1 := (KeepsOthers.setCell (W2.alloc (.cells #[.int .i64 2] 3)) ⟨w.heap.size + 1, 0, none⟩ (.bool true)).same D _ D1K rfl
          have s1 := X1.out.set (.bool true)
          have k1' := (World.putObj_heap_other (o := .deferred none) ne).trans k1
          refine ⟨by simp, .inl ⟨_, _, rfl, run_takeDeferred k2, ⟨by simp, .inl ⟨_, _, rfl, run_takeDeferred k1', ?_⟩⟩⟩⟩
          have r1 := (boxed_put (boxed_put s1 k2 (.deferred none)) k1' (.deferred none)).cell
          refine ⟨.bool true, ?_, rfl, kept_put (kept_put (KC.out.setCell8 (Nat.le_succ _) 0 _) hD2w _) hDw _⟩
          simp [results, Try.results4, go_sem, r1]
        case stopN2 =>
          rintro D2 c pre2 W2 hD2 hp2 ⟨_, hx⟩ hK2
          rw [HL.out] at hp2
          exact absurd hp2 hx
      · exact (hc.elim e1 e3).elim
  case stop =>
    rintro D c pre W hD hp hx hK
    rw [HL.out] at hp
    rcases hx with ⟨rfl, hx⟩ | ⟨rfl, hx1, hx2, hx3, hb, hB⟩
    · exact absurd hp hx
    have hl := hp.length_le
    subst hx3
    have e1 : ((pre.length : Int) == 0) = false := by simp; intro h; subst h; simp at hx2
    have e2 : decide ((L.length : Int) < (pre.length : Int)) = false := decide_eq_false (by omega)
    have e3 : decide (L.length < pre.length) = false := decide_eq_false (by omega)
    have hc := trivial
    have d0 := (boxed_below hB a0 a0.lt).cell
    have d2 := (boxed_below hB a2 a2.lt).cell
    have d3 := (boxed_below hB a3 a3.lt).cell
    have di := hb.cell
    clear c3 bi bp hB0
    gi_wp2_with ((with_reducible refine at_gl ?_); refine skip_wide (by rfl) ?_; simp only [Act.put, List.setIfInBounds_toArray, List.set_cons_succ, List.set_cons_zero])
    have KD : Hid ((W.alloc (.cells #[.int .i64 1] 3)).heap[D]? = some (.deferred (some []))) := (Below.heap_alloc _ _ _ (Array.getElem?_eq_some_iff.1 hK).1).trans hK
    have hBB : Below A.heap.size A (W.alloc (.cells #[.int .i64 1] 3)) := hB.alloc hB.size _
    replace a0 := boxed_below hBB a0 a0.lt
    replace a1 := boxed_below hBB a1 a1.lt
    replace a2 := boxed_below hBB a2 a2.lt
    replace a3 := Boxed.new W 3 (.int .i64 1)
    replace aC := cells_more (cells_below hBB aC) hBB.size
    replace KA := hid (KA.out.trans (below_kept hBB))
    have hDw : w.heap.size ≤ D := by have := sz; have := sA.out; simp at hD; omega
    obtain ⟨bt, hbt⟩ : ∃ b, W.heap.size = b := ⟨_, rfl⟩
    obtain ⟨B, hB'⟩ : ∃ B, W.alloc (.cells #[.int .i64 1] 3) = B := ⟨_, rfl⟩
    rw [hB'] at KD a0 a1 a2 a3 aC KA ⊢
    rw [hbt] at a3 ⊢
    clear hB' hbt hBB hb hB hp hc d0 d2 d3 di hK hD sA
    rw [roundsIn_succ]
    have c3 := a3.cell
    gi_wp2_with (refine ⟨trivial, ?_⟩; gi_at_call 15; refine (HA.out _ _).mono ?_; rintro e w' ⟨rfl, rfl⟩)
    have bi := (Boxed.new B 3 (.int .i64 0)).alloc (.cells #[.int .u8 p] 5)
    have bp := Boxed.new (B.alloc (.cells #[.int .i64 0] 3)) 5 (.int .u8 p)
    rw [World.size_alloc] at bp
    have hB0 : Below B.heap.size B ((B.alloc (.cells #[.int .i64 0] 3)).alloc (.cells #[.int .u8 p] 5)) := ((Below.refl _ B).alloc (Nat.le_refl _) _).alloc (by simp) _
    refine' wpIn_rangeFunc_ownG hro (by decide) (gf := 28) (lb := #[.pointer (some ⟨B.heap.size + 1, 0, none⟩)]) rfl trivial (enters_of Try.func28 (by kernel_rfl) rfl)
      (pall_stops 5 (by decide) (B.heap.size + 1) p p0 p1 _ (by simp) bp.cell) kpB_t kpB_b (Below.refl _ _) (fun _ => rfl)
      (fun pre W => (pre <+: L ∧ True) ∧ Boxed W B.heap.size 3 (.int .i64 (pre.length : Int)) ∧ Below B.heap.size B W)
      (fun c pre W => c = .ret ∧ ¬ pre <+: L)
      (OwnFrom.and (ownFrom_pure _ _) (OwnFrom.and (Own.from (boxed_own _ _ _) _) (ownFrom_below (Nat.le_refl _) (by simp; omega))))
      (fun c => ownFrom_pure _ (fun pre => c = .ret ∧ ¬ pre <+: L))
      ⟨⟨List.nil_prefix, trivial⟩, bi, hB0⟩
      _ ?assignN3 ?bodyN3 ?doneN3 ?stopN3
    case assignN3 =>
      intro l x W K hK
      gi_wp2
      exact hK
    case bodyN3 =>
      rintro l pre x W ⟨⟨hp, hc⟩, hb, hB⟩ _
      have d0 := (boxed_below hB a0 a0.lt).cell
      have d1 := (boxed_below hB a1 a1.lt).cell
      have z1 := (boxed_below hB a1 a1.lt).frozen
      have d2 := (boxed_below hB a2 a2.lt).cell
      have d3 := (boxed_below hB a3 a3.lt).cell
      have di := hb.cell
      have zi := hb.frozen
      have CC := cells_below hB aC
      clear c3 bi bp hB0 HA KA aC
      by_cases h1 : L.length ≤ pre.length
      · have q1 : decide ((L.length : Int) ≤ (pre.length : Int)) = true := decide_eq_true (by omega)
        have q2 : decide (L.length ≤ pre.length) = true := decide_eq_true h1
        have NO : ¬ (pre ++ [x] <+: L) := pre_over h1
        gi_wp2
        exact ⟨(KeepsOthers.setCell _ _ _).from _, ⟨rfl, NO⟩⟩
      · have q1 : decide ((L.length : Int) ≤ (pre.length : Int)) = false := decide_eq_false (by omega)
        have q1b : decide (L.length ≤ pre.length) = false := decide_eq_false h1
        have q4 : IntKind.i64.wrap ((pre.length : Int) + 1) = (pre.length : Int) + 1 := by rw [IntKind.wrap_i64]; omega
        have q5 : pre.length < L.length := by omega
        obtain ⟨g, rfl, hg, cg⟩ := CC pre.length (by omega)
        have PN := pre_next (x := x) hp (by omega)
        clear CC
        generalize L[pre.length]?.getD 0 = y at cg PN
        have s0 := ((boxed_below hB a0 a0.lt).other (B' := B.heap.size) (Nat.ne_of_lt a0.lt) (.int .i64 ((pre.length : Int) + 1))).cell
        have s3 := ((boxed_below hB a3 a3.lt).other (B' := B.heap.size) (Nat.ne_of_lt a3.lt) (.int .i64 ((pre.length : Int) + 1))).cell
        have si := (hb.set (.int .i64 ((pre.length : Int) + 1))).cell
        by_cases h2 : y = x
        · have pn := PN.2 h2
          have q2 : (y != x) = false := by simpa using h2
          have hs : Boxed (W.setCell ⟨B.heap.size, 0, none⟩ (.int .i64 ((pre.length : Int) + 1))) B.heap.size 3 (.int .i64 ((pre ++ [x]).length : Int)) := by
            have := hb.set (.int .i64 ((pre.length : Int) + 1))
            rw [show (((pre ++ [x]).length : Nat) : Int) = (pre.length : Int) + 1 by simp]
            exact this
          gi_wp2
          exact ⟨(KeepsOthers.setCell _ _ _).from _, fun v hv => (World.cell?_setCell_other _ _ _ _ (fun q => by have := congrArg Addr.block q; simp at this)).trans hv, ⟨pn, trivial⟩, hs, hB.setCell (p := ⟨B.heap.size, 0, none⟩) (Nat.le_refl _) _⟩
        · have NO : ¬ (pre ++ [x] <+: L) := fun q => h2 (PN.1 q)
          have q2 : (y != x) = true := by simpa using h2
          gi_wp2
          exact ⟨(KeepsOthers.setCell _ _ _).from _, ⟨rfl, NO⟩⟩
    case doneN3 =>
      rintro D2 ys W2 hD2 hy ⟨⟨hp2, _⟩, hb2, hB2⟩ hK2
      obtain rfl : L = ys := (hy.trans HL.out).symm
      clear hy hp2
      have d2 := (boxed_below hB2 a2 a2.lt).cell
      have d3 := (boxed_below hB2 a3 a3.lt).cell
      have di := hb2.cell
      clear c3 bi bp hB0
      gi_wp2_with ((with_reducible refine at_gl ?_); refine skip_wide (by rfl) ?_; simp only [Act.put, List.setIfInBounds_toArray, List.set_cons_succ, List.set_cons_zero])
      have x1 := (boxed_below hB2 a1 a1.lt).alloc (.cells #[.int .i64 2] 3)
      have x3 := (Boxed.new W2 3 (.int .i64 2)).cell
      have y1 := x1.cell
      have y2 := x1.frozen
      have KC := hid ((KA.out.trans (below_kept hB2)).alloc (.cells #[.int .i64 2] 3))
      have D2K : (W2.alloc (.cells #[.int .i64 2] 3)).heap[D2]? = some (.deferred (some [])) := (Below.heap_alloc _ _ _ (Array.getElem?_eq_some_iff.1 hK2).1).trans hK2
      have D1K : (W2.alloc (.cells #[.int .i64 2] 3)).heap[D]? = some (.deferred (some [])) := (Below.heap_alloc _ _ _ (Nat.lt_of_lt_of_le (Array.getElem?_eq_some_iff.1 KD.out).1 hB2.size)).trans ((hB2.block D (Array.getElem?_eq_some_iff.1 KD.out).1).trans KD.out)
      have ne : D ≠ D2 := by
        have h1 := (Array.getElem?_eq_some_iff.1 KD.out).1
        simp at hD2
        omega
      have hD2w : w.heap.size ≤ D2 := by have := KA.out.size; simp at hD2; omega
      have X1 := hid x1
      rw [roundsIn_succ]
      clear hK2 hB2 hb2 d2 d3 di a0 a1 a2 a3 aC KA x1 HA
      gi_wp2
      have k2 := (KeepsOthers.setCell (W2.alloc (.cells #[.int .i64 2] 3)) ⟨w.heap.size + 1, 0, none⟩ (.bool true)).same D2 _ D2K rfl
      have k1 := (KeepsOthers.setCell (W2.alloc (.cells #[.int .i64 2] 3)) ⟨w.heap.size + 1, 0, none⟩ (.bool true)).same D _ D1K rfl
      have s1 := X1.out.set (.bool true)
      have k1' := (World.putObj_heap_other (o := .deferred none) ne).trans k1
      refine ⟨by simp, .inl ⟨_, _, rfl, run_takeDeferred k2, ⟨by simp, .inl ⟨_, _, rfl, run_takeDeferred k1', ?_⟩⟩⟩⟩
      have r1 := (boxed_put (boxed_put s1 k2 (.deferred none)) k1' (.deferred none)).cell
      refine ⟨.bool true, ?_, rfl, kept_put (kept_put (KC.out.setCell8 (Nat.le_succ _) 0 _) hD2w _) hDw _⟩
      simp [results, Try.results4, go_sem, r1]
    case stopN3 =>
      rintro D2 c pre2 W2 hD2 hp2 ⟨_, hx⟩ hK2
      rw [HL.out] at hp2
      exact absurd hp2 hx
end Go.Proofs.Ytfgkchmnmnmccaa
