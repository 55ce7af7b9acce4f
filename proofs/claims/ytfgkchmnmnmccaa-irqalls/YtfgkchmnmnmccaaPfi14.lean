/- The program's First. -/
import Derived.Test.YtfgkchmnmnmccaaPit14
namespace Go.Proofs.Ytfgkchmnmnmccaa
open Go.RowKit Go.Shelf
set_option linter.unusedVariables false
set_option linter.unusedSimpArgs false
attribute [local go_sem] Oper.semAt_some

theorem first_of {p : Int} {x : Int} (h : [x] <+: allP p) : firstP p = x ∧ isP p = true := by
  obtain ⟨r, hr⟩ := h
  unfold firstP isP
  rw [← hr]
  exact ⟨rfl, rfl⟩
theorem first_no {p : Int} (h : allP p = []) : firstP p = 0 ∧ isP p = false := by
  unfold firstP isP
  rw [h]
  exact ⟨rfl, rfl⟩
set_option maxRecDepth 100000 in
set_option maxHeartbeats 4000000 in
theorem pfirst14 (p : Int) (w : World) (p0 : 0 ≤ p) (p1 : p ≤ 255) : Calls Try.prog 10 #[.int .u8 p] w fun e w' => e = .returned (.tuple #[.int .i64 (firstP p), .bool (isP p)]) ∧ Kept w w' := by
  have hro : Fence.wide.round = none := rfl
  refine (callsIn_wide (n := 5)).1 ?_
  refine callsIn_of_wp_marks Try.func10 rfl trivial ?_ hro
  simp only [Try.ntmps10, List.size_toArray, List.length_cons, List.length_nil, Nat.reduceAdd, Nat.reduceSub, Array.replicate_succ, Array.replicate_zero, List.push_toArray, List.append_toArray, List.nil_append, List.cons_append]
  have HA := hid (fun (q : Nat) u => callsIn_wide (n := q).2 (pall14 p u))
  gi_wp2_with (refine ⟨trivial, ?_⟩; gi_at_call 15; refine (HA.out _ _).mono ?_; rintro e w' ⟨rfl, rfl⟩)
  have b0 := Boxed.new w 3 (.int .i64 0)
  have b1 := Boxed.new (w.alloc (.cells #[.int .i64 0] 3)) 4 (.bool false)
  have b2 := Boxed.new ((w.alloc (.cells #[.int .i64 0] 3)).alloc (.cells #[.bool false] 4)) 5 (.int .u8 p)
  simp only [World.size_alloc] at b1 b2
  have hB0 : Below w.heap.size w (((w.alloc (.cells #[.int .i64 0] 3)).alloc (.cells #[.bool false] 4)).alloc (.cells #[.int .u8 p] 5)) := (((Below.refl _ w).alloc (Nat.le_refl _) _).alloc (by simp) _).alloc (by simp; omega) _
  refine wpIn_rangeFunc_ownG hro (by decide) (gf := 28) (lb := #[.pointer (some ⟨w.heap.size + 1 + 1, 0, none⟩)]) rfl trivial (enters_of Try.func28 (by kernel_rfl) rfl)
    (pall_stops 4 (by decide) (w.heap.size + 1 + 1) p p0 p1 _ (by simp) b2.cell) kpB_t kpB_b (Below.refl _ _) (fun _ => rfl)
    (fun pre W => (pre = [] ∧ Boxed W w.heap.size 3 (.int .i64 0) ∧ Boxed W (w.heap.size + 1) 4 (.bool false)) ∧ Below w.heap.size w W)
    (fun c pre W => (c = .ret ∧ ∃ x, pre = [x] ∧ Boxed W w.heap.size 3 (.int .i64 x) ∧ Boxed W (w.heap.size + 1) 4 (.bool true)) ∧ Below w.heap.size w W)
    (OwnFrom.and (OwnFrom.and (ownFrom_pure _ _) (OwnFrom.and (Own.from (boxed_own _ _ _) _) (Own.from (boxed_own _ _ _) _))) (ownFrom_below (Nat.le_refl _) (by simp; omega)))
    (fun c s A B row hs hg hr => by
      obtain ⟨⟨hc, x, hx, h1, h2⟩, h3⟩ := hs
      exact ⟨⟨hc, x, hx, boxed_by h1 hg hr, boxed_by h2 hg hr⟩, (ownFrom_below (β := Unit) (Nat.le_refl _) (by simp; omega)) () A B row h3 hg hr⟩)
    ⟨⟨rfl, (b0.alloc _).alloc _, b1.alloc _⟩, hB0⟩
    (fun x => { tmps := #[.int .u8 p, undef, .pointer (some ⟨w.heap.size, 0, none⟩), .pointer (some ⟨w.heap.size + 1, 0, none⟩), .int .i64 x, .int .u8 p, .func (.func 28) #[] #[.pointer (some ⟨w.heap.size + 1 + 1, 0, none⟩)], .int .i64 x, undef], defers := [] }) ?assign ?body ?done ?stop
  case assign =>
    intro l x W K hK
    gi_wp2
    exact hK
  case body =>
    rintro l pre x W ⟨⟨rfl, h1, h2⟩, hB⟩ _
    have c1 := h1.cell
    have z1 := h1.frozen
    have c2 := h2.cell
    have z2 := h2.frozen
    gi_wp2
    exact ⟨((KeepsOthers.setCell _ _ _).trans (KeepsOthers.setCell _ _ _)).from _, ⟨rfl, x, rfl, (h1.set _).other (by omega) _, (h2.other (by omega) _).set _⟩, (hB.setCell (p := ⟨w.heap.size, 0, none⟩) (Nat.le_refl _) _).setCell (p := ⟨w.heap.size + 1, 0, none⟩) (Nat.le_succ _) _⟩
  case done =>
    rintro D ys W hD rfl ⟨⟨hn, h1, h2⟩, hB⟩ hK
    have c1 := h1.cell
    have z1 := h1.frozen
    have c2 := h2.cell
    have z2 := h2.frozen
    obtain ⟨f1, f2⟩ := first_no hn
    gi_wp2
    have hK' := ((KeepsOthers.setCell W ⟨w.heap.size, 0, none⟩ (.int .i64 0)).trans (KeepsOthers.setCell _ ⟨w.heap.size + 1, 0, none⟩ (.bool false))).same D _ hK rfl
    refine ⟨by simp, .inl ⟨_, _, rfl, run_takeDeferred hK', ?_⟩⟩
    have d1 := (boxed_put ((h1.set (.int .i64 0)).other (B' := w.heap.size + 1) (by omega) (.bool false)) hK' (.deferred none)).cell
    have d2 := (boxed_put ((h2.other (B' := w.heap.size) (by omega) (.int .i64 0)).set (.bool false)) hK' (.deferred none)).cell
    refine ⟨.tuple #[.int .i64 0, .bool false], ?_, by rw [f1, f2], below_kept (((hB.setCell (p := ⟨w.heap.size, 0, none⟩) (Nat.le_refl _) _).setCell (p := ⟨w.heap.size + 1, 0, none⟩) (Nat.le_succ _) _).trans (belowK_b (w := w) (Nat.le_refl _) _ D _ _ (by simp at hD; omega) hK' rfl rfl))⟩
    simp [results, Try.results10, go_sem, d1, d2]
  case stop =>
    rintro D c pre W hD hp ⟨⟨rfl, x, rfl, h1, h2⟩, hB⟩ hK
    obtain ⟨f1, f2⟩ := first_of hp
    gi_wp2
    refine ⟨by simp, .inl ⟨_, _, rfl, run_takeDeferred hK, ?_⟩⟩
    have d1 := (boxed_put h1 hK (.deferred none)).cell
    have d2 := (boxed_put h2 hK (.deferred none)).cell
    refine ⟨.tuple #[.int .i64 x, .bool true], ?_, by rw [f1, f2], below_kept (hB.trans (belowK_b (w := w) (Nat.le_refl _) _ D _ _ (by simp at hD; omega) hK rfl rfl))⟩
    simp [results, Try.results10, go_sem, d1, d2]
end Go.Proofs.Ytfgkchmnmnmccaa
