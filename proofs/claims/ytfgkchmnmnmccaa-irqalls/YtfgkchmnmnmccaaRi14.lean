/- Rows of ints of the call's own; the document's All and First. -/
import Derived.Test.YtfgkchmnmnmccaaRiq14
import Derived.Laws.AppendOwn
import Derived.Laws.AppendOwnNone
namespace Go.Proofs.Ytfgkchmnmnmccaa
open Go.RowKit
set_option linter.unusedVariables false
set_option linter.unusedSimpArgs false

abbrev OwnI (w : World) (base : Nat) (v : Value) (L : List Int) : Prop := w.ownsRow base 3 1 v L.length (L.map (Value.int .i64))
/-- A slice of ints, as a list. -/
def IsL (w : World) (v : Value) (L : List Int) : Prop :=
  (v = .slice none 0 0 ∧ L = []) ∨ ∃ g cap, v = .slice (some ⟨g, 0, none⟩) L.length cap ∧ g < w.heap.size ∧ ∀ j, j < L.length → w.cell? ⟨g, j, none⟩ = some (.int .i64 (L[j]?.getD 0))
theorem isL_own {w : World} {base : Nat} {v : Value} {L : List Int} (o : OwnI w base v L) : IsL w v L := by
  obtain ⟨_, ⟨h1, h2⟩ | ⟨g, cap, cur, h1, hg, hh, h3, h4, h5, h6⟩⟩ := id o
  · exact .inl ⟨h1, List.eq_nil_of_length_eq_zero h2⟩
  · refine .inr ⟨g, cap, h1, (Array.getElem?_eq_some_iff.1 hh).1, fun j hj => ?_⟩
    have q := o.cells (g := g) (by rw [h1]; rfl) j (.int .i64 (L[j]?.getD 0)) (by rw [List.getElem?_map, List.getElem?_eq_getElem hj]; rfl)
    by_cases e : j = 0
    · subst e; exact q
    · simpa [Addr.add, e] using q
theorem isL_kept {W w : World} (k : Kept W w) {v : Value} {L : List Int} (h : IsL W v L) : IsL w v L := by
  rcases h with h | ⟨g, cap, h1, h2, h3⟩
  · exact .inl h
  · exact .inr ⟨g, cap, h1, Nat.lt_of_lt_of_le h2 k.size, fun j hj => (k.cell (x := ⟨g, j, none⟩) h2).trans (h3 j hj)⟩
theorem cell1_new (w : World) (v : Value) (t : TypeId) : (w.alloc (.cells #[v] t)).cell? ⟨w.heap.size, 0, none⟩ = some v := World.cell?_alloc_new _ _ _ 0
theorem info14_int : (Try.prog.info? 3).map (fun i => (i.zero, i.size, i.bytes)) = some (some (.int .i64 0), 1, 8) := by kernel_rfl
/-- append(s, x), s the call's own. -/
theorem wl_append14 {w : World} {ops : Array Oper} {rest : List Oper} {o : Oper} {a : Act} {Q : Exit → Act → World → Prop} {s x : Operand} {base : Nat} {v : Value} {L : List Int} {g : Nat} {z : Int}
    (own : OwnI w base v L) (hc : w.cell? ⟨g, 0, none⟩ = some (.int .i64 z)) (hgd : o.guard = none) (ho : o.op = .call { callee := .builtin .append, args := #[s, x], argTypes := #[29, 29] })
    (hs : a.eval s = v) (hx : a.eval x = .slice (some ⟨g, 0, none⟩) 1 1) (hb : base ≤ w.heap.size) (hm : L.length ≤ 100)
    (h : ∀ v' u, OwnI u base v' (L ++ [z]) → w.grownBy u v.ownBlock → wpList Try.prog ops Q rest (a.put o.dst v') u) : wpList Try.prog ops Q (o :: rest) a w := by
  obtain ⟨i0, hi, hz0, hz1, hz2⟩ := info_parts info14_int
  refine wpList_append_own _ hgd s x 29 ho base 3 i0 (.int .i64 0) 1 8 Try.underlying29 hi hz0 hz1 hz2 rfl (by decide) v _ _ hs own ⟨g, 0, none⟩ 1 1 [.int .i64 z] hx rfl ?_ ?_ ?_ ?_ hb ?_
  · intro j u hu
    cases j with
    | zero => simp at hu; subst hu; exact hc
    | succ j => simp at hu
  · intro u hu; simp at hu; subst hu; rfl
  · unfold maxLen; omega
  · omega
  · intro v' u h1 h2 _
    refine h v' u ?_ h2
    show u.ownsRow base _ 1 v' (L ++ [z]).length ((L ++ [z]).map _)
    rw [List.length_append, List.map_append]
    exact h1
set_option maxRecDepth 100000 in
set_option maxHeartbeats 4000000 in
theorem rall14 (p : Int) (w : World) (p0 : 0 ≤ p) (p1 : p ≤ 255) : Calls Try.prog 14 #[.int .u8 p] w fun e w' => (∃ v, e = .returned v ∧ OwnI w' w.heap.size v (allP p)) ∧ Kept w w' := by
  have H := hid (fun k u => rbit_any p k u p0 p1)
  show Calls _ _ _ _ fun e w' => (∃ v, e = .returned v ∧ OwnI w' w.heap.size v (allTo p 5)) ∧ Kept w w'
  go_enter Try.func14, Try.ntmps14
  go_wp2_with fail
  go_loopw [3, 4] (fun v i wr => ∃ j : Nat, j ≤ 5 ∧ OwnI wr w.heap.size v (allTo p j) ∧ i = .int .i64 (j : Int) ∧ Kept w wr) (fun _ i _ => 5 - (intOf i).toNat)
  case atStart => exact ⟨0, Nat.zero_le _, World.ownsRow_nil _ _ _ _, rfl, Kept.refl w⟩
  case round =>
    obtain ⟨j, hj, ho, rfl, hk⟩ := hrel
    have KK := hid hk
    have OO := hid ho
    clear hk ho
    by_cases hlt : j < 5
    · have g1 : decide ((j : Int) < 5) = true := decide_eq_true (by omega)
      have g2 : decide (j < 5) = true := decide_eq_true hlt
      have ew : IntKind.i64.wrap ((j : Int) + 1) = (j : Int) + 1 := by rw [IntKind.wrap_i64]; omega
      have LL := allTo_len p j
      have HJ := hid (fun u => H.out j u)
      cases hb : bitOf p (j : Int)
      · have NX := hid (allTo_no p j hb)
        rw [hb] at HJ
        clear hb
        go_wp2_with fail
        refine (HJ.out _).mono ?_
        rintro e u1 ⟨rfl, rfl⟩
        go_wp2_with fail
        go_roundw
        case rel => exact ⟨j + 1, by omega, by rw [NX.out]; exact OO.out, by first | go_num | rfl, KK.out⟩
        case measure => first | omega | (simp; omega) | (simp [intOf]; omega)
      · have NX := hid (allTo_yes p j hb)
        rw [hb] at HJ
        clear hb
        go_wp2_with fail
        refine (HJ.out _).mono ?_
        rintro e u1 ⟨rfl, rfl⟩
        go_wp2_with (at_builtin; (refine wl_append14 (owns_kept ((Kept.refl _).alloc _) OO.out) (cell1_new _ _ _) rfl rfl rfl rfl (by have := KK.out.size; simp; omega) (by omega) (fun v' u2 o2 g2 => ?_); have K2 := hid ((KK.out.alloc _).by g2 (fun j h => (OO.out.lt j h).1)); have O2 := hid o2; clear g2 o2))
        go_roundw
        case rel => exact ⟨j + 1, by omega, by rw [NX.out]; exact O2.out, by first | go_num | rfl, K2.out⟩
        case measure => first | omega | (simp; omega) | (simp [intOf]; omega)
    · have je : j = 5 := by omega
      subst je
      go_wp2
      go_ret
      exact ⟨⟨_, rfl, OO.out⟩, KK.out⟩
set_option maxRecDepth 100000 in
set_option maxHeartbeats 4000000 in
theorem rfirst14 (p : Int) (w : World) (p0 : 0 ≤ p) (p1 : p ≤ 255) : Calls Try.prog 11 #[.int .u8 p] w fun e w' => e = .returned (.tuple #[.int .i64 (firstP p), .bool (isP p)]) ∧ Kept w w' := by
  have H := hid (fun u => rall14 p u p0 p1)
  have LL := allP_len p
  unfold firstP isP
  generalize allP p = L at *
  go_enter Try.func11, Try.ntmps11
  go_wp2_with fail
  refine (H.out _).mono ?_
  rintro e u1 ⟨⟨v, rfl, o⟩, k1⟩
  have K1 := hid k1
  rcases isL_own o with ⟨rfl, rfl⟩ | ⟨g, cap, rfl, hg, hc⟩
  · clear o k1
    go_wp2
    refine bodyPost_ret (results_tmp2 rfl _ _ _) rfl ?_
    exact ⟨rfl, K1.out⟩
  · clear o k1
    cases L with
    | nil =>
      clear hc
      go_wp2
      refine bodyPost_ret (results_tmp2 rfl _ _ _) rfl ?_
      exact ⟨rfl, K1.out⟩
    | cons x r =>
      have c0 := hc 0 (by simp)
      simp only [List.getElem?_cons_zero, Option.getD_some] at c0
      have l0 : (((x :: r).length : Nat) : Int) = (r.length : Int) + 1 := by simp
      have l1 : (((r.length : Nat) : Int) + 1 == 0) = false := by simp; omega
      have l2 : ((((x :: r).length : Nat) : Int) == 0) = false := by simp; omega
      have l3 : decide (0 < (x :: r).length) = true := decide_eq_true (by simp)
      clear hc
      go_wp2
      refine bodyPost_ret (results_tmp2 rfl _ _ _) rfl ?_
      exact ⟨by first | rfl | (rw [l3]; rfl), K1.out⟩
end Go.Proofs.Ytfgkchmnmnmccaa
