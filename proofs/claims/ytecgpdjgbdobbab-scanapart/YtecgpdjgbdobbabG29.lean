/- slices.Clone and Order, over this seat's translation. -/
import Derived.Test.YtecgpdjgbdobbabG18
import Derived.Test.YtecgpdjgbdobbabG28
namespace Go.Proofs.Ytecgpdjgbdobbab
open Go.RowKit Go.Sort Go.Lib Go.Shelf
set_option linter.unusedVariables false
set_option linter.unusedSimpArgs false

/-- A slice value is that list. -/
def IsO (w : World) (v : Value) (L : List Ob) : Prop := ∃ a cap, v = .slice a L.length cap ∧ SlO w a cap L
theorem holds16 {w : World} {base g cap : Nat} {L : List Ob} (o : OwnO w base (.slice (some ⟨g, 0, none⟩) L.length cap) L) : HoldsK obC 5 w g 0 L.toArray := by
  obtain ⟨_, ⟨h1, h2⟩ | ⟨g', cap', cur, h1, hg, hh, h3, h4, h5, h6⟩⟩ := id o
  · cases h1
  · cases h1
    intro t ht
    rw [size_flatK] at ht
    rw [get_flatK _ _ _ t ht, Nat.zero_add]
    refine ⟨?_, frozen_of_row w g t cur _ hh⟩
    have ht' : t < L.length * 5 := by simpa using ht
    have e : t / 5 * 5 + t % 5 = t := by omega
    have hi : (L.map obC)[t / 5]? = some (obC (L[t / 5]'(by omega))) := by rw [List.getElem?_map, List.getElem?_eq_getElem (by omega)]; rfl
    have b := flat_get hi (j := t % 5) (by omega)
    rw [e] at b
    have c := o.cells (g := g) rfl t ((obC (L[t / 5]'(by omega)))[t % 5]'(by rw [obC_len]; omega)) (by rw [b, List.getElem?_eq_getElem])
    rw [ownB_add] at c
    rw [c]
    have q : L.toArray[t / 5]! = L[t / 5]'(by omega) := by rw [getElem!_pos _ _ (by simp; omega)]; simp
    rw [q, getElem!_pos _ _ (by rw [obC_len]; omega)]
    rfl
theorem kept_mapBlock {W w : World} (k : Kept W w) {blk : Nat} (hb : W.heap.size ≤ blk) (f : Array Value → Array Value) : Kept W (mapBlock w blk f) := by
  refine ⟨k.os, k.output, by have := k.size; show _ ≤ (w.heap.modify blk _).size; simp; exact this, fun i hi => ?_⟩
  rw [← k.block i hi]
  show (w.heap.modify blk _)[i]? = _
  rw [Array.getElem?_modify, if_neg (by omega)]
theorem kept_sort {W w u : World} (k : Kept W w) {blk : Nat} (hb : W.heap.size ≤ blk) {d : Array Ob} (h : SWK obC 5 w blk 0 d u) : Kept W u := by
  obtain ⟨n, os, rfl⟩ := h
  have k1 : Kept W (Sort.ahead w n) := ⟨k.os, k.output, k.size, k.block⟩
  have k2 : Kept W (putRowK obC 5 (Sort.ahead w n) blk 0 d) := kept_mapBlock k1 hb _
  refine ⟨k2.os, k2.output, ?_, fun i hi => ?_⟩
  · show _ ≤ (_ ++ os).size
    rw [Array.size_append]; have := k2.size; omega
  · show (_ ++ os)[i]? = _
    rw [Array.getElem?_append_left (Nat.lt_of_lt_of_le hi k2.size)]
    exact k2.block i hi
theorem slO_holds {w : World} {blk cap : Nat} {d : Array Ob} (h : HoldsK obC 5 w blk 0 d) (hb : blk < w.heap.size) (h1 : d.size ≤ cap) (h2 : cap ≤ maxLen) : SlO w (some ⟨blk, 0, none⟩) cap d.toList := by
  refine ⟨⟨by simp; omega, .inr ⟨_, rfl, hb, fun i cs hi j hj => ?_⟩⟩, by simpa using h1, h2, fun e => by cases e⟩
  rw [List.getElem?_map] at hi
  have il : i < d.size := by
    by_cases q : i < d.size
    · exact q
    · rw [List.getElem?_eq_none (by simp; omega)] at hi; cases hi
  rw [List.getElem?_eq_getElem (by simpa using il)] at hi
  simp at hi
  have := (h (i * 5 + j) (by rw [size_flatK]; omega)).1
  rw [get_flatK _ _ _ _ (by omega), show (i * 5 + j) / 5 = i by omega, show (i * 5 + j) % 5 = j by omega, Nat.zero_add] at this
  rw [ownB_add, this, ← hi]
  rw [getElem!_pos d i il, getElem!_pos _ j (by rw [obC_len]; exact hj), List.getElem?_eq_getElem (by rw [obC_len]; exact hj)]
  rfl
set_option maxRecDepth 100000 in
set_option maxHeartbeats 4000000 in
theorem pclone16 (a : Option Addr) (cap : Nat) (L : List Ob) (w : World) (h : SlO w a cap L) (hl : L.length ≤ 1000) :
    Calls Try.prog 36 #[.slice a L.length cap] w fun e w' => (∃ v, e = .returned v ∧ OwnO w' w.heap.size v L) ∧ Kept w w' := by
  cases a with
  | none =>
    have c0 := h.nil rfl
    have l0 := h.len
    obtain rfl : L = [] := List.eq_nil_of_length_eq_zero (by omega)
    subst c0
    have BE : ∀ u : World, (binOp .eql 63 (.slice none 0 0) (.slice none 0 0)).run Try.prog u = .ok (.bool true) u := fun _ => rfl
    clear h
    go_enter Try.func36, Try.ntmps36
    go_wp2
    go_ret
    exact ⟨⟨_, rfl, ownO_nil w _⟩, Kept.refl w⟩
  | some x =>
    have H := hid h
    have BE : ∀ u : World, (binOp .eql 63 (.slice (some x) L.length cap) (.slice none 0 0)).run Try.prog u = .ok (.bool false) u := fun _ => rfl
    clear h
    go_enter Try.func36, Try.ntmps36
    go_wp2_with (at_builtin; (refine wl_appendO (ownO_empty w (Nat.le_refl _)) (slO_kept ((Kept.refl w).alloc _) H.out) rfl rfl rfl rfl rfl (by simp) (by simp; omega) (fun v' u2 o2 g2 => ?_); have K2 := hid (((Kept.refl w).alloc _).by g2 (fun j hj => by cases hj; exact Nat.le_refl _)); have O2 := hid o2; clear g2 o2))
    go_ret
    exact ⟨⟨_, rfl, O2.out⟩, K2.out⟩
set_option maxRecDepth 100000 in
set_option maxHeartbeats 4000000 in
theorem insN16 (w : World) : Calls Try.prog 47 #[.slice none 0 0, .int .i64 0, .int .i64 0, .func (.func 38) #[] #[]] w fun e w' => e = .returned (.tuple #[]) ∧ w' = w := by
  go_enter Try.func47, Try.ntmps47
  go_wp2
  refine wp_loop_rounds 1 ?_
  rw [rounds_succ]
  go_wp2
  go_end0
  exact ⟨rfl, rfl⟩
set_option maxRecDepth 100000 in
set_option maxHeartbeats 4000000 in
theorem stabN16 (w : World) : Calls Try.prog 45 #[.slice none 0 0, .int .i64 0, .func (.func 38) #[] #[]] w fun e w' => e = .returned (.tuple #[]) ∧ w' = w := by
  have I := hid (fun u => insN16 u)
  go_enter Try.func45, Try.ntmps45
  go_wp2
  refine wp_loop_rounds 1 ?_
  rw [rounds_succ]
  go_wp2_with (go_at_call 47; refine (I.out _).mono ?_; rintro e u ⟨rfl, rfl⟩)
  refine wp_loop_rounds 1 ?_
  rw [rounds_succ]
  go_wp2
  go_end0
  exact ⟨rfl, rfl⟩
set_option maxRecDepth 100000 in
set_option maxHeartbeats 4000000 in
theorem sortN16 (w : World) : Calls Try.prog 37 #[.slice none 0 0, .func (.func 38) #[] #[]] w fun e w' => e = .returned (.tuple #[]) ∧ w' = w := by
  have I := hid (fun u => stabN16 u)
  go_enter Try.func37, Try.ntmps37
  go_wp2_with (go_at_call 45; refine (I.out _).mono ?_; rintro e u ⟨rfl, rfl⟩)
  go_end0
  exact ⟨rfl, rfl⟩
set_option maxRecDepth 100000 in
set_option maxHeartbeats 4000000 in
theorem porder16 (a : Option Addr) (cap : Nat) (L : List Ob) (w : World) (h : SlO w a cap L) (hl : L.length ≤ 1000) :
    Calls Try.prog 30 #[.slice a L.length cap] w fun e w' => (∃ M : List Ob, Stab key16 L M ∧ M.length = L.length ∧ ∃ a2 cap2, e = .returned (.slice a2 M.length cap2) ∧ SlO w' a2 cap2 M) ∧ Kept w w' := by
  have C := hid (pclone16 a cap L w h hl)
  clear h
  go_enter Try.func30, Try.ntmps30
  go_wp2_with fail
  refine C.out.mono ?_
  rintro e u1 ⟨⟨v, rfl, o⟩, k1⟩
  have K1 := hid k1
  have O1 := hid o
  rcases id o.2 with ⟨rfl, l0⟩ | ⟨g, cap1, cur, rfl, hg, hh, h3, h4, h5, h6⟩
  · obtain rfl := List.eq_nil_of_length_eq_zero l0
    have S := hid (fun u => sortN16 u)
    clear o k1
    go_wp2_with fail
    refine (S.out _).mono ?_
    rintro e u2 ⟨rfl, rfl⟩
    go_wp2
    go_ret
    exact ⟨⟨[], ⟨List.Pairwise.nil, fun k => rfl⟩, rfl, none, 0, rfl, slO_nil _⟩, K1.out⟩
  · have HH := holds16 o
    have hb : g < u1.heap.size := (Array.getElem?_eq_some_iff.1 hh).1
    have S := hid (sortS16 g cap1 L.toArray u1 HH hb (by simpa using hl))
    rw [show L.toArray.size = L.length by simp] at S
    have HX := hid HH
    clear HH o k1 h5 h6 hh
    go_wp2_with fail
    refine S.out.mono ?_
    rintro e u2 ⟨rfl, d2, sw, z2, m2, t2⟩
    have KS := hid (kept_sort K1.out hg sw)
    have SO := hid (slO_holds (sw.holds hb HX.out z2) (Nat.lt_of_lt_of_le hb sw.le) (by omega) h4)
    have ST : Hid (Stab key16 L d2.toList) := stab_len (l := L) (m := d2.toList) (show Mv key16 L.toArray d2 0 L.toArray.size from m2) (show Srt key16 d2 0 L.toArray.size from t2)
    have e2 : Hid (L.length = d2.toList.length) := by show L.length = _; rw [Array.length_toList]; exact z2.symm
    clear sw m2 t2 S z2
    go_wp2
    go_ret
    refine ⟨⟨d2.toList, ST.out, e2.out.symm, some ⟨g, 0, none⟩, cap1, ?_, SO.out⟩, KS.out⟩
    rw [← e2.out]
    rfl
end Go.Proofs.Ytecgpdjgbdobbab
