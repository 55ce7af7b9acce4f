/- What the calls of the program's layer 7 that give up come to, and titles. What Make of the document's answers of layer 7 comes to. What Make of the document's answers of layer 7 comes to, where there is no code. What Make of the document's answers of layer 7 comes to: the refusals, and all of it. -/
import Derived.Test.YtfmddnekooojkaaGreatDoorG15
import Derived.Test.YtfmddnekooojkaaGreatDoorG11
namespace Go.Proofs.YtfmddnekooojkaaGreatDoor
open Go.RowKit
set_option linter.unusedVariables false
set_option linter.unusedSimpArgs false

set_option maxRecDepth 100000 in
theorem pchk_no (z : List Int) (x : Addr) (n cap : Nat) (w : World) (hn : 336 ≤ n) (hm : n ≤ maxLen) (hcap : n ≤ cap) (hcm : cap ≤ maxLen) (hz : 336 ≤ z.length) (hb : x.block < w.heap.size) (hc : ∀ i, i < 336 → w.cell? (x.add i) = some (.int .u8 (z.getD i 0)) ∧ InByte (z.getD i 0)) (ok : sumOf z ≠ z.getD 333 0) :
    Calls Tryz.prog 74 #[.slice (some x) n cap] w fun e w' => e = .panicked (pan 3) ∧ Kept w w' := by
  have C := hid (fun u (g : Kept w u) => psum_any z x n cap u hn hm hcap hcm hz (Nat.lt_of_lt_of_le hb g.size) (fun i hi => ⟨(g.cell (x := x.add i) (by rw [addB]; exact hb)).trans (hc i hi).1, (hc i hi).2⟩))
  have c1 := (hc 333 (by omega)).1
  rw [add_off x 333 0 (by decide)] at c1
  obtain ⟨S, hS⟩ : ∃ v, sumOf z = v := ⟨_, rfl⟩
  obtain ⟨Y, hY⟩ : ∃ v, z.getD 333 0 = v := ⟨_, rfl⟩
  rw [hS] at C ok
  rw [hY] at c1 ok
  have h3 : (333 : Int) < (n : Int) := by omega
  have ne : (Y != S) = true := by simp; exact fun e => ok e.symm
  simp only [Nat.add_zero] at c1
  clear hc ok hS hY
  go_enter Tryz.func74, Tryz.ntmps74
  go_wp2_with fail
  go_quiet ((go_at_call 81; exact Calls.quiet_of_same (C.out _ (Kept.refl _).drewN)))
  go_wp2
  exact ⟨rfl, rfl, (Kept.refl _).drewN⟩
def sizeBad (r m n : Int) : Prop := 8 < r ∨ 5 < m ∨ mostOf r < n
theorem bank_most : ∀ r : Fin 9, 16384 * bankOf (r.val : Int) = mostOf (r.val : Int) := by decide +kernel
set_option maxRecDepth 100000 in
theorem psize_ok (r m n : Int) (w : World) (r0 : 0 ≤ r) (m0 : 0 ≤ m) (m1 : m ≤ 255) (ok : ¬ sizeBad r m n) : Calls Tryz.prog 71 #[.int .u8 r, .int .u8 m, .int .i64 n] w fun e w' => e = .returned (.tuple #[]) ∧ w' = w := by
  unfold sizeBad at ok
  have r1 : r ≤ 8 := by omega
  have C := hid (fun u => pbanks_any r u r0 r1)
  have BM := bank_most ⟨r.toNat, by omega⟩
  have tn : ((r.toNat : Nat) : Int) = r := by omega
  simp only [tn] at BM
  have MB : 32768 ≤ mostOf r ∧ mostOf r ≤ 16777216 := most_fin ⟨r.toNat, by omega⟩
  generalize bankOf r = B at *
  generalize mostOf r = M at *
  have w1 : IntKind.i64.wrap (16384 * B) = 16384 * B := by rw [IntKind.wrap_i64]; omega
  have w2 : IntKind.i64.wrap m = m := by rw [IntKind.wrap_i64]; omega
  have d1 : decide (8 < r) = false := decide_eq_false (by omega)
  have d2 : decide (6 ≤ m) = false := decide_eq_false (by omega)
  have d3 : decide (16384 * B < n) = false := decide_eq_false (by omega)
  have e1 : ¬ (8 < r) := by omega
  have e2 : ¬ (6 ≤ m) := by omega
  have e3 : ¬ (16384 * B < n) := by omega
  clear tn BM MB ok
  go_enter Tryz.func71, Tryz.ntmps71
  go_wp2_with (go_at_call 76; refine (C.out _).mono ?_; rintro e w' ⟨rfl, rfl⟩)
  go_end0
  exact ⟨rfl, rfl⟩
set_option maxRecDepth 100000 in
theorem psize_no (r m n : Int) (w : World) (r0 : 0 ≤ r) (m0 : 0 ≤ m) (m1 : m ≤ 255) (no : sizeBad r m n) : Calls Tryz.prog 71 #[.int .u8 r, .int .u8 m, .int .i64 n] w fun e w' => e = .panicked (pan 5) ∧ w' = w := by
  have w2 : IntKind.i64.wrap m = m := by rw [IntKind.wrap_i64]; omega
  by_cases e1 : 8 < r
  · have d1 : decide (8 < r) = true := decide_eq_true e1
    go_enter Tryz.func71, Tryz.ntmps71
    go_wp2
    exact ⟨rfl, rfl, rfl⟩
  have d1 : decide (8 < r) = false := decide_eq_false e1
  by_cases e2 : 6 ≤ m
  · have d2 : decide (6 ≤ m) = true := decide_eq_true e2
    go_enter Tryz.func71, Tryz.ntmps71
    go_wp2
    exact ⟨rfl, rfl, rfl⟩
  have d2 : decide (6 ≤ m) = false := decide_eq_false e2
  unfold sizeBad at no
  have C := hid (fun u => pbanks_any r u r0 (by omega))
  have BM := bank_most ⟨r.toNat, by omega⟩
  have tn : ((r.toNat : Nat) : Int) = r := by omega
  simp only [tn] at BM
  have MB : 32768 ≤ mostOf r ∧ mostOf r ≤ 16777216 := most_fin ⟨r.toNat, by omega⟩
  generalize bankOf r = B at *
  generalize mostOf r = M at *
  have w1 : IntKind.i64.wrap (16384 * B) = 16384 * B := by rw [IntKind.wrap_i64]; omega
  have d3 : decide (16384 * B < n) = true := decide_eq_true (by omega)
  have e3 : 16384 * B < n := by omega
  clear tn BM MB no
  go_enter Tryz.func71, Tryz.ntmps71
  go_wp2_with (go_at_call 76; refine (C.out _).mono ?_; rintro e w' ⟨rfl, rfl⟩)
  exact ⟨rfl, rfl, rfl⟩
end Go.Proofs.YtfmddnekooojkaaGreatDoor
namespace Go.Proofs.YtfmddnekooojkaaGreatDoor
open Go.RowKit
set_option linter.unusedVariables false
set_option linter.unusedSimpArgs false

theorem info7_u8 : (Tryz.prog.info? 5).map (fun i => (i.zero, i.size, i.bytes)) = some (some (.int .u8 0), 1, 1) := by kernel_rfl
def byL (s : ByteArray) : List Int := s.data.toList.map (fun b => (b.toNat : Int))
theorem byL_len (s : ByteArray) : (byL s).length = s.size := by simp [byL]
theorem byL_in (s : ByteArray) : ∀ x ∈ byL s, InByte x := by
  intro x hx
  obtain ⟨b, _, rfl⟩ := List.mem_map.1 hx
  have := b.toNat_lt
  exact ⟨by omega, by omega⟩
theorem byL_get (s : ByteArray) (k : Nat) (h : k < s.size) : (byL s).getD k 0 = ((s[k]'h).toNat : Int) := by
  have h2 : k < s.data.toList.length := by simpa using h
  unfold byL
  rw [List.getD_eq_getElem?_getD, List.getElem?_map, List.getElem?_eq_getElem h2]
  rfl
theorem byL_run (s : ByteArray) (k : Nat) (c : Int) (h : k < s.size) (e : (byL s).getD k 0 = c) : ∀ u, (Instr.index 9 (.string s) (.int .i64 (k : Int))).run Tryz.prog u = .ok (.int .u8 c) u := by
  intro u
  rw [run_index_string u 9 s .i64 (k : Int) (by kernel_rfl), dif_pos ⟨by omega, by omega⟩, ← e, byL_get s k h]
  rfl
theorem own_made {w1 : World} {base g g2 : Nat} (h : w1.ownsRow base 5 1 (.slice (some ⟨g, 0, none⟩) 336 336) 336 (madeCells (Value.int .u8 0).cells (336 * 1)).toList) (e : g = g2) : OwnB w1 base g2 336 (List.replicate 336 0) := by
  subst e
  rw [made_zero] at h
  unfold OwnB
  rw [List.length_replicate]
  exact h
theorem ownB_froz {w : World} {base g cap : Nat} {L : List Int} (h : OwnB w base g cap L) (o : Nat) : w.frozen? ⟨g, o, none⟩ = false := h.frozenAt o
theorem loopL_get (t : List Int) (k i : Nat) (h : i < 336) : (loopL t k).getD i 0 = loopF t k i := by
  unfold loopL
  rw [List.getD_eq_getElem?_getD, List.getElem?_map, List.getElem?_range h]; rfl
theorem row_news {w : World} {x : Addr} {c : List Int} (h : Row w (some x) c) : ∀ j u, (c.map (Value.int .u8))[j]? = some u → w.cell? (x.add j) = some u := by
  intro j u hu
  rw [List.getElem?_map] at hu
  rcases h.2.2 with h3 | ⟨y, e, hy, hc⟩
  · rw [h3] at hu; simp at hu
  · obtain rfl : x = y := Option.some.inj e
    by_cases hj : j < c.length
    · rw [hc j hj, ← hu, List.getD_eq_getElem?_getD, List.getElem?_eq_getElem hj]; rfl
    · rw [List.getElem?_eq_none (by omega)] at hu; cases hu
theorem head_in (t : List Int) (k r m x : Int) (ht : ∀ y ∈ t, InByte y) (hk : InByte k) (hr : InByte r) (hm : InByte m) (hx : InByte x) : ∀ y ∈ headL t k r m x, InByte y := by
  intro y hy
  obtain ⟨i, hi, rfl⟩ := List.mem_map.1 hy
  unfold headF
  have q : ∀ n, InByte (t.getD n 0) := fun n => by
    rw [List.getD_eq_getElem?_getD]
    by_cases h : n < t.length
    · rw [List.getElem?_eq_getElem h]; exact ht _ (List.getElem_mem h)
    · rw [List.getElem?_eq_none (by omega)]; exact ⟨by decide, by decide⟩
  repeat' split
  all_goals first | exact q _ | assumption | exact ⟨by decide, by decide⟩
theorem raw_in (t : List Int) (k r m : Int) (c : List Int) (ht : ∀ y ∈ t, InByte y) (hk : InByte k) (hr : InByte r) (hm : InByte m) (hc : ∀ y ∈ c, InByte y) : ∀ y ∈ rawL t k r m c, InByte y := by
  intro y hy
  rcases List.mem_append.1 hy with h | h
  · exact head_in t k r m _ ht hk hr hm (sumTo_bd _ 25) y h
  · exact hc y h
theorem head_sumV (t : List Int) (k r m : Int) : sumV (headL t k r m 0) = headX t k r m ∧ sumE (headL t k r m 0) = 0 := by
  unfold sumV sumE
  rw [headL_len, if_neg (by decide), if_neg (by decide)]
  exact ⟨rfl, rfl⟩
theorem own_form7 {w : World} {base : Nat} {e : TypeId} {v : Value} {n : Nat} {xs : List Value} (o : w.ownsRow base e 1 v n xs) (hn : 1 ≤ n) : ∃ g cap, v = .slice (some ⟨g, 0, none⟩) n cap ∧ ∀ j u, xs[j]? = some u → w.cell? ((⟨g, 0, none⟩ : Addr).add j) = some u := by
  rcases id o.2 with ⟨_, h⟩ | ⟨g, cap, cur, e1, _⟩
  · omega
  · exact ⟨g, cap, e1, o.cells (by rw [e1]; rfl)⟩
theorem own_app {w : World} {base g cp a b : Nat} {A C L : List Int} (o : w.ownsRow base 5 1 (.slice (some ⟨g, 0, none⟩) (a + b) cp) (a + b) (A.map (Value.int .u8) ++ C.map (Value.int .u8))) (e : A ++ C = L) (ha : A.length = a) (hc : C.length = b) : OwnB w base g cp L := by
  subst e ha hc
  unfold OwnB
  rw [List.length_append, List.map_append]
  exact o
end Go.Proofs.YtfmddnekooojkaaGreatDoor
namespace Go.Proofs.YtfmddnekooojkaaGreatDoor
open Go.RowKit
set_option linter.unusedVariables false
set_option linter.unusedSimpArgs false

end Go.Proofs.YtfmddnekooojkaaGreatDoor
namespace Go.Proofs.YtfmddnekooojkaaGreatDoor
open Go.RowKit
set_option linter.unusedVariables false
set_option linter.unusedSimpArgs false

theorem all_no (t : List Int) (j : Nat) (h : j < t.length) (e : signB (t.getD j 0) = false) : t.all signB = false := by
  rw [List.all_eq_false]
  refine ⟨t[j], List.getElem_mem h, ?_⟩
  rw [List.getD_eq_getElem?_getD, List.getElem?_eq_getElem h] at e
  intro q
  have e2 : signB t[j] = false := e
  rw [e2] at q; cases q
theorem all_yes (t : List Int) (h : ∀ j, j < t.length → signB (t.getD j 0) = true) : t.all signB = true := by
  rw [List.all_eq_true]
  intro x hx
  obtain ⟨k, hk, rfl⟩ := List.getElem_of_mem hx
  have := h k hk
  rw [List.getD_eq_getElem?_getD, List.getElem?_eq_getElem hk] at this
  exact this
theorem makeE_long (t : List Int) (k r m : Int) (c : List Int) (h : 16 < t.length) : makeE t k r m c = 1 := by unfold makeE; rw [if_pos (.inl h)]
theorem makeE_sign (t : List Int) (k r m : Int) (c : List Int) (h : t.all signB = false) : makeE t k r m c = 1 := by unfold makeE; rw [if_pos (.inr h)]
theorem makeE_kind (t : List Int) (k r m : Int) (c : List Int) (h : ¬ 16 < t.length) (h2 : t.all signB = true) (h3 : kindOk k = false) : makeE t k r m c = 4 := by
  unfold makeE; rw [if_neg (by rw [h2]; intro q; rcases q with q | q; exact h q; cases q), if_pos h3]
theorem makeE_size (t : List Int) (k r m : Int) (c : List Int) (h : ¬ 16 < t.length) (h2 : t.all signB = true) (h3 : kindOk k = true) (h4 : 8 < r ∨ 5 < m ∨ mostOf r - 336 < (c.length : Int)) : makeE t k r m c = 5 := by
  unfold makeE; rw [if_neg (by rw [h2]; intro q; rcases q with q | q; exact h q; cases q), if_neg (by rw [h3]; decide), if_pos h4]
theorem make_small (t : List Int) (k r m : Int) (c : List Int) (h : ¬ 16 < t.length) (h2 : t.all signB = true) (h3 : kindOk k = true) (ne : makeE t k r m c ≠ 0) : 8 < r ∨ 5 < m ∨ mostOf r - 336 < (c.length : Int) := by
  apply Classical.byContradiction
  intro q
  apply ne
  unfold makeE
  rw [if_neg (by rw [h2]; intro q; rcases q with q | q; exact h q; cases q), if_neg (by rw [h3]; decide), if_neg q]
end Go.Proofs.YtfmddnekooojkaaGreatDoor
