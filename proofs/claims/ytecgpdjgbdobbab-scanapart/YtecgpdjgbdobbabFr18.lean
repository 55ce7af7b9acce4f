/- Pictures: the program's and the document's. -/
import Derived.Test.YtecgpdjgbdobbabSw18
import Derived.Laws.CopyOwn
namespace Go.Proofs.Ytecgpdjgbdobbab
open Go.RowKit
set_option linter.unusedVariables false
set_option linter.unusedSimpArgs false

/-- The window's line ahead of a line. -/
def fwin (l : List Vd) : Nat → Int
  | 0 => 0
  | j + 1 => if j < l.length then nxP (l.getD j vd0) (j : Int) (fwin l j) else fwin l j
def frow (l : List Vd) (j : Nat) : List Int := if j < l.length then lineP (l.getD j vd0) (j : Int) (fwin l j) else List.replicate 160 0
def ftake (l : List Vd) : Nat → List Int
  | 0 => []
  | j + 1 => ftake l j ++ frow l j
def frameP (l : List Vd) : List Int := ftake l 144
theorem fwin_bd (l : List Vd) : ∀ j, 0 ≤ fwin l j ∧ fwin l j ≤ 255
  | 0 => ⟨Int.le_refl 0, show (0 : Int) ≤ 255 by decide⟩
  | j + 1 => by
    have h := fwin_bd l j
    show 0 ≤ (if _ then _ else _ : Int) ∧ (if _ then _ else _ : Int) ≤ 255
    split
    · exact nx_bd h.1 h.2
    · exact h
theorem fwin_yes {l : List Vd} {j : Nat} (h : j < l.length) : fwin l (j + 1) = nxP (l.getD j vd0) (j : Int) (fwin l j) := if_pos h
theorem fwin_no {l : List Vd} {j : Nat} (h : ¬ j < l.length) : fwin l (j + 1) = fwin l j := if_neg h
theorem frow_yes {l : List Vd} {j : Nat} (h : j < l.length) : frow l j = lineP (l.getD j vd0) (j : Int) (fwin l j) := if_pos h
theorem frow_no {l : List Vd} {j : Nat} (h : ¬ j < l.length) : frow l j = List.replicate 160 0 := if_neg h
theorem frow_len (l : List Vd) (j : Nat) : (frow l j).length = 160 := by
  unfold frow
  split
  · exact line_len _ _ _
  · exact List.length_replicate
theorem zeros_in (n : Nat) : ∀ x ∈ List.replicate n (0 : Int), InByte x := fun x hx => by rw [(List.mem_replicate.1 hx).2]; exact ⟨by decide, by decide⟩
theorem frow_in (l : List Vd) (j : Nat) : ∀ x ∈ frow l j, InByte x := by
  unfold frow
  split
  · exact line_in _ _ _
  · exact zeros_in _
theorem ftake_len (l : List Vd) : ∀ j, (ftake l j).length = 160 * j
  | 0 => rfl
  | j + 1 => by
    show (ftake l j ++ frow l j).length = _
    rw [List.length_append, ftake_len l j, frow_len]; omega
theorem ftake_in (l : List Vd) : ∀ j, ∀ x ∈ ftake l j, InByte x
  | 0 => fun x hx => by cases hx
  | j + 1 => fun x hx => by
    rcases List.mem_append.1 hx with q | q
    · exact ftake_in l j x q
    · exact frow_in l j x q
/-- A picture of which j lines are drawn. -/
def picL (l : List Vd) (j : Nat) : List Int := ftake l j ++ List.replicate (23040 - 160 * j) 0
theorem pic_len (l : List Vd) {j : Nat} (h : j ≤ 144) : (picL l j).length = 23040 := by
  unfold picL
  rw [List.length_append, ftake_len, List.length_replicate]; omega
theorem pic_0 (l : List Vd) : picL l 0 = List.replicate 23040 0 := rfl
theorem pic_in (l : List Vd) (j : Nat) : ∀ x ∈ picL l j, InByte x := fun x hx => by
  rcases List.mem_append.1 hx with q | q
  · exact ftake_in l j x q
  · exact zeros_in _ x q
def spl18 (L : List Int) (o : Nat) (C : List Int) : List Int := L.take o ++ C ++ L.drop (o + C.length)
theorem pic_next (l : List Vd) {j : Nat} (h : j < 144) : spl18 (picL l j) (j * 160) (frow l j) = picL l (j + 1) := by
  unfold spl18 picL
  rw [frow_len, List.take_append_of_le_length (by rw [ftake_len]; omega), List.take_of_length_le (by rw [ftake_len]; omega), List.drop_append, List.drop_of_length_le (by rw [ftake_len]; omega), List.nil_append, ftake_len, List.drop_replicate, show ftake l (j + 1) = ftake l j ++ frow l j from rfl, show 23040 - 160 * j - (j * 160 + 160 - 160 * j) = 23040 - 160 * (j + 1) by omega]
theorem ftake_past (l : List Vd) {m : Nat} (h : l.length ≤ m) : ∀ k, ftake l (m + k) = ftake l m ++ List.replicate (160 * k) 0
  | 0 => by simp
  | k + 1 => by
    show ftake l (m + k) ++ frow l (m + k) = _
    rw [ftake_past l h k, frow_no (by omega), List.append_assoc, List.replicate_append_replicate]
    congr 2
theorem pic_144 (l : List Vd) : picL l 144 = frameP l := by
  unfold picL frameP
  simp
theorem pic_end (l : List Vd) {m : Nat} (h : l.length ≤ m) (h2 : m ≤ 144) : picL l m = frameP l := by
  unfold picL frameP
  have e := ftake_past l h (144 - m)
  rw [show m + (144 - m) = 144 by omega] at e
  rw [e, show 23040 - 160 * m = 160 * (144 - m) by omega]
/-- Registers and memories lie at an address. -/
structure VAt (u : World) (y : Addr) (v : Vd) : Prop where
  c0 : u.cell? y = some (.int .u8 v.ctl)
  c1 : u.cell? ⟨y.block, y.off + 1, none⟩ = some (.int .u8 v.scy)
  c2 : u.cell? ⟨y.block, y.off + 2, none⟩ = some (.int .u8 v.scx)
  c3 : u.cell? ⟨y.block, y.off + 3, none⟩ = some (.int .u8 v.wy)
  c4 : u.cell? ⟨y.block, y.off + 4, none⟩ = some (.int .u8 v.wx)
  c5 : u.cell? ⟨y.block, y.off + 5, none⟩ = some (.int .u8 v.bgp)
  c6 : u.cell? ⟨y.block, y.off + 6, none⟩ = some (.int .u8 v.o0)
  c7 : u.cell? ⟨y.block, y.off + 7, none⟩ = some (.int .u8 v.o1)
  c8 : u.cell? ⟨y.block, y.off + 8, none⟩ = some (.slice v.va v.vz.length v.vc)
  c9 : u.cell? ⟨y.block, y.off + 9, none⟩ = some (.slice v.oa v.oz.length v.oc)
theorem vat_kept {W w : World} (k : Kept W w) {y : Addr} {v : Vd} (hy : y.block < W.heap.size) (h : VAt W y v) : VAt w y v :=
  ⟨(k.cell hy).trans h.c0, (k.cell (x := ⟨y.block, y.off + 1, none⟩) hy).trans h.c1, (k.cell (x := ⟨y.block, y.off + 2, none⟩) hy).trans h.c2, (k.cell (x := ⟨y.block, y.off + 3, none⟩) hy).trans h.c3, (k.cell (x := ⟨y.block, y.off + 4, none⟩) hy).trans h.c4, (k.cell (x := ⟨y.block, y.off + 5, none⟩) hy).trans h.c5, (k.cell (x := ⟨y.block, y.off + 6, none⟩) hy).trans h.c6, (k.cell (x := ⟨y.block, y.off + 7, none⟩) hy).trans h.c7, (k.cell (x := ⟨y.block, y.off + 8, none⟩) hy).trans h.c8, (k.cell (x := ⟨y.block, y.off + 9, none⟩) hy).trans h.c9⟩
theorem vat_at {w : World} {a : Option Addr} {L : List Vd} (h : FRow w a 10 (L.map vdC)) (hl : 0 < L.length) : ∃ x : Addr, a = some x ∧ x.block < w.heap.size ∧ ∀ j, j < L.length → VAt w (x.add (j * 10)) (L.getD j vd0) := by
  obtain ⟨x, e, hx, hc⟩ := frow_getD vd0 h hl
  have off : ∀ (j i : Nat), 0 < i → x.add (j * 10 + i) = ⟨(x.add (j * 10)).block, (x.add (j * 10)).off + i, none⟩ := fun j i hi => by rw [← addF]; unfold Addr.add; rw [if_neg (by omega)]
  refine ⟨x, e, hx, fun j hj => ⟨?_, ?_, ?_, ?_, ?_, ?_, ?_, ?_, ?_, ?_⟩⟩
  · exact (hc j hj 0 (by decide))
  · rw [← off j 1 (by decide)]; exact (hc j hj 1 (by decide))
  · rw [← off j 2 (by decide)]; exact (hc j hj 2 (by decide))
  · rw [← off j 3 (by decide)]; exact (hc j hj 3 (by decide))
  · rw [← off j 4 (by decide)]; exact (hc j hj 4 (by decide))
  · rw [← off j 5 (by decide)]; exact (hc j hj 5 (by decide))
  · rw [← off j 6 (by decide)]; exact (hc j hj 6 (by decide))
  · rw [← off j 7 (by decide)]; exact (hc j hj 7 (by decide))
  · rw [← off j 8 (by decide)]; exact (hc j hj 8 (by decide))
  · rw [← off j 9 (by decide)]; exact (hc j hj 9 (by decide))
/-- A copy into a row of bytes, out of cells that can be read. -/
theorem copyB18 {w : World} {g : Nat} {L : List Int} (hh : BB w g L) (off dLen dCap : Nat) (ad : Addr) (sCap : Nat) (C : List Int) (hl : C.length ≤ dLen) (hf : off + C.length ≤ L.length)
    (hs : ∀ j u, (C.map (Value.int .u8))[j]? = some u → w.cell? (ad.add j) = some u) (W : World) (k : Kept W w) (hW : W.heap.size ≤ g) :
    ∃ w2, (∀ ty, (Builtin.copy_ #[22, 22] ty #[.slice (some ⟨g, off, none⟩) dLen dCap, .slice (some ad) C.length sCap]).run Try.prog w = .ok (.int .i64 (C.length : Int)) w2) ∧ BB w2 g (spl18 L off C) ∧ Kept W w2 := by
  have e : ((L.map (Value.int .u8)).take off ++ C.map (Value.int .u8) ++ (L.map (Value.int .u8)).drop (off + (C.map (Value.int .u8)).length)) = (spl18 L off C).map (Value.int .u8) := by
    unfold spl18
    rw [List.length_map, List.map_append, List.map_append, List.map_take, List.map_drop]
  refine ⟨w.setRow g ((spl18 L off C).map (Value.int .u8)).toArray, fun ty => ?_, ?_, ?_⟩
  · have := run_copy_row Try.prog w 22 22 ty 5 g off dLen dCap ad C.length sCap _ 5 (C.map (Value.int .u8)) Try.underlying22 (by kernel_rfl) hh (by rw [List.length_map]; exact (Nat.min_eq_left hl).symm) hs (by simpa using hf) (fun v hv => by obtain ⟨q, _, rfl⟩ := List.mem_map.1 hv; rfl)
    rw [List.toList_toArray, e, List.length_map] at this
    exact this
  · exact setRow_heap w g _ _ _ _ hh
  · exact ⟨k.os, k.output, by simpa using k.size, fun i hi => (setRow_other w g i _ (by omega)).trans (k.block i hi)⟩
end Go.Proofs.Ytecgpdjgbdobbab
