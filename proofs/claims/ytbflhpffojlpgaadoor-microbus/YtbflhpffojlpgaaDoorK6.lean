/- What was there is kept: the word for worlds behind an append too (Grown says besides that nothing new is frozen). -/
import Derived.Test.YtbflhpffojlpgaaDoorGrow2
import Derived.OwnWalk
import Derived.Carry
namespace Go.Proofs.YtbflhpffojlpgaaDoor
open Go.RowKit
set_option linter.unusedVariables false
set_option linter.unusedSimpArgs false

structure Kept (W w : World) : Prop where
  os : w.os = W.os
  output : w.output = W.output
  size : W.heap.size ≤ w.heap.size
  block : ∀ k, k < W.heap.size → w.heap[k]? = W.heap[k]?
theorem Kept.refl (W : World) : Kept W W := ⟨rfl, rfl, Nat.le_refl _, fun _ _ => rfl⟩
theorem Kept.trans {a b c : World} (h : Kept a b) (k : Kept b c) : Kept a c :=
  ⟨k.os.trans h.os, k.output.trans h.output, Nat.le_trans h.size k.size, fun i hi => (k.block i (Nat.lt_of_lt_of_le hi h.size)).trans (h.block i hi)⟩
theorem Kept.of {W w : World} (g : Grown W w) : Kept W w := ⟨g.1.1, g.1.2.1, g.2.2, fun k hk => gblock g k hk⟩
theorem Kept.alloc {W w : World} (h : Kept W w) (o : Obj) : Kept W (w.alloc o) :=
  h.trans ⟨rfl, rfl, by show w.heap.size ≤ (w.heap.push _).size; simp, fun k hk => Below.heap_alloc w o k hk⟩
theorem Kept.drew {W w : World} (h : Kept W w) : Kept W w.drew := ⟨h.os, h.output, h.size, h.block⟩
theorem Kept.drewN {W w : World} (h : Kept W w) {n : Nat} : Kept W (w.drewN n) := ⟨h.os, h.output, h.size, h.block⟩
theorem Kept.by {W w w2 : World} {row : Option Nat} (h : Kept W w) (g : w.grownBy w2 row) (hr : ∀ k, row = some k → W.heap.size ≤ k) : Kept W w2 :=
  ⟨g.os.trans h.os, g.output.trans h.output, Nat.le_trans h.size g.size, fun k hk => (g.block k (Nat.lt_of_lt_of_le hk h.size) (fun e => by have := hr k e.symm; omega)).trans (h.block k hk)⟩
theorem Kept.cell {W w : World} (h : Kept W w) {x : Addr} (hx : x.block < W.heap.size) : w.cell? x = W.cell? x := World.cell?_of_block (w := W) (h.block x.block hx)
theorem Kept.frame {W w : World} (h : Kept W w) (may : MemPlace → Prop) : W.keptBut w may := by
  refine ⟨h.os, h.output, fun i hi => ?_⟩
  rw [h.block i hi]
  split <;> simp_all
theorem Kept.same {W w : World} (h : Kept W w) {p : MemPlace} (hp : p.block < W.heap.size) : W.sameAt w p := by
  cases p with
  | cell b o => exact World.cell?_of_block (w := W) (h.block b hp)
  | map b => exact h.block b hp
theorem Kept.trod {H : Type} {enc : TypeId × Value → H} {P : Program} {t : TypeId} (hl : laidOutB P = true) (hr : P.readableRec t = true) (hrow : t < P.types.size) {W w : World} {v : Value} {d : DataW H} {ps : List MemPlace}
    (h : DataW.Trod enc P W 0 (fun _ => true) true t v d ps) (hb : Kept W w) (hlt : ∀ x ∈ ps, x.block < W.heap.size) :
    DataW.Trod enc P w 0 (fun b => decide (b < W.heap.size)) true t v d ps :=
  WideElems.Trod_stays hl hr hrow h (fun x hx => hb.same (hlt x hx)) (fun x hx => by simpa using hlt x hx)
theorem owns_kept {W w : World} (h : Kept W w) {base : Nat} {e : TypeId} {size : Nat} {v : Value} {n : Nat} {xs : List Value} (o : W.ownsRow base e size v n xs) : w.ownsRow base e size v n xs := by
  obtain ⟨o1, o2⟩ := o
  refine ⟨o1, ?_⟩
  rcases o2 with o2 | ⟨g, cap, cur, e1, e2, e3, e4⟩
  · exact .inl o2
  · refine .inr ⟨g, cap, cur, e1, e2, ?_, e4⟩
    have : g < W.heap.size := by
      rcases Nat.lt_or_ge g W.heap.size with q | q
      · exact q
      · rw [Array.getElem?_eq_none q] at e3; cases e3
    rw [h.block g this]; exact e3
theorem owns_row {w : World} {base : Nat} {e : TypeId} {size : Nat} {v : Value} {n : Nat} {xs : List Value} (o : w.ownsRow base e size v n xs) : ∀ k, v.ownBlock = some k → base ≤ k := fun k hk => (o.lt k hk).1
end Go.Proofs.YtbflhpffojlpgaaDoor
