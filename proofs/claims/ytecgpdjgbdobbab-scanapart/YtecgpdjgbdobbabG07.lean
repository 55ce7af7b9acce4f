/- A world that has at most new blocks: what was there reads as it did. Blocks that were made, behind draws; what was made is not frozen. -/
import Derived.WalkKit
import Derived.WalkLawsBesides
import Derived.WalkSpells
import Derived.Below
import Derived.Deep.Draws
import Derived.Laws.NewBlocks
namespace Go.Proofs.Ytecgpdjgbdobbab
open Go.RowKit

theorem hid {p : Prop} (h : p) : Hid p := h
theorem grown_trans {a b c : World} (h1 : Grown a b) (h2 : Grown b c) : Grown a c :=
  ⟨World.keptBut_trans h1.1 h2.1, fun x => (h2.2.1 x).trans (h1.2.1 x), Nat.le_trans h1.2.2 h2.2.2⟩
theorem gblock {W w1 : World} (g : Grown W w1) (i : Nat) (hi : i < W.heap.size) : w1.heap[i]? = W.heap[i]? := by
  have h := g.1.2.2 i hi
  split at h
  · rename_i e1 e2
    obtain ⟨rfl, rfl, hs, hc⟩ := h
    rw [e1, e2]
    congr 2
    apply Array.ext_getElem?
    intro j
    exact hc j (fun f => f)
  · rename_i e1 e2
    rcases h with h | ⟨rfl, rfl⟩
    · exact h.elim
    · rw [e1, e2]
  · exact h
theorem gcell {W w1 : World} (g : Grown W w1) : (∀ b o, b < W.heap.size → w1.cell? ⟨b, o, none⟩ = W.cell? ⟨b, o, none⟩) ∧ (∀ b o, w1.frozen? ⟨b, o, none⟩ = W.frozen? ⟨b, o, none⟩) :=
  ⟨fun b _ h => World.cell?_of_block (w := W) (gblock g b h), fun _ _ => g.2.1 _⟩
theorem gbelow {W w1 : World} (ht : w1.tape = W.tape) (g : Grown W w1) : Below W.heap.size W w1 :=
  ⟨g.1.1, ht, g.1.2.1, g.2.2, fun k hk => gblock g k hk⟩
theorem alloc1 (w : World) (c : Array Value) (t : TypeId) : Grown w (w.alloc (.cells c t)) := (Grown.refl _).alloc _ _
theorem drewN1 {a b : World} (h : Grown a b) {n : Nat} : Grown a (b.drewN n) := h
def Has (w : World) (b : Nat) (cs : Array Value) : Prop := b < w.heap.size ∧ ∀ i, w.cell? ⟨b, i, none⟩ = cs[i]?
theorem has_alloc (w : World) (cs : Array Value) (t : TypeId) : Has (w.alloc (.cells cs t)) w.heap.size cs :=
  ⟨by simp, fun i => World.cell?_alloc_new _ _ _ i⟩
theorem has_past {w : World} {b : Nat} {cs : Array Value} (h : Has w b cs) (o : Obj) : Has (w.alloc o) b cs :=
  ⟨by have := h.1; simp; omega, fun i => (World.cell?_alloc_past (hn := h.1) ..).trans (h.2 i)⟩
theorem has_other {w : World} {b : Nat} {cs : Array Value} (h : Has w b cs) {a : Addr} (ne : a.block ≠ b) (v : Value) : Has (w.setCell a v) b cs :=
  ⟨by simpa [World.setCell] using h.1, fun i => (World.cell?_setCell_other _ _ _ _ (by intro e; subst e; exact ne rfl)).trans (h.2 i)⟩
theorem has_set {w : World} {b : Nat} {cs : Array Value} (h : Has w b cs) (i : Nat) (v : Value) (hi : i < cs.size) : Has (w.setCell ⟨b, i, none⟩ v) b (cs.setIfInBounds i v) := by
  refine ⟨by simpa [World.setCell] using h.1, fun j => ?_⟩
  by_cases e : i = j
  · subst e
    have hs : w.cell? ⟨b, i, none⟩ = some cs[i] := by rw [h.2 i]; simp [hi]
    rw [World.cell?_setCell_same _ _ _ hs]
    simp [hi]
  · rw [World.cell?_setCell_other _ _ _ _ (by intro q; cases q; exact e rfl), h.2 j]
    simp [e]
theorem has_set4 {w : World} {b : Nat} {c0 c1 c2 c3 : Value} (h : Has w b #[c0, c1, c2, c3]) (v0 v1 v2 v3 : Value) :
    Has ((((w.setCell ⟨b, 0, none⟩ v0).setCell ⟨b, 1, none⟩ v1).setCell ⟨b, 2, none⟩ v2).setCell ⟨b, 3, none⟩ v3) b #[v0, v1, v2, v3] := by
  have k := has_set (has_set (has_set (has_set h 0 v0 (by simp)) 1 v1 (by simp)) 2 v2 (by simp)) 3 v3 (by simp)
  simpa using k
theorem has_grown {W w1 : World} (g : Grown W w1) {b : Nat} {cs : Array Value} (h : Has W b cs) : Has w1 b cs :=
  ⟨Nat.lt_of_lt_of_le h.1 g.2.2, fun i => ((gcell g).1 _ _ h.1).trans (h.2 i)⟩
end Go.Proofs.Ytecgpdjgbdobbab
namespace Go.Proofs.Ytecgpdjgbdobbab
open Go.RowKit

theorem has_drew {w : World} {b : Nat} {cs : Array Value} (h : Has w b cs) : Has w.drew b cs := h
theorem grown_froz {w w2 : World} (g : Grown w w2) {b : Nat} (h : w.heap.size ≤ b) (o : Nat) : w2.frozen? ⟨b, o, none⟩ = false := by
  rw [g.2.1 ⟨b, o, none⟩]
  simp [World.frozen?, Array.getElem?_eq_none h]
end Go.Proofs.Ytecgpdjgbdobbab
