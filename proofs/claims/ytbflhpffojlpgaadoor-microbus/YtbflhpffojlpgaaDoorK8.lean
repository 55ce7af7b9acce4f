/- What was there is kept: stores into blocks of one's own; a block of one's own behind a call. -/
import Derived.Test.YtbflhpffojlpgaaDoorK6
namespace Go.Proofs.YtbflhpffojlpgaaDoor
open Go.RowKit
set_option linter.unusedVariables false
set_option linter.unusedSimpArgs false

theorem Kept.setCell8 {W w : World} (h : Kept W w) {g : Nat} (hg : W.heap.size ≤ g) (j : Nat) (v : Value) : Kept W (w.setCell ⟨g, j, none⟩ v) :=
  ⟨h.os, h.output, by simpa using h.size, fun k hk => (heap_setCell_other w ⟨g, j, none⟩ k v (fun e => by have : k = g := e; omega)).trans (h.block k hk)⟩
theorem Kept.frz {W w : World} (h : Kept W w) {x : Addr} (hx : x.block < W.heap.size) : w.frozen? x = W.frozen? x := by
  unfold World.frozen?; rw [h.block x.block hx]
/-- A block of the walker's own, behind a call. -/
theorem mine {w0 W u : World} (g : Grown w0 W) (k : Kept W u) {b : Nat} {cs : Array Value} (hb : Has W b cs) (h0 : w0.heap.size ≤ b) : Has u b cs ∧ ∀ o, u.frozen? ⟨b, o, none⟩ = false :=
  ⟨⟨Nat.lt_of_lt_of_le hb.1 k.size, fun i => (k.cell (x := ⟨b, i, none⟩) hb.1).trans (hb.2 i)⟩, fun o => by rw [k.frz (x := ⟨b, o, none⟩) hb.1]; exact grown_froz g h0 o⟩
theorem has_set6 {w : World} {b : Nat} {c0 c1 c2 c3 c4 c5 : Value} (h : Has w b #[c0, c1, c2, c3, c4, c5]) (v0 v1 v2 v3 v4 v5 : Value) :
    Has ((((((w.setCell ⟨b, 0, none⟩ v0).setCell ⟨b, 1, none⟩ v1).setCell ⟨b, 2, none⟩ v2).setCell ⟨b, 3, none⟩ v3).setCell ⟨b, 4, none⟩ v4).setCell ⟨b, 5, none⟩ v5) b #[v0, v1, v2, v3, v4, v5] := by
  have k := has_set (has_set (has_set (has_set (has_set (has_set h 0 v0 (by simp)) 1 v1 (by simp)) 2 v2 (by simp)) 3 v3 (by simp)) 4 v4 (by simp)) 5 v5 (by simp)
  simpa using k
theorem Kept.set6 {W w : World} (h : Kept W w) {b : Nat} (hb : W.heap.size ≤ b) (v0 v1 v2 v3 v4 v5 : Value) :
    Kept W ((((((w.setCell ⟨b, 0, none⟩ v0).setCell ⟨b, 1, none⟩ v1).setCell ⟨b, 2, none⟩ v2).setCell ⟨b, 3, none⟩ v3).setCell ⟨b, 4, none⟩ v4).setCell ⟨b, 5, none⟩ v5) :=
  (((((h.setCell8 hb 0 v0).setCell8 hb 1 v1).setCell8 hb 2 v2).setCell8 hb 3 v3).setCell8 hb 4 v4).setCell8 hb 5 v5
theorem hasK {W u : World} (k : Kept W u) {b : Nat} {cs : Array Value} (hb : Has W b cs) : Has u b cs :=
  ⟨Nat.lt_of_lt_of_le hb.1 k.size, fun i => (k.cell (x := ⟨b, i, none⟩) hb.1).trans (hb.2 i)⟩
theorem frozK {W u : World} (k : Kept W u) {b : Nat} (hb : b < W.heap.size) (hf : ∀ o, W.frozen? ⟨b, o, none⟩ = false) : ∀ o, u.frozen? ⟨b, o, none⟩ = false :=
  fun o => by rw [k.frz (x := ⟨b, o, none⟩) hb]; exact hf o
theorem has_by {W w2 : World} {row : Option Nat} {b : Nat} {cs : Array Value} (hb : Has W b cs) (g : W.grownBy w2 row) (hr : ∀ k, row = some k → k ≠ b) : Has w2 b cs :=
  ⟨Nat.lt_of_lt_of_le hb.1 g.size, fun i => (World.cell?_of_block (w := W) (g.block b hb.1 (fun e => hr b e.symm rfl))).trans (hb.2 i)⟩
theorem froz_new (w : World) (c : Array Value) (t : TypeId) : ∀ o, (w.alloc (.cells c t)).frozen? ⟨w.heap.size, o, none⟩ = false :=
  fun o => grown_froz (alloc1 w c t) (Nat.le_refl _) o
end Go.Proofs.YtbflhpffojlpgaaDoor
