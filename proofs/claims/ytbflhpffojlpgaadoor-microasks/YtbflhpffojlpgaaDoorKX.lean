/- Worlds in which all but some blocks are as they were. -/
import Derived.Test.YtbflhpffojlpgaaDoorK8
import Derived.Test.YtbflhpffojlpgaaDoorRow7
namespace Go.Proofs.YtbflhpffojlpgaaDoor
open Go.RowKit
set_option linter.unusedVariables false
set_option linter.unusedSimpArgs false

/-- All blocks are as they were, but those of F; nothing else has turned. -/
structure KeptX (F : Nat → Prop) (W w : World) : Prop where
  os : w.os = W.os
  output : w.output = W.output
  size : W.heap.size ≤ w.heap.size
  block : ∀ k, k < W.heap.size → ¬ F k → w.heap[k]? = W.heap[k]?
theorem KeptX.of {F : Nat → Prop} {W w : World} (h : Kept W w) : KeptX F W w := ⟨h.os, h.output, h.size, fun k hk _ => h.block k hk⟩
theorem KeptX.refl {F : Nat → Prop} (w : World) : KeptX F w w := ⟨rfl, rfl, Nat.le_refl _, fun _ _ _ => rfl⟩
theorem KeptX.trans {F G : Nat → Prop} {W w u : World} (h : KeptX F W w) (g : KeptX G w u) (hG : ∀ k, G k → F k ∨ W.heap.size ≤ k) : KeptX F W u :=
  ⟨g.os.trans h.os, g.output.trans h.output, Nat.le_trans h.size g.size, fun k hk hf =>
    (g.block k (Nat.lt_of_lt_of_le hk h.size) (fun q => by rcases hG k q with q | q <;> first | exact hf q | omega)).trans (h.block k hk hf)⟩
theorem KeptX.then {F : Nat → Prop} {W w u : World} (h : KeptX F W w) (g : Kept w u) : KeptX F W u :=
  h.trans (G := fun _ => False) ⟨g.os, g.output, g.size, fun k hk _ => g.block k hk⟩ (fun _ q => q.elim)
theorem KeptX.kept {F : Nat → Prop} {W w u : World} (g : KeptX F w u) (h : Kept W w) (hF : ∀ k, F k → W.heap.size ≤ k) : Kept W u :=
  ⟨g.os.trans h.os, g.output.trans h.output, Nat.le_trans h.size g.size, fun k hk =>
    (g.block k (Nat.lt_of_lt_of_le hk h.size) (fun q => by have := hF k q; omega)).trans (h.block k hk)⟩
theorem KeptX.setCell {F : Nat → Prop} {W w : World} (h : KeptX F W w) {g : Nat} (hg : F g ∨ W.heap.size ≤ g) (j : Nat) (v : Value) : KeptX F W (w.setCell ⟨g, j, none⟩ v) :=
  ⟨h.os, h.output, by simpa using h.size, fun k hk hf => (heap_setCell_other w ⟨g, j, none⟩ k v (fun e => by
    have e : k = g := e
    subst e
    rcases hg with q | q
    · exact hf q
    · omega)).trans (h.block k hk hf)⟩
theorem KeptX.drew {F : Nat → Prop} {W w : World} (h : KeptX F W w) : KeptX F W w.drew := ⟨h.os, h.output, h.size, h.block⟩
theorem KeptX.drewN {F : Nat → Prop} {W w : World} (h : KeptX F W w) {n : Nat} : KeptX F W (w.drewN n) := ⟨h.os, h.output, h.size, h.block⟩
theorem KeptX.alloc {F : Nat → Prop} {W w : World} (h : KeptX F W w) (o : Obj) : KeptX F W (w.alloc o) := h.then ((Kept.refl w).alloc o)
theorem cellX {F : Nat → Prop} {W u : World} (k : KeptX F W u) {x : Addr} (hx : x.block < W.heap.size) (hf : ¬ F x.block) : u.cell? x = W.cell? x :=
  World.cell?_of_block (k.block x.block hx hf)
theorem hasX {F : Nat → Prop} {W u : World} (k : KeptX F W u) {b : Nat} {cs : Array Value} (hb : Has W b cs) (hf : ¬ F b) : Has u b cs :=
  ⟨Nat.lt_of_lt_of_le hb.1 k.size, fun i => (cellX k (x := ⟨b, i, none⟩) hb.1 hf).trans (hb.2 i)⟩
theorem frozX {F : Nat → Prop} {W u : World} (k : KeptX F W u) {b : Nat} (hb : b < W.heap.size) (hf : ¬ F b) (h : ∀ o, W.frozen? ⟨b, o, none⟩ = false) : ∀ o, u.frozen? ⟨b, o, none⟩ = false :=
  fun o => by rw [World.frozen?_of_block (k.block b hb hf)]; exact h o
/-- A row lies outside of F. -/
def Off (F : Nat → Prop) (a : Option Addr) (zs : List Int) : Prop := zs = [] ∨ ∀ x, a = some x → ¬ F x.block
theorem rowX {F : Nat → Prop} {W u : World} (k : KeptX F W u) {a : Option Addr} {zs : List Int} (h : Row W a zs) (ho : Off F a zs) : Row u a zs := by
  obtain ⟨h1, h2, h3⟩ := h
  refine ⟨h1, h2, ?_⟩
  rcases h3 with h3 | ⟨x, e, hx, hc⟩
  · exact .inl h3
  · by_cases hz : zs = []
    · exact .inl hz
    · refine .inr ⟨x, e, Nat.lt_of_lt_of_le hx k.size, fun i hi => ?_⟩
      rw [cellX k (by rw [addB]; exact hx) (by rw [addB]; exact (ho.resolve_left hz) x e)]
      exact hc i hi
theorem off_of {F : Nat → Prop} {w : World} {a : Option Addr} {zs : List Int} (h : Row w a zs) (hF : ∀ k, F k → w.heap.size ≤ k) : Off F a zs := by
  rcases h.2.2 with h3 | ⟨x, e, hx, hc⟩
  · exact .inl h3
  · exact .inr (fun y hy q => by rw [e] at hy; cases hy; have := hF _ q; omega)
theorem off_grow {F G : Nat → Prop} {w : World} {a : Option Addr} {zs : List Int} (h : Row w a zs) (ho : Off F a zs) (hG : ∀ k, G k → F k ∨ w.heap.size ≤ k) : Off G a zs := by
  rcases h.2.2 with h3 | ⟨x, e, hx, hc⟩
  · exact .inl h3
  · rcases ho with ho | ho
    · exact .inl ho
    · exact .inr (fun y hy q => by
        rcases hG _ q with q | q
        · exact ho y hy q
        · rw [e] at hy; cases hy; omega)
end Go.Proofs.YtbflhpffojlpgaaDoor
