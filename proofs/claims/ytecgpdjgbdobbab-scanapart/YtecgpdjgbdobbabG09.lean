/- What was there is kept: the word for worlds behind an append too (Grown says besides that nothing new is frozen). Bytes that lie in memory, for layer 7. What was there is kept: stores into blocks of one's own; a block of one's own behind a call. Worlds in which all but some blocks are as they were. Plain numbers of layer 7: what a head says. -/
import Derived.Test.YtecgpdjgbdobbabG07
import Derived.OwnWalk
import Derived.Carry
import Derived.Test.YtecgpdjgbdobbabG00
namespace Go.Proofs.Ytecgpdjgbdobbab
open Go.RowKit
set_option linter.unusedVariables false
set_option linter.unusedSimpArgs false

structure Kept (W w : World) : Prop where
  os : w.os = W.os
  output : w.output = W.output
  size : W.heap.size ≤ w.heap.size
  block : ∀ k, k < W.heap.size → w.heap[k]? = W.heap[k]?
theorem Kept.refl (W : World) : Kept W W := ⟨rfl, rfl, Nat.le_refl _, fun _ _ => rfl⟩
theorem Kept.trans {a b c : World} (h : Kept a b) (k : Kept b c) : Kept a c :=
  ⟨k.os.trans h.os, k.output.trans h.output, Nat.le_trans h.size k.size, fun i hi => (k.block i (Nat.lt_of_lt_of_le hi h.size)).trans (h.block i hi)⟩
theorem Kept.of {W w : World} (g : Grown W w) : Kept W w := ⟨g.1.1, g.1.2.1, g.2.2, fun k hk => gblock g k hk⟩
theorem Kept.alloc {W w : World} (h : Kept W w) (o : Obj) : Kept W (w.alloc o) :=
  h.trans ⟨rfl, rfl, by show w.heap.size ≤ (w.heap.push _).size; simp, fun k hk => Below.heap_alloc w o k hk⟩
theorem Kept.drew {W w : World} (h : Kept W w) : Kept W w.drew := ⟨h.os, h.output, h.size, h.block⟩
theorem Kept.drewN {W w : World} (h : Kept W w) {n : Nat} : Kept W (w.drewN n) := ⟨h.os, h.output, h.size, h.block⟩
theorem Kept.by {W w w2 : World} {row : Option Nat} (h : Kept W w) (g : w.grownBy w2 row) (hr : ∀ k, row = some k → W.heap.size ≤ k) : Kept W w2 :=
  ⟨g.os.trans h.os, g.output.trans h.output, Nat.le_trans h.size g.size, fun k hk => (g.block k (Nat.lt_of_lt_of_le hk h.size) (fun e => by have := hr k e.symm; omega)).trans (h.block k hk)⟩
theorem Kept.cell {W w : World} (h : Kept W w) {x : Addr} (hx : x.block < W.heap.size) : w.cell? x = W.cell? x := World.cell?_of_block (w := W) (h.block x.block hx)
theorem Kept.frame {W w : World} (h : Kept W w) (may : MemPlace → Prop) : W.keptBut w may := by
  refine ⟨h.os, h.output, fun i hi => ?_⟩
  rw [h.block i hi]
  split <;> simp_all
theorem Kept.same {W w : World} (h : Kept W w) {p : MemPlace} (hp : p.block < W.heap.size) : W.sameAt w p := by
  cases p with
  | cell b o => exact World.cell?_of_block (w := W) (h.block b hp)
  | map b => exact h.block b hp
theorem Kept.trod {H : Type} {enc : TypeId × Value → H} {P : Program} {t : TypeId} (hl : laidOutB P = true) (hr : P.readableRec t = true) (hrow : t < P.types.size) {W w : World} {v : Value} {d : DataW H} {ps : List MemPlace}
    (h : DataW.Trod enc P W 0 (fun _ => true) true t v d ps) (hb : Kept W w) (hlt : ∀ x ∈ ps, x.block < W.heap.size) :
    DataW.Trod enc P w 0 (fun b => decide (b < W.heap.size)) true t v d ps :=
  WideElems.Trod_stays hl hr hrow h (fun x hx => hb.same (hlt x hx)) (fun x hx => by simpa using hlt x hx)
theorem owns_kept {W w : World} (h : Kept W w) {base : Nat} {e : TypeId} {size : Nat} {v : Value} {n : Nat} {xs : List Value} (o : W.ownsRow base e size v n xs) : w.ownsRow base e size v n xs := by
  obtain ⟨o1, o2⟩ := o
  refine ⟨o1, ?_⟩
  rcases o2 with o2 | ⟨g, cap, cur, e1, e2, e3, e4⟩
  · exact .inl o2
  · refine .inr ⟨g, cap, cur, e1, e2, ?_, e4⟩
    have : g < W.heap.size := by
      rcases Nat.lt_or_ge g W.heap.size with q | q
      · exact q
      · rw [Array.getElem?_eq_none q] at e3; cases e3
    rw [h.block g this]; exact e3
theorem owns_row {w : World} {base : Nat} {e : TypeId} {size : Nat} {v : Value} {n : Nat} {xs : List Value} (o : w.ownsRow base e size v n xs) : ∀ k, v.ownBlock = some k → base ≤ k := fun k hk => (o.lt k hk).1
end Go.Proofs.Ytecgpdjgbdobbab
namespace Go.Proofs.Ytecgpdjgbdobbab
open Go.RowKit
set_option linter.unusedVariables false
set_option linter.unusedSimpArgs false

def InByte (z : Int) : Prop := 0 ≤ z ∧ z ≤ 255
def Row (w : World) (a : Option Addr) (zs : List Int) : Prop :=
  zs.length ≤ maxLen ∧ (∀ z ∈ zs, InByte z) ∧ (zs = [] ∨ ∃ x : Addr, a = some x ∧ x.block < w.heap.size ∧ ∀ i, i < zs.length → w.cell? (x.add i) = some (.int .u8 (zs.getD i 0)))
theorem addB (x : Addr) (n : Nat) : (x.add n).block = x.block := by unfold Addr.add; split <;> rfl
theorem row_kept {W w : World} (g : Kept W w) {a : Option Addr} {zs : List Int} (h : Row W a zs) : Row w a zs := by
  obtain ⟨h1, h2, h3⟩ := h
  refine ⟨h1, h2, ?_⟩
  rcases h3 with h3 | ⟨x, e, hx, hc⟩
  · exact .inl h3
  · exact .inr ⟨x, e, Nat.lt_of_lt_of_le hx g.size, fun i hi => by rw [g.cell (x := x.add i) (by rw [addB]; exact hx)]; exact hc i hi⟩
theorem add_add (x : Addr) (k i : Nat) : (x.add k).add i = x.add (k + i) := by
  unfold Addr.add
  by_cases hk : k = 0
  · subst hk; simp
  · by_cases hi : i = 0
    · subst hi; simp [hk]
    · simp [hk, hi]; omega
theorem row_drop {w : World} {x : Addr} {zs : List Int} (k : Nat) (h : Row w (some x) zs) (hk : k ≤ zs.length) : Row w (some (x.add k)) (zs.drop k) := by
  obtain ⟨h1, h2, h3⟩ := h
  refine ⟨by simp; omega, fun z hz => h2 z (List.mem_of_mem_drop hz), ?_⟩
  rcases h3 with h3 | ⟨y, e, hy, hc⟩
  · exact .inl (by rw [h3]; simp)
  · obtain rfl : x = y := Option.some.inj e
    refine .inr ⟨x.add k, rfl, by rw [addB]; exact hy, fun i hi => ?_⟩
    have hi2 : k + i < zs.length := by simp at hi; omega
    rw [add_add, hc (k + i) hi2]
    simp [List.getD_eq_getElem?_getD, List.getElem?_drop]
theorem row_take {w : World} {a : Option Addr} {z : List Int} (n : Nat) (h : Row w a z) : Row w a (z.take n) := by
  obtain ⟨h1, h2, h3⟩ := h
  refine ⟨by rw [List.length_take]; omega, fun y hy => h2 y (List.mem_of_mem_take hy), ?_⟩
  rcases h3 with h3 | ⟨x, e, hx, hc⟩
  · exact .inl (by rw [h3]; simp)
  · refine .inr ⟨x, e, hx, fun i hi => ?_⟩
    rw [List.length_take] at hi
    rw [hc i (by omega), List.getD_eq_getElem?_getD, List.getD_eq_getElem?_getD, List.getElem?_take_of_lt (by omega)]
theorem row_get {w : World} {a : Option Addr} {zs : List Int} (h : Row w a zs) (hne : 0 < zs.length) : ∃ x : Addr, a = some x ∧ x.block < w.heap.size ∧ ∀ i, i < zs.length → w.cell? (x.add i) = some (.int .u8 (zs.getD i 0)) ∧ InByte (zs.getD i 0) := by
  rcases h.2.2 with h3 | ⟨x, e, hx, hc⟩
  · rw [h3] at hne; simp at hne
  · refine ⟨x, e, hx, fun i hi => ⟨hc i hi, h.2.1 _ ?_⟩⟩
    rw [List.getD_eq_getElem?_getD, List.getElem?_eq_getElem hi]
    exact List.getElem_mem hi
end Go.Proofs.Ytecgpdjgbdobbab
namespace Go.Proofs.Ytecgpdjgbdobbab
open Go.RowKit
set_option linter.unusedVariables false
set_option linter.unusedSimpArgs false

theorem Kept.setCell8 {W w : World} (h : Kept W w) {g : Nat} (hg : W.heap.size ≤ g) (j : Nat) (v : Value) : Kept W (w.setCell ⟨g, j, none⟩ v) :=
  ⟨h.os, h.output, by simpa using h.size, fun k hk => (heap_setCell_other w ⟨g, j, none⟩ k v (fun e => by have : k = g := e; omega)).trans (h.block k hk)⟩
theorem Kept.frz {W w : World} (h : Kept W w) {x : Addr} (hx : x.block < W.heap.size) : w.frozen? x = W.frozen? x := by
  unfold World.frozen?; rw [h.block x.block hx]
/-- A block of the walker's own, behind a call. -/
theorem mine {w0 W u : World} (g : Grown w0 W) (k : Kept W u) {b : Nat} {cs : Array Value} (hb : Has W b cs) (h0 : w0.heap.size ≤ b) : Has u b cs ∧ ∀ o, u.frozen? ⟨b, o, none⟩ = false :=
  ⟨⟨Nat.lt_of_lt_of_le hb.1 k.size, fun i => (k.cell (x := ⟨b, i, none⟩) hb.1).trans (hb.2 i)⟩, fun o => by rw [k.frz (x := ⟨b, o, none⟩) hb.1]; exact grown_froz g h0 o⟩
theorem has_set6 {w : World} {b : Nat} {c0 c1 c2 c3 c4 c5 : Value} (h : Has w b #[c0, c1, c2, c3, c4, c5]) (v0 v1 v2 v3 v4 v5 : Value) :
    Has ((((((w.setCell ⟨b, 0, none⟩ v0).setCell ⟨b, 1, none⟩ v1).setCell ⟨b, 2, none⟩ v2).setCell ⟨b, 3, none⟩ v3).setCell ⟨b, 4, none⟩ v4).setCell ⟨b, 5, none⟩ v5) b #[v0, v1, v2, v3, v4, v5] := by
  have k := has_set (has_set (has_set (has_set (has_set (has_set h 0 v0 (by simp)) 1 v1 (by simp)) 2 v2 (by simp)) 3 v3 (by simp)) 4 v4 (by simp)) 5 v5 (by simp)
  simpa using k
theorem Kept.set6 {W w : World} (h : Kept W w) {b : Nat} (hb : W.heap.size ≤ b) (v0 v1 v2 v3 v4 v5 : Value) :
    Kept W ((((((w.setCell ⟨b, 0, none⟩ v0).setCell ⟨b, 1, none⟩ v1).setCell ⟨b, 2, none⟩ v2).setCell ⟨b, 3, none⟩ v3).setCell ⟨b, 4, none⟩ v4).setCell ⟨b, 5, none⟩ v5) :=
  (((((h.setCell8 hb 0 v0).setCell8 hb 1 v1).setCell8 hb 2 v2).setCell8 hb 3 v3).setCell8 hb 4 v4).setCell8 hb 5 v5
theorem hasK {W u : World} (k : Kept W u) {b : Nat} {cs : Array Value} (hb : Has W b cs) : Has u b cs :=
  ⟨Nat.lt_of_lt_of_le hb.1 k.size, fun i => (k.cell (x := ⟨b, i, none⟩) hb.1).trans (hb.2 i)⟩
theorem frozK {W u : World} (k : Kept W u) {b : Nat} (hb : b < W.heap.size) (hf : ∀ o, W.frozen? ⟨b, o, none⟩ = false) : ∀ o, u.frozen? ⟨b, o, none⟩ = false :=
  fun o => by rw [k.frz (x := ⟨b, o, none⟩) hb]; exact hf o
theorem has_by {W w2 : World} {row : Option Nat} {b : Nat} {cs : Array Value} (hb : Has W b cs) (g : W.grownBy w2 row) (hr : ∀ k, row = some k → k ≠ b) : Has w2 b cs :=
  ⟨Nat.lt_of_lt_of_le hb.1 g.size, fun i => (World.cell?_of_block (w := W) (g.block b hb.1 (fun e => hr b e.symm rfl))).trans (hb.2 i)⟩
theorem froz_new (w : World) (c : Array Value) (t : TypeId) : ∀ o, (w.alloc (.cells c t)).frozen? ⟨w.heap.size, o, none⟩ = false :=
  fun o => grown_froz (alloc1 w c t) (Nat.le_refl _) o
end Go.Proofs.Ytecgpdjgbdobbab
namespace Go.Proofs.Ytecgpdjgbdobbab
open Go.RowKit
set_option linter.unusedVariables false
set_option linter.unusedSimpArgs false

/-- All blocks are as they were, but those of F; nothing else has turned. -/
structure KeptX (F : Nat → Prop) (W w : World) : Prop where
  os : w.os = W.os
  output : w.output = W.output
  size : W.heap.size ≤ w.heap.size
  block : ∀ k, k < W.heap.size → ¬ F k → w.heap[k]? = W.heap[k]?
theorem KeptX.of {F : Nat → Prop} {W w : World} (h : Kept W w) : KeptX F W w := ⟨h.os, h.output, h.size, fun k hk _ => h.block k hk⟩
theorem KeptX.refl {F : Nat → Prop} (w : World) : KeptX F w w := ⟨rfl, rfl, Nat.le_refl _, fun _ _ _ => rfl⟩
theorem KeptX.trans {F G : Nat → Prop} {W w u : World} (h : KeptX F W w) (g : KeptX G w u) (hG : ∀ k, G k → F k ∨ W.heap.size ≤ k) : KeptX F W u :=
  ⟨g.os.trans h.os, g.output.trans h.output, Nat.le_trans h.size g.size, fun k hk hf =>
    (g.block k (Nat.lt_of_lt_of_le hk h.size) (fun q => by rcases hG k q with q | q <;> first | exact hf q | omega)).trans (h.block k hk hf)⟩
theorem KeptX.then {F : Nat → Prop} {W w u : World} (h : KeptX F W w) (g : Kept w u) : KeptX F W u :=
  h.trans (G := fun _ => False) ⟨g.os, g.output, g.size, fun k hk _ => g.block k hk⟩ (fun _ q => q.elim)
theorem KeptX.kept {F : Nat → Prop} {W w u : World} (g : KeptX F w u) (h : Kept W w) (hF : ∀ k, F k → W.heap.size ≤ k) : Kept W u :=
  ⟨g.os.trans h.os, g.output.trans h.output, Nat.le_trans h.size g.size, fun k hk =>
    (g.block k (Nat.lt_of_lt_of_le hk h.size) (fun q => by have := hF k q; omega)).trans (h.block k hk)⟩
theorem KeptX.setCell {F : Nat → Prop} {W w : World} (h : KeptX F W w) {g : Nat} (hg : F g ∨ W.heap.size ≤ g) (j : Nat) (v : Value) : KeptX F W (w.setCell ⟨g, j, none⟩ v) :=
  ⟨h.os, h.output, by simpa using h.size, fun k hk hf => (heap_setCell_other w ⟨g, j, none⟩ k v (fun e => by
    have e : k = g := e
    subst e
    rcases hg with q | q
    · exact hf q
    · omega)).trans (h.block k hk hf)⟩
theorem KeptX.drew {F : Nat → Prop} {W w : World} (h : KeptX F W w) : KeptX F W w.drew := ⟨h.os, h.output, h.size, h.block⟩
theorem KeptX.drewN {F : Nat → Prop} {W w : World} (h : KeptX F W w) {n : Nat} : KeptX F W (w.drewN n) := ⟨h.os, h.output, h.size, h.block⟩
theorem KeptX.alloc {F : Nat → Prop} {W w : World} (h : KeptX F W w) (o : Obj) : KeptX F W (w.alloc o) := h.then ((Kept.refl w).alloc o)
theorem cellX {F : Nat → Prop} {W u : World} (k : KeptX F W u) {x : Addr} (hx : x.block < W.heap.size) (hf : ¬ F x.block) : u.cell? x = W.cell? x :=
  World.cell?_of_block (k.block x.block hx hf)
theorem hasX {F : Nat → Prop} {W u : World} (k : KeptX F W u) {b : Nat} {cs : Array Value} (hb : Has W b cs) (hf : ¬ F b) : Has u b cs :=
  ⟨Nat.lt_of_lt_of_le hb.1 k.size, fun i => (cellX k (x := ⟨b, i, none⟩) hb.1 hf).trans (hb.2 i)⟩
theorem frozX {F : Nat → Prop} {W u : World} (k : KeptX F W u) {b : Nat} (hb : b < W.heap.size) (hf : ¬ F b) (h : ∀ o, W.frozen? ⟨b, o, none⟩ = false) : ∀ o, u.frozen? ⟨b, o, none⟩ = false :=
  fun o => by rw [World.frozen?_of_block (k.block b hb hf)]; exact h o
/-- A row lies outside of F. -/
def Off (F : Nat → Prop) (a : Option Addr) (zs : List Int) : Prop := zs = [] ∨ ∀ x, a = some x → ¬ F x.block
theorem rowX {F : Nat → Prop} {W u : World} (k : KeptX F W u) {a : Option Addr} {zs : List Int} (h : Row W a zs) (ho : Off F a zs) : Row u a zs := by
  obtain ⟨h1, h2, h3⟩ := h
  refine ⟨h1, h2, ?_⟩
  rcases h3 with h3 | ⟨x, e, hx, hc⟩
  · exact .inl h3
  · by_cases hz : zs = []
    · exact .inl hz
    · refine .inr ⟨x, e, Nat.lt_of_lt_of_le hx k.size, fun i hi => ?_⟩
      rw [cellX k (by rw [addB]; exact hx) (by rw [addB]; exact (ho.resolve_left hz) x e)]
      exact hc i hi
theorem off_of {F : Nat → Prop} {w : World} {a : Option Addr} {zs : List Int} (h : Row w a zs) (hF : ∀ k, F k → w.heap.size ≤ k) : Off F a zs := by
  rcases h.2.2 with h3 | ⟨x, e, hx, hc⟩
  · exact .inl h3
  · exact .inr (fun y hy q => by rw [e] at hy; cases hy; have := hF _ q; omega)
theorem off_grow {F G : Nat → Prop} {w : World} {a : Option Addr} {zs : List Int} (h : Row w a zs) (ho : Off F a zs) (hG : ∀ k, G k → F k ∨ w.heap.size ≤ k) : Off G a zs := by
  rcases h.2.2 with h3 | ⟨x, e, hx, hc⟩
  · exact .inl h3
  · rcases ho with ho | ho
    · exact .inl ho
    · exact .inr (fun y hy q => by
        rcases hG _ q with q | q
        · exact ho y hy q
        · rw [e] at hy; cases hy; omega)
end Go.Proofs.Ytecgpdjgbdobbab
namespace Go.Proofs.Ytecgpdjgbdobbab
open Go.RowKit
set_option linter.unusedVariables false
set_option linter.unusedSimpArgs false

structure Hd where
  title : ByteArray
  kind : Int
  map : Int
  ram : Bool
  bat : Bool
  clk : Bool
  banks : Int
  size : Int
  sum : Int
  whole : Int
def hd0 : Hd := ⟨⟨#[]⟩, 0, 0, false, false, false, 0, 0, 0, 0⟩
def inL (ls : List Int) (b : Int) : Bool := ls.any (fun x => x == b)
def kN (k : Int) : Bool := inL [0, 8, 9] k
def k1 (k : Int) : Bool := inL [1, 2, 3] k
def k3 (k : Int) : Bool := inL [15, 16, 17, 18, 19] k
def k5 (k : Int) : Bool := inL [25, 26, 27, 28, 29, 30] k
def kRam (k : Int) : Bool := inL [2, 3, 8, 9, 16, 18, 19, 26, 27, 29, 30] k
def kBat (k : Int) : Bool := inL [3, 9, 15, 16, 19, 27, 30] k
def kClk (k : Int) : Bool := inL [15, 16] k
def kMap (k : Int) : Int := if k5 k then 5 else if k3 k then 3 else if k1 k then 1 else 0
def kindOk (k : Int) : Bool := kN k || k1 k || k3 k || k5 k
def kindH (k : Int) : Hd := if kindOk k then ⟨⟨#[]⟩, k, kMap k, kRam k, kBat k, kClk k, 0, 0, 0, 0⟩ else hd0
theorem kind_fin : ∀ a : Fin 256, (k1 (a.val : Int) = true ∧ k3 (a.val : Int) = false ∧ k5 (a.val : Int) = false ∧ kN (a.val : Int) = false) ∨ (k1 (a.val : Int) = false ∧ k3 (a.val : Int) = true ∧ k5 (a.val : Int) = false ∧ kN (a.val : Int) = false) ∨ (k1 (a.val : Int) = false ∧ k3 (a.val : Int) = false ∧ k5 (a.val : Int) = true ∧ kN (a.val : Int) = false) ∨ (k1 (a.val : Int) = false ∧ k3 (a.val : Int) = false ∧ k5 (a.val : Int) = false ∧ kN (a.val : Int) = true) ∨ (k1 (a.val : Int) = false ∧ k3 (a.val : Int) = false ∧ k5 (a.val : Int) = false ∧ kN (a.val : Int) = false) := by decide +kernel
theorem kind_of (k : Int) (h0 : 0 ≤ k) (h1 : k ≤ 255) : (k1 k = true ∧ k3 k = false ∧ k5 k = false ∧ kN k = false) ∨ (k1 k = false ∧ k3 k = true ∧ k5 k = false ∧ kN k = false) ∨ (k1 k = false ∧ k3 k = false ∧ k5 k = true ∧ kN k = false) ∨ (k1 k = false ∧ k3 k = false ∧ k5 k = false ∧ kN k = true) ∨ (k1 k = false ∧ k3 k = false ∧ k5 k = false ∧ kN k = false) :=
  fin8 (p := fun k => (k1 k = true ∧ k3 k = false ∧ k5 k = false ∧ kN k = false) ∨ (k1 k = false ∧ k3 k = true ∧ k5 k = false ∧ kN k = false) ∨ (k1 k = false ∧ k3 k = false ∧ k5 k = true ∧ kN k = false) ∨ (k1 k = false ∧ k3 k = false ∧ k5 k = false ∧ kN k = true) ∨ (k1 k = false ∧ k3 k = false ∧ k5 k = false ∧ kN k = false)) kind_fin k h0 h1
def mostTo : Nat → Int
  | 0 => 32768
  | k + 1 => mostTo k * 2
def mostOf (r : Int) : Int := mostTo r.toNat
theorem most_fin : ∀ r : Fin 10, 32768 ≤ mostTo r.val ∧ mostTo r.val ≤ 16777216 := by decide +kernel
def sumTo (z : List Int) : Nat → Int
  | 0 => 0
  | k + 1 => (sumTo z k + 512 - z.getD (308 + k) 0 - 1) % 256
def sumOf (z : List Int) : Int := sumTo z 25
def sumV (z : List Int) : Int := if z.length < 336 then 0 else sumOf z
def sumE (z : List Int) : Int := if z.length < 336 then 2 else 0
theorem sumTo_bd (z : List Int) (k : Nat) : 0 ≤ sumTo z k ∧ sumTo z k ≤ 255 := by
  cases k with
  | zero => exact ⟨Int.le_refl 0, by show (0 : Int) ≤ _; decide⟩
  | succ k => simp only [sumTo]; constructor <;> omega
def wholeTo (z : List Int) : Nat → Int
  | 0 => 0
  | k + 1 => if k = 334 ∨ k = 335 then wholeTo z k else (wholeTo z k + z.getD k 0) % 65536
def wholeOf (z : List Int) : Int := wholeTo z z.length
theorem wholeTo_bd (z : List Int) (k : Nat) : 0 ≤ wholeTo z k ∧ wholeTo z k ≤ 65535 := by
  induction k with
  | zero => exact ⟨Int.le_refl 0, by show (0 : Int) ≤ _; decide⟩
  | succ k ih =>
    simp only [wholeTo]
    split
    · exact ih
    · omega
def signB (b : Int) : Bool := decide (32 ≤ b) && decide (b ≤ 126)
def sizeM (m : Int) : Int := ([0, 2048, 8192, 32768, 131072, 65536] : List Int).getD m.toNat 0
def titL (z : List Int) : List Int := ((z.drop 308).take 16).takeWhile signB
def strB (ns : List Int) : ByteArray := ⟨(ns.map (fun n => UInt8.ofNat n.toNat)).toArray⟩
def parseE (z : List Int) : Int :=
  if z.length < 336 then 2 else if kindOk (z.getD 327 0) = false then 4
  else if 8 < z.getD 328 0 ∨ 5 < z.getD 329 0 ∨ mostOf (z.getD 328 0) < (z.length : Int) then 5 else if sumOf z ≠ z.getD 333 0 then 3 else 0
def parseH (z : List Int) : Hd :=
  if parseE z = 0 then ⟨strB (titL z), z.getD 327 0, kMap (z.getD 327 0), kRam (z.getD 327 0), kBat (z.getD 327 0), kClk (z.getD 327 0), mostOf (z.getD 328 0) / 16384, (if kRam (z.getD 327 0) then sizeM (z.getD 329 0) else 0), sumOf z, 256 * z.getD 334 0 + z.getD 335 0⟩ else hd0
end Go.Proofs.Ytecgpdjgbdobbab
