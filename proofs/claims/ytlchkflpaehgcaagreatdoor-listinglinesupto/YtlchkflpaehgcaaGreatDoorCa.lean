/- Plain numbers of layer 1: what a bit, a byte with a bit put, a turned and a mirrored byte come to; no program in sight. A world that has at most new blocks: what was there reads as it did. Blocks that were made, behind draws; what was made is not frozen. Structs of plain cells (integers, bools, strings, structs of such) that come in by value: their cells, each by its kind; they read the same in every world. What was there is kept: the word for worlds behind an append too (Grown says besides that nothing new is frozen). -/
import Derived.WalkKit
import Derived.WalkLawsBesides
import Derived.WalkSpells
import Derived.Below
import Derived.Deep.Draws
import Derived.Laws.NewBlocks
import Derived.ProofKit
import Derived.OpenShut
import Derived.OwnWalk
import Derived.Carry
namespace Go.Proofs.YtlchkflpaehgcaaGreatDoor
open Go.RowKit

def bitOf (a n : Int) : Bool := decide (0 ≤ n) && decide (n < 8) && (a / 2 ^ n.toNat % 2 == 1)
def putOf (a n : Int) (on : Bool) : Int :=
  if 0 ≤ n ∧ n < 8 then a - (if bitOf a n then 2 ^ n.toNat else 0) + (if on then 2 ^ n.toNat else 0) else a
def turnTo (a s : Int) : Nat → Int
  | 0 => 0
  | k + 1 => putOf (turnTo a s k) (((k : Int) + s) % 8) (bitOf a k)
def turnOf (a n : Int) : Int := turnTo a (n % 8) 8
def mirrorTo (a : Int) : Nat → Int
  | 0 => 0
  | k + 1 => putOf (mirrorTo a k) (7 - (k : Int)) (bitOf a k)
def mirrorOf (a : Int) : Int := mirrorTo a 8
def onesTo (a : Int) : Nat → Int
  | 0 => 0
  | k + 1 => onesTo a k + (if bitOf a k then 1 else 0)
def onesOf (a : Int) : Int := onesTo a 8
def signedOf (a : Int) : Int := if a < 128 then a else a - 256

theorem and_fin : ∀ a : Fin 256, ∀ n : Fin 8, (bits .and .u8 (a.val : Int) ((2 : Int) ^ (n.val : Int).toNat % 256) != 0) = bitOf (a.val : Int) (n.val : Int) := by decide +kernel
theorem or_fin : ∀ a : Fin 256, ∀ n : Fin 8, bits .or .u8 (a.val : Int) ((2 : Int) ^ (n.val : Int).toNat % 256) = putOf (a.val : Int) (n.val : Int) true := by decide +kernel
theorem andNot_fin : ∀ a : Fin 256, ∀ n : Fin 8, bits .andNot .u8 (a.val : Int) ((2 : Int) ^ (n.val : Int).toNat % 256) = putOf (a.val : Int) (n.val : Int) false := by decide +kernel
theorem put_fin : ∀ a : Fin 256, ∀ n : Fin 8, ∀ on : Bool, 0 ≤ putOf (a.val : Int) (n.val : Int) on ∧ putOf (a.val : Int) (n.val : Int) on ≤ 255 := by decide +kernel
theorem quo_fin : ∀ a : Fin 256, ∀ n : Fin 8, (((a.val : Int) / (2 : Int) ^ (n.val : Int).toNat % 2 == 1) : Bool) = bitOf (a.val : Int) (n.val : Int) := by decide +kernel

theorem fin8 {p : Int → Prop} (h : ∀ k : Fin 256, p (k.val : Int)) (a : Int) (h0 : 0 ≤ a) (h1 : a ≤ 255) : p a := by
  have e := h ⟨a.toNat, by omega⟩
  have e2 : ((a.toNat : Nat) : Int) = a := by omega
  simp only [e2] at e
  exact e
theorem fin8n {p : Int → Int → Prop} (h : ∀ k : Fin 256, ∀ n : Fin 8, p (k.val : Int) (n.val : Int)) (a n : Int) (h0 : 0 ≤ a) (h1 : a ≤ 255) (h2 : 0 ≤ n) (h3 : n < 8) : p a n := by
  have e := h ⟨a.toNat, by omega⟩ ⟨n.toNat, by omega⟩
  have e2 : ((a.toNat : Nat) : Int) = a := by omega
  have e3 : ((n.toNat : Nat) : Int) = n := by omega
  simp only [e2, e3] at e
  exact e
theorem and_bit (a n : Int) (h0 : 0 ≤ a) (h1 : a ≤ 255) (h2 : 0 ≤ n) (h3 : n < 8) : (bits .and .u8 a ((2 : Int) ^ n.toNat % 256) != 0) = bitOf a n :=
  fin8n (p := fun a n => (bits .and .u8 a ((2 : Int) ^ n.toNat % 256) != 0) = bitOf a n) and_fin a n h0 h1 h2 h3
theorem or_put (a n : Int) (h0 : 0 ≤ a) (h1 : a ≤ 255) (h2 : 0 ≤ n) (h3 : n < 8) : bits .or .u8 a ((2 : Int) ^ n.toNat % 256) = putOf a n true :=
  fin8n (p := fun a n => bits .or .u8 a ((2 : Int) ^ n.toNat % 256) = putOf a n true) or_fin a n h0 h1 h2 h3
theorem andNot_put (a n : Int) (h0 : 0 ≤ a) (h1 : a ≤ 255) (h2 : 0 ≤ n) (h3 : n < 8) : bits .andNot .u8 a ((2 : Int) ^ n.toNat % 256) = putOf a n false :=
  fin8n (p := fun a n => bits .andNot .u8 a ((2 : Int) ^ n.toNat % 256) = putOf a n false) andNot_fin a n h0 h1 h2 h3
theorem put_bd (a n : Int) (on : Bool) (h0 : 0 ≤ a) (h1 : a ≤ 255) : 0 ≤ putOf a n on ∧ putOf a n on ≤ 255 := by
  by_cases h : 0 ≤ n ∧ n < 8
  · exact fin8n (p := fun a n => ∀ on : Bool, 0 ≤ putOf a n on ∧ putOf a n on ≤ 255) put_fin a n h0 h1 h.1 h.2 on
  · unfold putOf; rw [if_neg h]; exact ⟨h0, h1⟩
theorem bit_out (a n : Int) (h : ¬ (0 ≤ n ∧ n < 8)) : bitOf a n = false := by
  unfold bitOf
  by_cases h1 : 0 ≤ n
  · have h2 : ¬ n < 8 := by omega
    simp [h2]
  · simp [h1]
theorem put_out (a n : Int) (on : Bool) (h : ¬ (0 ≤ n ∧ n < 8)) : putOf a n on = a := by unfold putOf; rw [if_neg h]
theorem turnTo_bd (a s : Int) (k : Nat) : 0 ≤ turnTo a s k ∧ turnTo a s k ≤ 255 := by
  induction k with
  | zero => exact ⟨Int.le_refl 0, (by decide : (0 : Int) ≤ 255)⟩
  | succ k ih => exact put_bd _ _ _ ih.1 ih.2
theorem mirrorTo_bd (a : Int) (k : Nat) : 0 ≤ mirrorTo a k ∧ mirrorTo a k ≤ 255 := by
  induction k with
  | zero => exact ⟨Int.le_refl 0, (by decide : (0 : Int) ≤ 255)⟩
  | succ k ih => exact put_bd _ _ _ ih.1 ih.2
theorem onesTo_bd (a : Int) (k : Nat) : 0 ≤ onesTo a k ∧ onesTo a k ≤ k := by
  induction k with
  | zero => exact ⟨Int.le_refl _, Int.le_refl _⟩
  | succ k ih => unfold onesTo; split <;> omega
theorem mask7 (n : Int) : bits .and .i64 n 7 = n % 8 := by
  have h7 : (BitVec.ofInt 64 7).toNat = 2 ^ 3 - 1 := by decide
  have key : (BitVec.ofInt 64 n &&& BitVec.ofInt 64 7).toNat = (n % ((2 ^ 64 : Nat) : Int)).toNat % 2 ^ 3 := by
    rw [BitVec.toNat_and, BitVec.toNat_ofInt, h7, Nat.and_two_pow_sub_one_eq_mod]
  show IntKind.i64.wrap ((BitVec.ofInt 64 n &&& BitVec.ofInt 64 7).toNat : Nat) = n % 8
  rw [key, IntKind.wrap_i64]
  omega
theorem ret_bool {a b : Bool} (h : a = b) : Ending.returned (.bool a) = .returned (.bool b) := by rw [h]
theorem ret_int {k : IntKind} {a b : Int} (h : a = b) : Ending.returned (.int k a) = .returned (.int k b) := by rw [h]
end Go.Proofs.YtlchkflpaehgcaaGreatDoor
namespace Go.Proofs.YtlchkflpaehgcaaGreatDoor
open Go.RowKit

theorem hid {p : Prop} (h : p) : Hid p := h
theorem grown_trans {a b c : World} (h1 : Grown a b) (h2 : Grown b c) : Grown a c :=
  ⟨World.keptBut_trans h1.1 h2.1, fun x => (h2.2.1 x).trans (h1.2.1 x), Nat.le_trans h1.2.2 h2.2.2⟩
theorem gblock {W w1 : World} (g : Grown W w1) (i : Nat) (hi : i < W.heap.size) : w1.heap[i]? = W.heap[i]? := by
  have h := g.1.2.2 i hi
  split at h
  · rename_i e1 e2
    obtain ⟨rfl, rfl, hs, hc⟩ := h
    rw [e1, e2]
    congr 2
    apply Array.ext_getElem?
    intro j
    exact hc j (fun f => f)
  · rename_i e1 e2
    rcases h with h | ⟨rfl, rfl⟩
    · exact h.elim
    · rw [e1, e2]
  · exact h
theorem gcell {W w1 : World} (g : Grown W w1) : (∀ b o, b < W.heap.size → w1.cell? ⟨b, o, none⟩ = W.cell? ⟨b, o, none⟩) ∧ (∀ b o, w1.frozen? ⟨b, o, none⟩ = W.frozen? ⟨b, o, none⟩) :=
  ⟨fun b _ h => World.cell?_of_block (w := W) (gblock g b h), fun _ _ => g.2.1 _⟩
theorem gbelow {W w1 : World} (ht : w1.tape = W.tape) (g : Grown W w1) : Below W.heap.size W w1 :=
  ⟨g.1.1, ht, g.1.2.1, g.2.2, fun k hk => gblock g k hk⟩
theorem alloc1 (w : World) (c : Array Value) (t : TypeId) : Grown w (w.alloc (.cells c t)) := (Grown.refl _).alloc _ _
theorem drewN1 {a b : World} (h : Grown a b) {n : Nat} : Grown a (b.drewN n) := h
def Has (w : World) (b : Nat) (cs : Array Value) : Prop := b < w.heap.size ∧ ∀ i, w.cell? ⟨b, i, none⟩ = cs[i]?
theorem has_alloc (w : World) (cs : Array Value) (t : TypeId) : Has (w.alloc (.cells cs t)) w.heap.size cs :=
  ⟨by simp, fun i => World.cell?_alloc_new _ _ _ i⟩
theorem has_past {w : World} {b : Nat} {cs : Array Value} (h : Has w b cs) (o : Obj) : Has (w.alloc o) b cs :=
  ⟨by have := h.1; simp; omega, fun i => (World.cell?_alloc_past (hn := h.1) ..).trans (h.2 i)⟩
theorem has_other {w : World} {b : Nat} {cs : Array Value} (h : Has w b cs) {a : Addr} (ne : a.block ≠ b) (v : Value) : Has (w.setCell a v) b cs :=
  ⟨by simpa [World.setCell] using h.1, fun i => (World.cell?_setCell_other _ _ _ _ (by intro e; subst e; exact ne rfl)).trans (h.2 i)⟩
theorem has_set {w : World} {b : Nat} {cs : Array Value} (h : Has w b cs) (i : Nat) (v : Value) (hi : i < cs.size) : Has (w.setCell ⟨b, i, none⟩ v) b (cs.setIfInBounds i v) := by
  refine ⟨by simpa [World.setCell] using h.1, fun j => ?_⟩
  by_cases e : i = j
  · subst e
    have hs : w.cell? ⟨b, i, none⟩ = some cs[i] := by rw [h.2 i]; simp [hi]
    rw [World.cell?_setCell_same _ _ _ hs]
    simp [hi]
  · rw [World.cell?_setCell_other _ _ _ _ (by intro q; cases q; exact e rfl), h.2 j]
    simp [e]
theorem has_set4 {w : World} {b : Nat} {c0 c1 c2 c3 : Value} (h : Has w b #[c0, c1, c2, c3]) (v0 v1 v2 v3 : Value) :
    Has ((((w.setCell ⟨b, 0, none⟩ v0).setCell ⟨b, 1, none⟩ v1).setCell ⟨b, 2, none⟩ v2).setCell ⟨b, 3, none⟩ v3) b #[v0, v1, v2, v3] := by
  have k := has_set (has_set (has_set (has_set h 0 v0 (by simp)) 1 v1 (by simp)) 2 v2 (by simp)) 3 v3 (by simp)
  simpa using k
theorem has_grown {W w1 : World} (g : Grown W w1) {b : Nat} {cs : Array Value} (h : Has W b cs) : Has w1 b cs :=
  ⟨Nat.lt_of_lt_of_le h.1 g.2.2, fun i => ((gcell g).1 _ _ h.1).trans (h.2 i)⟩
end Go.Proofs.YtlchkflpaehgcaaGreatDoor
namespace Go.Proofs.YtlchkflpaehgcaaGreatDoor
open Go.RowKit

theorem has_drew {w : World} {b : Nat} {cs : Array Value} (h : Has w b cs) : Has w.drew b cs := h
theorem grown_froz {w w2 : World} (g : Grown w w2) {b : Nat} (h : w.heap.size ≤ b) (o : Nat) : w2.frozen? ⟨b, o, none⟩ = false := by
  rw [g.2.1 ⟨b, o, none⟩]
  simp [World.frozen?, Array.getElem?_eq_none h]
end Go.Proofs.YtlchkflpaehgcaaGreatDoor
namespace Go.Proofs.YtlchkflpaehgcaaGreatDoor
open Go.ChangeShapes Go.WideShapes Go.ChangeAt Go.RowKit

def leafOk : TypeDesc → Value → Prop
  | .bool, v => ∃ b, v = .bool b
  | .int k, v => ∃ n, v = .int k n ∧ (Lit.int k n).wf = true
  | .string, v => ∃ s, v = .string s ∧ s.size ≤ maxLen
  | _, _ => False

def fitAll : List (Nat × TypeDesc) → List Value → Prop
  | [], _ => True
  | p :: l, cs => (∃ v, cs[p.1]? = some v ∧ leafOk p.2 v) ∧ fitAll l cs

theorem fitAll_of {cs : List Value} : ∀ {l : List (Nat × TypeDesc)}, (∀ p ∈ l, ∃ v, cs[p.1]? = some v ∧ leafOk p.2 v) → fitAll l cs
  | [], _ => trivial
  | p :: l, h => ⟨h p (by simp), fitAll_of fun q hq => h q (by simp [hq])⟩

def leaves (P : Program) : Nat → TypeId → Option (List (Nat × TypeDesc))
  | 0, _ => none
  | n + 1, t => match P.underlying t with
    | some .bool => some [(0, .bool)]
    | some (.int k) => some [(0, .int k)]
    | some .string => some [(0, .string)]
    | some (.struct fs) => (fs.toList.mapM fun f => (leaves P n f.type).map fun l => l.map fun x => (f.offset + x.1, x.2)).map List.flatten
    | _ => none

theorem mapM_same {α β : Type} {f g : α → Option β} : ∀ {l : List α} {r : List β}, l.mapM f = some r → (∀ x ∈ l, ∀ y, f x = some y → g x = some y) → l.mapM g = some r
  | [], r, h, _ => by simpa using h
  | a :: l, r, h, hs => by
    simp only [List.mapM_cons, Option.bind_eq_bind, Option.bind_eq_some_iff, Option.pure_def, Option.some.injEq] at h ⊢
    obtain ⟨b, hb, r2, hr, rfl⟩ := h
    exact ⟨b, hs a (by simp) b hb, r2, mapM_same hr (fun x hx => hs x (by simp [hx])), rfl⟩

theorem mapM_mem {α β : Type} {f : α → Option β} : ∀ {l : List α} {r : List β}, l.mapM f = some r → ∀ y ∈ r, ∃ x ∈ l, f x = some y
  | [], r, h, y, hy => by simp at h; subst h; simp at hy
  | a :: l, r, h, y, hy => by
    simp only [List.mapM_cons, Option.bind_eq_bind, Option.bind_eq_some_iff, Option.pure_def, Option.some.injEq] at h
    obtain ⟨b, hb, r2, hr, rfl⟩ := h
    rcases List.mem_cons.1 hy with rfl | hy
    · exact ⟨a, by simp, hb⟩
    · obtain ⟨x, hx, e⟩ := mapM_mem hr y hy
      exact ⟨x, by simp [hx], e⟩

theorem mapM_def {α β : Type} {f : α → Option β} : ∀ {l : List α} {r : List β}, l.mapM f = some r → ∀ x ∈ l, ∃ y ∈ r, f x = some y
  | [], r, h, x, hx => by simp at hx
  | a :: l, r, h, x, hx => by
    simp only [List.mapM_cons, Option.bind_eq_bind, Option.bind_eq_some_iff, Option.pure_def, Option.some.injEq] at h
    obtain ⟨b, hb, r2, hr, rfl⟩ := h
    rcases List.mem_cons.1 hx with rfl | hx
    · exact ⟨b, by simp, hb⟩
    · obtain ⟨y, hy, e⟩ := mapM_def hr x hx
      exact ⟨y, by simp [hy], e⟩

theorem trod_struct_list {H : Type} {enc : TypeId × Value → H} {P : Program} {w : World} {base : Nat} {spare : Nat → Bool} {held : Bool} {fuel : Nat} {t : TypeId} {cs : List Value} {x : DataW H × List MemPlace} {fs : Array Field}
    (hu : P.underlying t = some (.struct fs)) (hx : DataW.trod enc P w base spare held fuel t cs = some x) :
    ∃ (xs : List (DataW H × List MemPlace)) (m : Nat), fuel = m + 1 ∧ x = (.agg (xs.map (·.1)), xs.flatMap (·.2)) ∧ cs.length = P.cellsOf t ∧
      fs.toList.mapM (fun f => DataW.trod enc P w base spare held m f.type ((cs.drop f.offset).take (P.cellsOf f.type))) = some xs := by
  cases fuel with
  | zero => simp [DataW.trod] at hx
  | succ m =>
    unfold DataW.trod at hx
    rw [hu] at hx
    split at hx <;> simp_all
    obtain ⟨hl, xs, hp, hd⟩ := hx
    exact ⟨xs, hd.symm, hp⟩

theorem flat_fits {H : Type} {enc : TypeId × Value → H} {P : Program} {w : World} {base : Nat} {spare : Nat → Bool} {held : Bool} :
    ∀ (n : Nat) (t : TypeId) (L : List (Nat × TypeDesc)), leaves P n t = some L → ∀ (fuel : Nat) (cs : List Value) (x : DataW H × List MemPlace), DataW.trod enc P w base spare held fuel t cs = some x →
      x.2 = [] ∧ (∀ p ∈ L, ∃ v, cs[p.1]? = some v ∧ leafOk p.2 v) ∧ ∀ (w2 : World) (b2 : Nat) (s2 : Nat → Bool) (h2 : Bool), DataW.trod enc P w2 b2 s2 h2 fuel t cs = some x := by
  intro n
  induction n with
  | zero => intro t L h; simp [leaves] at h
  | succ n ih =>
    intro t L h fuel cs x hx
    unfold leaves at h
    split at h
    · rename_i hu
      obtain rfl := Option.some.inj h
      cases fuel with
      | zero => simp [DataW.trod] at hx
      | succ m =>
        obtain ⟨b, rfl, rfl⟩ := DataW.trod_bool hu hx
        refine ⟨rfl, ?_, ?_⟩
        · intro p hp
          obtain rfl := List.mem_singleton.1 hp
          exact ⟨_, rfl, _, rfl⟩
        · intro w2 b2 s2 h2
          simp [DataW.trod, hu]
    · rename_i k hu
      obtain rfl := Option.some.inj h
      cases fuel with
      | zero => simp [DataW.trod] at hx
      | succ m =>
        obtain ⟨b, rfl, rfl, hw⟩ := DataW.trod_int hu hx
        refine ⟨rfl, ?_, ?_⟩
        · intro p hp
          obtain rfl := List.mem_singleton.1 hp
          exact ⟨_, rfl, _, rfl, hw⟩
        · intro w2 b2 s2 h2
          simp [DataW.trod, hu, hw]
    · rename_i hu
      obtain rfl := Option.some.inj h
      cases fuel with
      | zero => simp [DataW.trod] at hx
      | succ m =>
        obtain ⟨b, rfl, rfl, hw⟩ := DataW.trod_string hu hx
        refine ⟨rfl, ?_, ?_⟩
        · intro p hp
          obtain rfl := List.mem_singleton.1 hp
          exact ⟨_, rfl, _, rfl, hw⟩
        · intro w2 b2 s2 h2
          simp [DataW.trod, hu, hw]
    · rename_i fs hu
      simp only [Option.map_eq_some_iff] at h
      obtain ⟨Ls, hLs, rfl⟩ := h
      obtain ⟨xs, m, rfl, rfl, hl, hp⟩ := trod_struct_list hu hx
      clear hx
      have hall : ∀ f ∈ fs.toList, ∃ l, leaves P n f.type = some l := by
        intro f hf
        obtain ⟨y, hy, e⟩ := mapM_def hLs f hf
        simp only [Option.map_eq_some_iff] at e
        obtain ⟨l, hl2, rfl⟩ := e
        exact ⟨l, hl2⟩
      refine ⟨?_, ?_, ?_⟩
      · simp only [List.flatMap_eq_nil_iff]
        intro y hy
        obtain ⟨f, hf, e⟩ := mapM_mem hp y hy
        obtain ⟨l, hl2⟩ := hall f hf
        exact (ih _ l hl2 m _ _ e).1
      · intro p hpm
        obtain ⟨q, hq, hpq⟩ := List.mem_flatten.1 hpm
        obtain ⟨f, hf, e⟩ := mapM_mem hLs q hq
        simp only [Option.map_eq_some_iff] at e
        obtain ⟨l, hl2, rfl⟩ := e
        obtain ⟨r, hr, rfl⟩ := List.mem_map.1 hpq
        obtain ⟨y, hy, e2⟩ := mapM_def hp f hf
        obtain ⟨v, hv, ok⟩ := (ih _ l hl2 m _ _ e2).2.1 r hr
        refine ⟨v, ?_, ok⟩
        rw [List.getElem?_take] at hv
        split at hv
        · rw [List.getElem?_drop] at hv
          exact hv
        · exact absurd hv (by simp)
      · intro w2 b2 s2 h2
        refine trod_struct_mk hu hl (mapM_same hp ?_)
        intro f hf y hy
        obtain ⟨l, hl2⟩ := hall f hf
        exact (ih _ l hl2 m _ _ hy).2.2 w2 b2 s2 h2
    · simp at h

theorem flat_open {H : Type} {enc : TypeId × Value → H} {P : Program} {w : World} {base b0 : Nat} {spare : Nat → Bool} {held : Bool} {r : Reach} {t : TypeId} {fs : Array Field} {v : Value} {d : DataW H} {p : List MemPlace} {n c : Nat} {L : List (Nat × TypeDesc)}
    (hs : P.underlying t = some (.struct fs)) (hL : leaves P n t = some L) (hC : P.cellsOf t = c) (hv : Value.okWide P w r b0 t v) (h : DataW.Trod enc P w base spare held t v d p) :
    p = [] ∧ (∃ l : List Value, v = .agg l.toArray ∧ l.length = c ∧ fitAll L l) ∧ ∀ (w2 : World) (b2 : Nat) (s2 : Nat → Bool) (h2 : Bool), DataW.Trod enc P w2 b2 s2 h2 t v d [] := by
  obtain ⟨cs, rfl, hsz⟩ := okWide_struct hs hv
  obtain ⟨fuel, hf⟩ := h
  obtain ⟨h1, h2, h3⟩ := flat_fits n t L hL fuel _ _ hf
  obtain rfl : p = [] := h1
  refine ⟨rfl, ⟨cs.toList, by simp, by simpa [hC] using hsz, fitAll_of (by simpa [Value.cells] using h2)⟩, fun w2 b2 s2 hh => ⟨fuel, h3 w2 b2 s2 hh⟩⟩
end Go.Proofs.YtlchkflpaehgcaaGreatDoor
namespace Go.Proofs.YtlchkflpaehgcaaGreatDoor
open Go.RowKit
set_option linter.unusedVariables false
set_option linter.unusedSimpArgs false

structure Kept (W w : World) : Prop where
  os : w.os = W.os
  output : w.output = W.output
  size : W.heap.size ≤ w.heap.size
  block : ∀ k, k < W.heap.size → w.heap[k]? = W.heap[k]?
theorem Kept.refl (W : World) : Kept W W := ⟨rfl, rfl, Nat.le_refl _, fun _ _ => rfl⟩
theorem Kept.trans {a b c : World} (h : Kept a b) (k : Kept b c) : Kept a c :=
  ⟨k.os.trans h.os, k.output.trans h.output, Nat.le_trans h.size k.size, fun i hi => (k.block i (Nat.lt_of_lt_of_le hi h.size)).trans (h.block i hi)⟩
theorem Kept.of {W w : World} (g : Grown W w) : Kept W w := ⟨g.1.1, g.1.2.1, g.2.2, fun k hk => gblock g k hk⟩
theorem Kept.alloc {W w : World} (h : Kept W w) (o : Obj) : Kept W (w.alloc o) :=
  h.trans ⟨rfl, rfl, by show w.heap.size ≤ (w.heap.push _).size; simp, fun k hk => Below.heap_alloc w o k hk⟩
theorem Kept.drew {W w : World} (h : Kept W w) : Kept W w.drew := ⟨h.os, h.output, h.size, h.block⟩
theorem Kept.drewN {W w : World} (h : Kept W w) {n : Nat} : Kept W (w.drewN n) := ⟨h.os, h.output, h.size, h.block⟩
theorem Kept.by {W w w2 : World} {row : Option Nat} (h : Kept W w) (g : w.grownBy w2 row) (hr : ∀ k, row = some k → W.heap.size ≤ k) : Kept W w2 :=
  ⟨g.os.trans h.os, g.output.trans h.output, Nat.le_trans h.size g.size, fun k hk => (g.block k (Nat.lt_of_lt_of_le hk h.size) (fun e => by have := hr k e.symm; omega)).trans (h.block k hk)⟩
theorem Kept.cell {W w : World} (h : Kept W w) {x : Addr} (hx : x.block < W.heap.size) : w.cell? x = W.cell? x := World.cell?_of_block (w := W) (h.block x.block hx)
theorem Kept.frame {W w : World} (h : Kept W w) (may : MemPlace → Prop) : W.keptBut w may := by
  refine ⟨h.os, h.output, fun i hi => ?_⟩
  rw [h.block i hi]
  split <;> simp_all
theorem Kept.same {W w : World} (h : Kept W w) {p : MemPlace} (hp : p.block < W.heap.size) : W.sameAt w p := by
  cases p with
  | cell b o => exact World.cell?_of_block (w := W) (h.block b hp)
  | map b => exact h.block b hp
theorem Kept.trod {H : Type} {enc : TypeId × Value → H} {P : Program} {t : TypeId} (hl : laidOutB P = true) (hr : P.readableRec t = true) (hrow : t < P.types.size) {W w : World} {v : Value} {d : DataW H} {ps : List MemPlace}
    (h : DataW.Trod enc P W 0 (fun _ => true) true t v d ps) (hb : Kept W w) (hlt : ∀ x ∈ ps, x.block < W.heap.size) :
    DataW.Trod enc P w 0 (fun b => decide (b < W.heap.size)) true t v d ps :=
  WideElems.Trod_stays hl hr hrow h (fun x hx => hb.same (hlt x hx)) (fun x hx => by simpa using hlt x hx)
theorem owns_kept {W w : World} (h : Kept W w) {base : Nat} {e : TypeId} {size : Nat} {v : Value} {n : Nat} {xs : List Value} (o : W.ownsRow base e size v n xs) : w.ownsRow base e size v n xs := by
  obtain ⟨o1, o2⟩ := o
  refine ⟨o1, ?_⟩
  rcases o2 with o2 | ⟨g, cap, cur, e1, e2, e3, e4⟩
  · exact .inl o2
  · refine .inr ⟨g, cap, cur, e1, e2, ?_, e4⟩
    have : g < W.heap.size := by
      rcases Nat.lt_or_ge g W.heap.size with q | q
      · exact q
      · rw [Array.getElem?_eq_none q] at e3; cases e3
    rw [h.block g this]; exact e3
theorem owns_row {w : World} {base : Nat} {e : TypeId} {size : Nat} {v : Value} {n : Nat} {xs : List Value} (o : w.ownsRow base e size v n xs) : ∀ k, v.ownBlock = some k → base ≤ k := fun k hk => (o.lt k hk).1
end Go.Proofs.YtlchkflpaehgcaaGreatDoor
