/- What a package-level variable of plain data holds, cell by cell, out of the datum that it reads as. -/
import Derived.Test.YtbflhpffojlpgaaDoorRows
import Derived.Test.YtbflhpffojlpgaaDoorGrow
import Derived.Test.YtbflhpffojlpgaaDoorFlat
import Derived.WalkKit
import Derived.ProofKit
import Derived.OpenShut
import Derived.LaidMore
import Derived.Stop.Joined
namespace Go.Proofs.YtbflhpffojlpgaaDoor
open Go.ChangeShapes Go.WideShapes Go.ChangeAt Go.RowKit

def tile {α H : Type} (o : α → Nat) (ty : α → TypeId) (c : TypeId → Nat) (g : TypeId → DataW H → Option (List Value)) : Nat → List α → List (DataW H) → Option (List Value)
  | _, [], [] => some []
  | off, f :: fs, d :: ds => if o f = off then (g (ty f) d).bind fun l => if l.length = c (ty f) then (tile o ty c g (off + l.length) fs ds).map (l ++ ·) else none else none
  | _, _, _ => none

def untrod {H : Type} (P : Program) : Nat → TypeId → DataW H → Option (List Value)
  | 0, _, _ => none
  | n + 1, t, d => match P.underlying t, d with
    | some .bool, .lit (.bool b) => some [.bool b]
    | some (.int _), .lit (.int k i) => some [.int k i]
    | some .string, .lit (.string l) => some [.string ⟨l.toArray⟩]
    | some (.struct fs), .agg ds => (tile (·.offset) (·.type) P.cellsOf (untrod P n) 0 fs.toList ds).bind fun l => if l.length = P.cellsOf t then some l else none
    | some (.array k e), .agg ds => (tile (· * P.cellsOf e) (fun _ => e) P.cellsOf (untrod P n) 0 (List.range k) ds).bind fun l => if l.length = P.cellsOf t then some l else none
    | _, _ => none

theorem tile_eq {α H : Type} {o : α → Nat} {ty : α → TypeId} {c : TypeId → Nat} {g : TypeId → DataW H → Option (List Value)} {T : TypeId → List Value → Option (DataW H × List MemPlace)} {cs : List Value}
    (ih : ∀ t (cs : List Value) x l, T t cs = some x → g t x.1 = some l → cs = l) :
    ∀ (fs : List α) (xs : List (DataW H × List MemPlace)) (off : Nat) (l : List Value), fs.mapM (fun f => T (ty f) ((cs.drop (o f)).take (c (ty f)))) = some xs → tile o ty c g off fs (xs.map (·.1)) = some l → ∃ k, cs.drop off = l ++ k
  | [], xs, off, l, hm, ht => by
    simp at hm
    subst hm
    simp [tile] at ht
    subst ht
    exact ⟨_, rfl⟩
  | f :: fs, xs, off, l, hm, ht => by
    simp only [List.mapM_cons, Option.bind_eq_bind, Option.bind_eq_some_iff, Option.pure_def, Option.some.injEq] at hm
    obtain ⟨x, hx, r, hr, rfl⟩ := hm
    simp only [List.map_cons, tile] at ht
    split at ht
    · rename_i e
      simp only [Option.bind_eq_some_iff] at ht
      obtain ⟨l1, h1, h2⟩ := ht
      split at h2
      · rename_i hl
        simp only [Option.map_eq_some_iff] at h2
        obtain ⟨l2, h2, rfl⟩ := h2
        have a := ih _ _ _ _ hx h1
        obtain ⟨k, hk⟩ := tile_eq ih fs r _ _ hr h2
        refine ⟨k, ?_⟩
        rw [e, ← hl] at a
        have := List.take_append_drop l1.length (cs.drop off)
        rw [a, List.drop_drop, hk] at this
        rw [List.append_assoc]
        exact this.symm
      · exact absurd h2 (by simp)
    · exact absurd ht (by simp)

theorem trod_array_list {H : Type} {enc : TypeId × Value → H} {P : Program} {w : World} {base : Nat} {spare : Nat → Bool} {held : Bool} {fuel : Nat} {t : TypeId} {cs : List Value} {x : DataW H × List MemPlace} {n : Nat} {e : TypeId}
    (hu : P.underlying t = some (.array n e)) (hx : DataW.trod enc P w base spare held fuel t cs = some x) :
    ∃ (xs : List (DataW H × List MemPlace)) (m : Nat), fuel = m + 1 ∧ x = (.agg (xs.map (·.1)), xs.flatMap (·.2)) ∧ cs.length = P.cellsOf t ∧
      (List.range n).mapM (fun i => DataW.trod enc P w base spare held m e ((cs.drop (i * P.cellsOf e)).take (P.cellsOf e))) = some xs := by
  cases fuel with
  | zero => simp [DataW.trod] at hx
  | succ m =>
    unfold DataW.trod at hx
    rw [hu] at hx
    split at hx <;> simp_all
    obtain ⟨hl, xs, hp, hd⟩ := hx
    exact ⟨xs, hd.symm, hp⟩

theorem untrod_eq {H : Type} {enc : TypeId × Value → H} {P : Program} {w : World} {base : Nat} {spare : Nat → Bool} {held : Bool} :
    ∀ (n fuel : Nat) (t : TypeId) (cs : List Value) (x : DataW H × List MemPlace) (l : List Value), DataW.trod enc P w base spare held fuel t cs = some x → untrod P n t x.1 = some l → cs = l := by
  intro n
  induction n with
  | zero => intro fuel t cs x l _ h; simp [untrod] at h
  | succ n ih =>
    intro fuel t cs x l hx h
    unfold untrod at h
    cases fuel with
    | zero => simp [DataW.trod] at hx
    | succ m =>
      split at h
      · rename_i hu hd
        obtain ⟨b, rfl, rfl⟩ := DataW.trod_bool hu hx
        simp at hd h
        subst hd
        exact h
      · rename_i hu hd
        obtain ⟨b, rfl, rfl, hw⟩ := DataW.trod_int hu hx
        simp at hd h
        obtain ⟨rfl, rfl⟩ := hd
        exact h
      · rename_i hu hd
        obtain ⟨b, rfl, rfl, hw⟩ := DataW.trod_string hu hx
        simp at hd h
        subst hd
        simpa using h
      · rename_i fs ds hu hd
        obtain ⟨xs, m2, e, rfl, hl, hp⟩ := trod_struct_list hu hx
        obtain rfl := Nat.succ.inj e
        obtain rfl := DataW.agg.inj hd
        obtain ⟨l2, h2, h3⟩ := Option.bind_eq_some_iff.1 h
        split at h3
        · rename_i hl2
          obtain rfl := Option.some.inj h3
          obtain ⟨k, hk⟩ := tile_eq (T := fun t cs => DataW.trod enc P w base spare held m t cs) (fun t cs x l a b => ih m t cs x l a b) _ xs 0 _ hp h2
          have : k = [] := by
            have := congrArg List.length hk
            simp at this
            exact List.length_eq_zero_iff.1 (by omega)
          simpa [this] using hk
        · exact absurd h3 (by simp)
      · rename_i q e1 ds hu hd
        obtain ⟨xs, m2, e, rfl, hl, hp⟩ := trod_array_list hu hx
        obtain rfl := Nat.succ.inj e
        obtain rfl := DataW.agg.inj hd
        obtain ⟨l2, h2, h3⟩ := Option.bind_eq_some_iff.1 h
        split at h3
        · rename_i hl2
          obtain rfl := Option.some.inj h3
          obtain ⟨k, hk⟩ := tile_eq (o := fun i => i * P.cellsOf e1) (ty := fun _ => e1) (T := fun t cs => DataW.trod enc P w base spare held m t cs) (fun t cs x l a b => ih m t cs x l a b) _ xs 0 _ hp h2
          have : k = [] := by
            have := congrArg List.length hk
            simp at this
            exact List.length_eq_zero_iff.1 (by omega)
          simpa [this] using hk
        · exact absurd h3 (by simp)
      · exact absurd h (by simp)

theorem has_var {P : Program} {W : World} {n : String} {g t : Nat} {cs : Array Value} {fuel k : Nat} {d : DataW Unit} {p : List MemPlace} {l : List Value}
    (hg : P.globalNamed n = some g) (hv : W.var? P n = some cs) (hd : DataW.trod (fun _ => ()) P W 0 (fun _ => true) false fuel t cs.toList = some (d, p)) (hu : untrod P k t d = some l) (h0 : 0 < l.length) : Has W g l.toArray := by
  have e := untrod_eq k fuel t cs.toList (d, p) l hd hu
  subst e
  have hc := World.var?_cell hg hv
  refine ⟨?_, fun i => by simpa using hc i⟩
  have h := hc 0
  rw [Array.getElem?_eq_getElem (by simpa using h0)] at h
  by_cases hn : g < W.heap.size
  · exact hn
  · exact absurd h (by simp [World.cell?, Array.getElem?_eq_none (Nat.le_of_not_lt hn)])
end Go.Proofs.YtbflhpffojlpgaaDoor
