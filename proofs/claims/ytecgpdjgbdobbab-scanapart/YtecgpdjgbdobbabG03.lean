/- Structs of plain cells (integers, bools, strings, structs of such) that come in by value: their cells, each by its kind; they read the same in every world. -/
import Derived.WalkKit
import Derived.ProofKit
import Derived.OpenShut
namespace Go.Proofs.Ytecgpdjgbdobbab
open Go.ChangeShapes Go.WideShapes Go.ChangeAt Go.RowKit

def leafOk : TypeDesc → Value → Prop
  | .bool, v => ∃ b, v = .bool b
  | .int k, v => ∃ n, v = .int k n ∧ (Lit.int k n).wf = true
  | .string, v => ∃ s, v = .string s ∧ s.size ≤ maxLen
  | _, _ => False

def fitAll : List (Nat × TypeDesc) → List Value → Prop
  | [], _ => True
  | p :: l, cs => (∃ v, cs[p.1]? = some v ∧ leafOk p.2 v) ∧ fitAll l cs

theorem fitAll_of {cs : List Value} : ∀ {l : List (Nat × TypeDesc)}, (∀ p ∈ l, ∃ v, cs[p.1]? = some v ∧ leafOk p.2 v) → fitAll l cs
  | [], _ => trivial
  | p :: l, h => ⟨h p (by simp), fitAll_of fun q hq => h q (by simp [hq])⟩

def leaves (P : Program) : Nat → TypeId → Option (List (Nat × TypeDesc))
  | 0, _ => none
  | n + 1, t => match P.underlying t with
    | some .bool => some [(0, .bool)]
    | some (.int k) => some [(0, .int k)]
    | some .string => some [(0, .string)]
    | some (.struct fs) => (fs.toList.mapM fun f => (leaves P n f.type).map fun l => l.map fun x => (f.offset + x.1, x.2)).map List.flatten
    | _ => none

theorem mapM_same {α β : Type} {f g : α → Option β} : ∀ {l : List α} {r : List β}, l.mapM f = some r → (∀ x ∈ l, ∀ y, f x = some y → g x = some y) → l.mapM g = some r
  | [], r, h, _ => by simpa using h
  | a :: l, r, h, hs => by
    simp only [List.mapM_cons, Option.bind_eq_bind, Option.bind_eq_some_iff, Option.pure_def, Option.some.injEq] at h ⊢
    obtain ⟨b, hb, r2, hr, rfl⟩ := h
    exact ⟨b, hs a (by simp) b hb, r2, mapM_same hr (fun x hx => hs x (by simp [hx])), rfl⟩

theorem mapM_mem {α β : Type} {f : α → Option β} : ∀ {l : List α} {r : List β}, l.mapM f = some r → ∀ y ∈ r, ∃ x ∈ l, f x = some y
  | [], r, h, y, hy => by simp at h; subst h; simp at hy
  | a :: l, r, h, y, hy => by
    simp only [List.mapM_cons, Option.bind_eq_bind, Option.bind_eq_some_iff, Option.pure_def, Option.some.injEq] at h
    obtain ⟨b, hb, r2, hr, rfl⟩ := h
    rcases List.mem_cons.1 hy with rfl | hy
    · exact ⟨a, by simp, hb⟩
    · obtain ⟨x, hx, e⟩ := mapM_mem hr y hy
      exact ⟨x, by simp [hx], e⟩

theorem mapM_def {α β : Type} {f : α → Option β} : ∀ {l : List α} {r : List β}, l.mapM f = some r → ∀ x ∈ l, ∃ y ∈ r, f x = some y
  | [], r, h, x, hx => by simp at hx
  | a :: l, r, h, x, hx => by
    simp only [List.mapM_cons, Option.bind_eq_bind, Option.bind_eq_some_iff, Option.pure_def, Option.some.injEq] at h
    obtain ⟨b, hb, r2, hr, rfl⟩ := h
    rcases List.mem_cons.1 hx with rfl | hx
    · exact ⟨b, by simp, hb⟩
    · obtain ⟨y, hy, e⟩ := mapM_def hr x hx
      exact ⟨y, by simp [hy], e⟩

theorem trod_struct_list {H : Type} {enc : TypeId × Value → H} {P : Program} {w : World} {base : Nat} {spare : Nat → Bool} {held : Bool} {fuel : Nat} {t : TypeId} {cs : List Value} {x : DataW H × List MemPlace} {fs : Array Field}
    (hu : P.underlying t = some (.struct fs)) (hx : DataW.trod enc P w base spare held fuel t cs = some x) :
    ∃ (xs : List (DataW H × List MemPlace)) (m : Nat), fuel = m + 1 ∧ x = (.agg (xs.map (·.1)), xs.flatMap (·.2)) ∧ cs.length = P.cellsOf t ∧
      fs.toList.mapM (fun f => DataW.trod enc P w base spare held m f.type ((cs.drop f.offset).take (P.cellsOf f.type))) = some xs := by
  cases fuel with
  | zero => simp [DataW.trod] at hx
  | succ m =>
    unfold DataW.trod at hx
    rw [hu] at hx
    split at hx <;> simp_all
    obtain ⟨hl, xs, hp, hd⟩ := hx
    exact ⟨xs, hd.symm, hp⟩

theorem flat_fits {H : Type} {enc : TypeId × Value → H} {P : Program} {w : World} {base : Nat} {spare : Nat → Bool} {held : Bool} :
    ∀ (n : Nat) (t : TypeId) (L : List (Nat × TypeDesc)), leaves P n t = some L → ∀ (fuel : Nat) (cs : List Value) (x : DataW H × List MemPlace), DataW.trod enc P w base spare held fuel t cs = some x →
      x.2 = [] ∧ (∀ p ∈ L, ∃ v, cs[p.1]? = some v ∧ leafOk p.2 v) ∧ ∀ (w2 : World) (b2 : Nat) (s2 : Nat → Bool) (h2 : Bool), DataW.trod enc P w2 b2 s2 h2 fuel t cs = some x := by
  intro n
  induction n with
  | zero => intro t L h; simp [leaves] at h
  | succ n ih =>
    intro t L h fuel cs x hx
    unfold leaves at h
    split at h
    · rename_i hu
      obtain rfl := Option.some.inj h
      cases fuel with
      | zero => simp [DataW.trod] at hx
      | succ m =>
        obtain ⟨b, rfl, rfl⟩ := DataW.trod_bool hu hx
        refine ⟨rfl, ?_, ?_⟩
        · intro p hp
          obtain rfl := List.mem_singleton.1 hp
          exact ⟨_, rfl, _, rfl⟩
        · intro w2 b2 s2 h2
          simp [DataW.trod, hu]
    · rename_i k hu
      obtain rfl := Option.some.inj h
      cases fuel with
      | zero => simp [DataW.trod] at hx
      | succ m =>
        obtain ⟨b, rfl, rfl, hw⟩ := DataW.trod_int hu hx
        refine ⟨rfl, ?_, ?_⟩
        · intro p hp
          obtain rfl := List.mem_singleton.1 hp
          exact ⟨_, rfl, _, rfl, hw⟩
        · intro w2 b2 s2 h2
          simp [DataW.trod, hu, hw]
    · rename_i hu
      obtain rfl := Option.some.inj h
      cases fuel with
      | zero => simp [DataW.trod] at hx
      | succ m =>
        obtain ⟨b, rfl, rfl, hw⟩ := DataW.trod_string hu hx
        refine ⟨rfl, ?_, ?_⟩
        · intro p hp
          obtain rfl := List.mem_singleton.1 hp
          exact ⟨_, rfl, _, rfl, hw⟩
        · intro w2 b2 s2 h2
          simp [DataW.trod, hu, hw]
    · rename_i fs hu
      simp only [Option.map_eq_some_iff] at h
      obtain ⟨Ls, hLs, rfl⟩ := h
      obtain ⟨xs, m, rfl, rfl, hl, hp⟩ := trod_struct_list hu hx
      clear hx
      have hall : ∀ f ∈ fs.toList, ∃ l, leaves P n f.type = some l := by
        intro f hf
        obtain ⟨y, hy, e⟩ := mapM_def hLs f hf
        simp only [Option.map_eq_some_iff] at e
        obtain ⟨l, hl2, rfl⟩ := e
        exact ⟨l, hl2⟩
      refine ⟨?_, ?_, ?_⟩
      · simp only [List.flatMap_eq_nil_iff]
        intro y hy
        obtain ⟨f, hf, e⟩ := mapM_mem hp y hy
        obtain ⟨l, hl2⟩ := hall f hf
        exact (ih _ l hl2 m _ _ e).1
      · intro p hpm
        obtain ⟨q, hq, hpq⟩ := List.mem_flatten.1 hpm
        obtain ⟨f, hf, e⟩ := mapM_mem hLs q hq
        simp only [Option.map_eq_some_iff] at e
        obtain ⟨l, hl2, rfl⟩ := e
        obtain ⟨r, hr, rfl⟩ := List.mem_map.1 hpq
        obtain ⟨y, hy, e2⟩ := mapM_def hp f hf
        obtain ⟨v, hv, ok⟩ := (ih _ l hl2 m _ _ e2).2.1 r hr
        refine ⟨v, ?_, ok⟩
        rw [List.getElem?_take] at hv
        split at hv
        · rw [List.getElem?_drop] at hv
          exact hv
        · exact absurd hv (by simp)
      · intro w2 b2 s2 h2
        refine trod_struct_mk hu hl (mapM_same hp ?_)
        intro f hf y hy
        obtain ⟨l, hl2⟩ := hall f hf
        exact (ih _ l hl2 m _ _ hy).2.2 w2 b2 s2 h2
    · simp at h

theorem flat_open {H : Type} {enc : TypeId × Value → H} {P : Program} {w : World} {base b0 : Nat} {spare : Nat → Bool} {held : Bool} {r : Reach} {t : TypeId} {fs : Array Field} {v : Value} {d : DataW H} {p : List MemPlace} {n c : Nat} {L : List (Nat × TypeDesc)}
    (hs : P.underlying t = some (.struct fs)) (hL : leaves P n t = some L) (hC : P.cellsOf t = c) (hv : Value.okWide P w r b0 t v) (h : DataW.Trod enc P w base spare held t v d p) :
    p = [] ∧ (∃ l : List Value, v = .agg l.toArray ∧ l.length = c ∧ fitAll L l) ∧ ∀ (w2 : World) (b2 : Nat) (s2 : Nat → Bool) (h2 : Bool), DataW.Trod enc P w2 b2 s2 h2 t v d [] := by
  obtain ⟨cs, rfl, hsz⟩ := okWide_struct hs hv
  obtain ⟨fuel, hf⟩ := h
  obtain ⟨h1, h2, h3⟩ := flat_fits n t L hL fuel _ _ hf
  obtain rfl : p = [] := h1
  refine ⟨rfl, ⟨cs.toList, by simp, by simpa [hC] using hsz, fitAll_of (by simpa [Value.cells] using h2)⟩, fun w2 b2 s2 hh => ⟨fuel, h3 w2 b2 s2 hh⟩⟩
end Go.Proofs.Ytecgpdjgbdobbab
