/- Slices of structs of plain cells that come in: their cells, element by element. -/
import Derived.Test.YtecgpdjgbdobbabG03
import Derived.ChangeSlices
import Derived.SizedLaws
namespace Go.Proofs.Ytecgpdjgbdobbab
open Go.ChangeShapes Go.WideShapes Go.ChangeAt Go.RowKit
set_option linter.unusedVariables false

/-- A row of structs of c cells each, at an address. -/
def FRow (W : World) (a : Option Addr) (c : Nat) (els : List (List Value)) : Prop :=
  els.length ≤ maxLen ∧ (els = [] ∨ ∃ x : Addr, a = some x ∧ x.block < W.heap.size ∧ ∀ (i : Nat) (cs : List Value), els[i]? = some cs → ∀ j, j < c → W.cell? (x.add (i * c + j)) = cs[j]?)
theorem addF (x : Addr) (k i : Nat) : (x.add k).add i = x.add (k + i) := by
  unfold Addr.add
  by_cases hk : k = 0
  · subst hk; simp
  · by_cases hi : i = 0
    · subst hi; simp [hk]
    · simp [hk, hi]; omega
theorem addFB (x : Addr) (n : Nat) : (x.add n).block = x.block := by unfold Addr.add; split <;> rfl
theorem list_choose {α β : Type} {f : β → α} {p : β → Prop} : ∀ (l : List α), (∀ a ∈ l, ∃ b, a = f b ∧ p b) → ∃ bs : List β, l = bs.map f ∧ ∀ b ∈ bs, p b
  | [], _ => ⟨[], rfl, fun _ h => by cases h⟩
  | a :: l, h => by
    obtain ⟨b, e, hb⟩ := h a (by simp)
    obtain ⟨bs, e2, h2⟩ := list_choose l (fun x hx => h x (by simp [hx]))
    refine ⟨b :: bs, by rw [e, e2]; rfl, fun x hx => ?_⟩
    rcases List.mem_cons.1 hx with rfl | hx
    · exact hb
    · exact h2 x hx
theorem frow_get {W : World} {a : Option Addr} {c : Nat} {β : Type} {f : β → List Value} {bs : List β} (h : FRow W a c (bs.map f)) (hne : 0 < bs.length) : ∃ x : Addr, a = some x ∧ x.block < W.heap.size ∧ ∀ (i : Nat) (hi : i < bs.length) (j : Nat), j < c → W.cell? (x.add (i * c + j)) = (f bs[i])[j]? := by
  rcases h.2 with h3 | ⟨x, e, hx, hc⟩
  · have := congrArg List.length h3
    rw [List.length_map, List.length_nil] at this
    omega
  · exact ⟨x, e, hx, fun i hi j hj => hc i (f bs[i]) (by rw [List.getElem?_map, List.getElem?_eq_getElem hi]; rfl) j hj⟩
theorem frow_getD {W : World} {a : Option Addr} {c : Nat} {β : Type} {f : β → List Value} {bs : List β} (d : β) (h : FRow W a c (bs.map f)) (hne : 0 < bs.length) : ∃ x : Addr, a = some x ∧ x.block < W.heap.size ∧ ∀ i, i < bs.length → ∀ j, j < c → W.cell? (x.add (i * c + j)) = (f (bs.getD i d))[j]? := by
  obtain ⟨x, e, hx, hc⟩ := frow_get h hne
  refine ⟨x, e, hx, fun i hi j hj => ?_⟩
  rw [hc i hi j hj, List.getD_eq_getElem?_getD, List.getElem?_eq_getElem hi]
  rfl
theorem getD_mem {β : Type} {p : β → Prop} {bs : List β} (d : β) (h : ∀ b ∈ bs, p b) (i : Nat) (hi : i < bs.length) : p (bs.getD i d) := by
  rw [List.getD_eq_getElem?_getD, List.getElem?_eq_getElem hi]
  exact h _ (List.getElem_mem hi)
theorem sized_part8 {H : Type} {P : Program} {ts : List TypeId} {ds : List (DataW H)} (h : (DataW.weightsEach P ts ds).all (· ≤ reachBytes) = true) {j : Nat} {t : TypeId} {d : DataW H} (ht : ts[j]? = some t) (hd : ds[j]? = some d) : (d.weights P t).all (· ≤ reachBytes) = true :=
  List.all_eq_true.2 fun n hn => List.all_eq_true.1 h n (DataW.weights_mem_each ht hd n hn)
theorem open_flats {H : Type} {enc : TypeId × Value → H} {P : Program} {W : World} {t e : TypeId} {n c : Nat} {L : List (Nat × TypeDesc)} (ht : P.underlying t = some (.slice e)) (hL : leaves P n e = some L) (hc : P.cellsOf e = c) (h0 : 0 < c)
    {fuel : Nat} {v : Value} {x : DataW H × List MemPlace} (h : DataW.trod enc P W 0 (fun _ => true) true fuel t [v] = some x) :
    ∃ (a : Option Addr) (cap : Nat) (els : List (List Value)), v = .slice a els.length cap ∧ FRow W a c els ∧ (∀ cs ∈ els, cs.length = c ∧ fitAll L cs) ∧ els.length ≤ cap ∧ cap ≤ maxLen ∧ (a = none → cap = 0) ∧ ((x.1.weights P t).all (· ≤ reachBytes) = true → els.length * P.bytesOf e ≤ reachBytes) := by
  rcases DataW.trod_slice ht h with ⟨h1, h2⟩ | ⟨a, len, cap, elems, rest, m, _, hv, hx, hb, hl, hm, hlen, hel, hsp, hns⟩
  · simp at h1
    subst h1
    exact ⟨none, 0, [], rfl, ⟨by simp, .inl rfl⟩, fun _ h => (by cases h), by simp, by simp, fun _ => rfl, fun _ => by simp⟩
  · simp at hv
    subst hv
    have each : ∀ i, i < len → ∃ cs y, W.cells? 0 (a.add (i * c)) c = some cs ∧ DataW.trod enc P W 0 (fun _ => true) true m e cs = some y := by
      intro i hi
      have := hel i hi
      rw [hc, List.getElem?_eq_getElem (by omega)] at this
      obtain ⟨cs, h1, h2⟩ := Option.bind_eq_some_iff.1 this
      exact ⟨cs, _, h1, h2⟩
    refine ⟨some a, cap, (List.range len).map (fun i => (W.cells? 0 (a.add (i * c)) c).getD []), by simp, ⟨by simp; omega, ?_⟩, ?_, by simpa using hl, hm, (fun e => by cases e), ?_⟩
    · by_cases hz : len = 0
      · left; subst hz; rfl
      · right
        obtain ⟨cs, y, h1, _⟩ := each 0 (by omega)
        refine ⟨a, rfl, ?_, fun i cs hi j hj => ?_⟩
        · have := World.cells?_block h1 h0
          rw [addFB] at this
          exact this
        · rw [List.getElem?_map] at hi
          have hil : i < len := by
            by_cases q : i < len
            · exact q
            · rw [List.getElem?_eq_none (by simp; omega)] at hi; cases hi
          rw [List.getElem?_range hil] at hi
          obtain ⟨cs2, y2, h3, _⟩ := each i hil
          simp only [Option.map_some, Option.some.injEq, h3, Option.getD_some] at hi
          subst hi
          obtain ⟨_, hlen2, hcell⟩ := World.cells?_some h3
          rw [← addF]
          exact hcell j hj
    · intro cs hcs
      obtain ⟨i, hi, rfl⟩ := List.mem_map.1 hcs
      obtain ⟨cs2, y2, h3, h4⟩ := each i (List.mem_range.1 hi)
      rw [h3, Option.getD_some]
      exact ⟨(World.cells?_some h3).2.1, fitAll_of (flat_fits n e L hL m _ _ h4).2.1⟩
    · intro hw
      rw [hx] at hw
      simp only [DataW.weights, ht, List.all_cons, Bool.and_eq_true, decide_eq_true_eq, List.length_map] at hw
      simp only [List.length_map, List.length_range]
      refine Nat.le_trans ?_ hw.1
      exact Nat.mul_le_mul_right _ (by omega)
end Go.Proofs.Ytecgpdjgbdobbab
