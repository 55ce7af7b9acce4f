/- Bytes that lie in memory, for layer 7. -/
import Derived.Test.YtbflhpffojlpgaaDoorK6
namespace Go.Proofs.YtbflhpffojlpgaaDoor
open Go.RowKit
set_option linter.unusedVariables false
set_option linter.unusedSimpArgs false

def InByte (z : Int) : Prop := 0 ≤ z ∧ z ≤ 255
def Row (w : World) (a : Option Addr) (zs : List Int) : Prop :=
  zs.length ≤ maxLen ∧ (∀ z ∈ zs, InByte z) ∧ (zs = [] ∨ ∃ x : Addr, a = some x ∧ x.block < w.heap.size ∧ ∀ i, i < zs.length → w.cell? (x.add i) = some (.int .u8 (zs.getD i 0)))
theorem addB (x : Addr) (n : Nat) : (x.add n).block = x.block := by unfold Addr.add; split <;> rfl
theorem row_kept {W w : World} (g : Kept W w) {a : Option Addr} {zs : List Int} (h : Row W a zs) : Row w a zs := by
  obtain ⟨h1, h2, h3⟩ := h
  refine ⟨h1, h2, ?_⟩
  rcases h3 with h3 | ⟨x, e, hx, hc⟩
  · exact .inl h3
  · exact .inr ⟨x, e, Nat.lt_of_lt_of_le hx g.size, fun i hi => by rw [g.cell (x := x.add i) (by rw [addB]; exact hx)]; exact hc i hi⟩
theorem add_add (x : Addr) (k i : Nat) : (x.add k).add i = x.add (k + i) := by
  unfold Addr.add
  by_cases hk : k = 0
  · subst hk; simp
  · by_cases hi : i = 0
    · subst hi; simp [hk]
    · simp [hk, hi]; omega
theorem row_drop {w : World} {x : Addr} {zs : List Int} (k : Nat) (h : Row w (some x) zs) (hk : k ≤ zs.length) : Row w (some (x.add k)) (zs.drop k) := by
  obtain ⟨h1, h2, h3⟩ := h
  refine ⟨by simp; omega, fun z hz => h2 z (List.mem_of_mem_drop hz), ?_⟩
  rcases h3 with h3 | ⟨y, e, hy, hc⟩
  · exact .inl (by rw [h3]; simp)
  · obtain rfl : x = y := Option.some.inj e
    refine .inr ⟨x.add k, rfl, by rw [addB]; exact hy, fun i hi => ?_⟩
    have hi2 : k + i < zs.length := by simp at hi; omega
    rw [add_add, hc (k + i) hi2]
    simp [List.getD_eq_getElem?_getD, List.getElem?_drop]
theorem row_take {w : World} {a : Option Addr} {z : List Int} (n : Nat) (h : Row w a z) : Row w a (z.take n) := by
  obtain ⟨h1, h2, h3⟩ := h
  refine ⟨by rw [List.length_take]; omega, fun y hy => h2 y (List.mem_of_mem_take hy), ?_⟩
  rcases h3 with h3 | ⟨x, e, hx, hc⟩
  · exact .inl (by rw [h3]; simp)
  · refine .inr ⟨x, e, hx, fun i hi => ?_⟩
    rw [List.length_take] at hi
    rw [hc i (by omega), List.getD_eq_getElem?_getD, List.getD_eq_getElem?_getD, List.getElem?_take_of_lt (by omega)]
theorem row_get {w : World} {a : Option Addr} {zs : List Int} (h : Row w a zs) (hne : 0 < zs.length) : ∃ x : Addr, a = some x ∧ x.block < w.heap.size ∧ ∀ i, i < zs.length → w.cell? (x.add i) = some (.int .u8 (zs.getD i 0)) ∧ InByte (zs.getD i 0) := by
  rcases h.2.2 with h3 | ⟨x, e, hx, hc⟩
  · rw [h3] at hne; simp at hne
  · refine ⟨x, e, hx, fun i hi => ⟨hc i hi, h.2.1 _ ?_⟩⟩
    rw [List.getD_eq_getElem?_getD, List.getElem?_eq_getElem hi]
    exact List.getElem_mem hi
end Go.Proofs.YtbflhpffojlpgaaDoor
