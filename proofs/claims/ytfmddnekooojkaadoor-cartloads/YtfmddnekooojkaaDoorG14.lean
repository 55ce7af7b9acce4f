/- What the document's answers of layer 9 come to: Bytes. -/
import Derived.Test.YtfmddnekooojkaaDoorG08
import Derived.Test.YtfmddnekooojkaaDoorG04
import Derived.Laws.AppendOwnNone
namespace Go.Proofs.YtfmddnekooojkaaDoor
open Go.RowKit
set_option linter.unusedVariables false
set_option linter.unusedSimpArgs false

theorem info9_u8 : (Tryd.prog.info? 5).map (fun i => (i.zero, i.size, i.bytes)) = some (some (.int .u8 0), 1, 1) := by kernel_rfl
def fiveL (c : Ck) (k : Nat) : List Int := (List.range k).map (fun (i : Nat) => readC c (8 + (i : Int)))
def bytesL (a b : Ck) : List Int := fiveL a 5 ++ fiveL b 5
theorem five_step (c : Ck) (k : Nat) : fiveL c (k + 1) = fiveL c k ++ [readC c (8 + (k : Int))] := by unfold fiveL; rw [List.range_succ, List.map_append]; rfl
theorem five_len (c : Ck) (k : Nat) : (fiveL c k).length = k := by simp [fiveL]
theorem one_cell (w : World) (v : Int) : ∀ j u, ([v].map (Value.int .u8))[j]? = some u → (w.alloc (.cells #[.int .u8 v] 5)).cell? ((⟨w.heap.size, 0, none⟩ : Addr).add j) = some u := by
  intro j u hu
  have hj : j = 0 := by
    by_cases q : j = 0
    · exact q
    · rw [List.getElem?_eq_none (by simp; omega)] at hu; cases hu
  subst hj
  rw [show (⟨w.heap.size, 0, none⟩ : Addr).add 0 = ⟨w.heap.size, 0, none⟩ from rfl, (has_alloc w #[.int .u8 v] 5).2 0, ← hu]
  rfl
theorem owns_low {w : World} {b1 b2 : Nat} {e : TypeId} {v : Value} {n : Nat} {xs : List Value} (h : w.ownsRow b1 e 1 v n xs) (hb : b2 ≤ b1) : w.ownsRow b2 e 1 v n xs := by
  obtain ⟨h0, h | ⟨g2, cap2, cur, ev, h1, hh, hr⟩⟩ := h
  · exact ⟨h0, .inl h⟩
  · exact ⟨h0, .inr ⟨g2, cap2, cur, ev, Nat.le_trans hb h1, hh, hr⟩⟩
end Go.Proofs.YtfmddnekooojkaaDoor
