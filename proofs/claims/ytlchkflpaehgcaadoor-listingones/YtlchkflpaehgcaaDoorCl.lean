/- What Assemble of the document's answers of layer 6 comes to. What All of the document's answers of layer 6 comes to. Bytes that lie in memory, as a string. -/
import Derived.Test.YtlchkflpaehgcaaDoorCg
import Derived.Test.YtlchkflpaehgcaaDoorCk
import Derived.Laws.BytesString
namespace Go.Proofs.YtlchkflpaehgcaaDoor
open Go.RowKit
set_option linter.unusedVariables false
set_option linter.unusedSimpArgs false

end Go.Proofs.YtlchkflpaehgcaaDoor
namespace Go.Proofs.YtlchkflpaehgcaaDoor
open Go.RowKit
set_option linter.unusedVariables false
set_option linter.unusedSimpArgs false

theorem info_u8 : (Tryd.prog.info? 5).map (fun i => (i.zero, i.size, i.bytes)) = some (some (.int .u8 0), 1, 1) := by kernel_rfl
theorem owned_form {w : World} {base : Nat} {e : TypeId} {v : Value} {n : Nat} {xs : List Value} (o : w.ownsRow base e 1 v n xs) (hn : 1 ≤ n) : ∃ g cap, v = .slice (some ⟨g, 0, none⟩) n cap ∧ ∀ j u, xs[j]? = some u → w.cell? ((⟨g, 0, none⟩ : Addr).add j) = some u := by
  rcases id o.2 with ⟨_, h⟩ | ⟨g, cap, cur, e1, _⟩
  · omega
  · exact ⟨g, cap, e1, o.cells (by rw [e1]; rfl)⟩
end Go.Proofs.YtlchkflpaehgcaaDoor
namespace Go.Proofs.YtlchkflpaehgcaaDoor
open Go.RowKit
set_option linter.unusedVariables false
set_option linter.unusedSimpArgs false

theorem has_kept {W w1 : World} (g : Kept W w1) {b : Nat} {cs : Array Value} (h : Has W b cs) : Has w1 b cs :=
  ⟨Nat.lt_of_lt_of_le h.1 g.size, fun i => (g.cell (x := ⟨b, i, none⟩) h.1).trans (h.2 i)⟩
def strOf (ns : List Int) : ByteArray := ns.foldl (fun r n => r.push (UInt8.ofNat n.toNat)) ByteArray.empty
theorem conv_cells (w : World) (a : Addr) (cap : Nat) (ns : List Int) (h : ∀ j u, (ns.map (Value.int .u8))[j]? = some u → w.cell? (a.add j) = some u) : (convert 27 9 (.slice (some a) ns.length cap)).run Tryd.prog w = .ok (.string (strOf ns)) w := by
  rw [run_convert_bytes_string w 27 9 5 _ _ _ Tryd.underlying27 Tryd.underlying5 Tryd.underlying9]
  refine run_bytesToString w a ns.length cap ns ?_
  have := run_loadCells_list (P := Tryd.prog) w a (ns.map (Value.int .u8)) h
  simpa using this
theorem conv_nil (w : World) : (convert 27 9 (.slice none 0 0)).run Tryd.prog w = .ok (.string (strOf [])) w := by kernel_rfl
theorem conv_own {w : World} {base : Nat} {v : Value} {ns : List Int} (o : w.ownsRow base 5 1 v ns.length (ns.map (Value.int .u8))) : (convert 27 9 v).run Tryd.prog w = .ok (.string (strOf ns)) w := by
  rcases id o.2 with ⟨rfl, h⟩ | ⟨g, cap, cur, rfl, _⟩
  · have : ns = [] := List.length_eq_zero_iff.1 h
    subst this
    exact conv_nil w
  · exact conv_cells w ⟨g, 0, none⟩ cap ns (o.cells rfl)
theorem conv_row {w : World} {a : Option Addr} {zs : List Int} {cap : Nat} (r : Row w a zs) (hn : a = none → cap = 0) : (convert 27 9 (.slice a zs.length cap)).run Tryd.prog w = .ok (.string (strOf zs)) w ∨ zs = [] := by
  rcases r.2.2 with h | ⟨x, rfl, hx, hc⟩
  · exact .inr h
  · refine .inl (conv_cells w x cap zs fun j u hu => ?_)
    have hj : j < zs.length := by
      rcases Nat.lt_or_ge j zs.length with q | q
      · exact q
      · rw [List.getElem?_eq_none (by simpa using q)] at hu; cases hu
    rw [hc j hj]
    simp [List.getElem?_eq_getElem hj] at hu
    rw [← hu, List.getD_eq_getElem?_getD, List.getElem?_eq_getElem hj]
    rfl
end Go.Proofs.YtlchkflpaehgcaaDoor
