/- Layer 18's laws of windows, lines, texts and shades. -/
import Derived.Test.YtecgpdjgbdobbabSw18
namespace Go.Proofs.Ytecgpdjgbdobbab
open Go.RowKit
set_option linter.unusedVariables false
set_option linter.unusedSimpArgs false

theorem conv_nil18 (w : World) : (convert 22 9 (.slice none 0 0)).run Try.prog w = .ok (.string (strB [])) w := by kernel_rfl
theorem conv_sl18 {w : World} {a : Option Addr} {cap : Nat} {z : List Int} (h : Sl w a cap z) : (convert 22 9 (.slice a z.length cap)).run Try.prog w = .ok (.string (strB z)) w := by
  cases a with
  | none =>
    obtain rfl : cap = 0 := h.nil rfl
    have z0 := h.len
    obtain rfl : z = [] := List.eq_nil_of_length_eq_zero (by omega)
    exact conv_nil18 w
  | some x => exact conv_cells w x cap z (row_news10 h.row)
theorem conv_line18 {w : World} {b : Nat} {t : TypeId} {v : Vd} {y win : Int} (h : Blk w b t (colsL (dotL v y win))) : (convert 22 9 (.slice (some ⟨b, 0, none⟩) 160 160)).run Try.prog w = .ok (.string (strB (lineP v y win))) w := by
  have q := conv_cells w ⟨b, 0, none⟩ 160 (lineP v y win) (fun j u hu => by rw [ownB_add, blk_cell h, cols_line]; exact hu)
  rw [line_len] at q
  exact q
theorem and3_bits : ∀ c : Fin 256, (bits .and .u8 (c.val : Int) 3 == 0) = true → bitOf (c.val : Int) 0 = false ∧ bitOf (c.val : Int) 1 = false := by decide +kernel
theorem dot_none {v : Vd} (y win : Int) (x : Nat) (h0 : bitOf v.ctl 0 = false) (h1 : bitOf v.ctl 1 = false) : dotL v y win x = 0 := by
  unfold dotL objsP
  rw [h1, if_neg (by simp)]
  unfold dotP
  rw [h0]
  rfl
end Go.Proofs.Ytecgpdjgbdobbab
