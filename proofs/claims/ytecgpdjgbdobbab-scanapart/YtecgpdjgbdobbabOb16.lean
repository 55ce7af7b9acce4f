/- Plain numbers of layer 16: objects as records. -/
import Derived.Test.YtecgpdjgbdobbabBk
import Derived.Test.YtecgpdjgbdobbabFlats
import Derived.Test.YtecgpdjgbdobbabBits
namespace Go.Proofs.Ytecgpdjgbdobbab
open Go.RowKit
set_option linter.unusedVariables false
set_option linter.unusedSimpArgs false

/-- An object: Y, X, Tile, Attr, At. -/
abbrev Ob : Type := Fin 256 × Fin 256 × Fin 256 × Fin 256 × Fin 256
abbrev b8 (v : Fin 256) : Value := .int .u8 (v.val : Int)
def obC (o : Ob) : List Value := [b8 o.1, b8 o.2.1, b8 o.2.2.1, b8 o.2.2.2.1, b8 o.2.2.2.2]
def obV (o : Ob) : Value := .agg #[b8 o.1, b8 o.2.1, b8 o.2.2.1, b8 o.2.2.2.1, b8 o.2.2.2.2]
theorem obV_eq (o : Ob) : obV o = .agg (obC o).toArray := rfl
theorem obC_len (o : Ob) : (obC o).length = 5 := rfl
theorem obC_one (o : Ob) : ∀ v ∈ obC o, v.oneCell' = true := by
  intro v hv
  simp [obC] at hv
  rcases hv with rfl | rfl | rfl | rfl | rfl <;> rfl
def key16 (o : Ob) : Nat := o.2.1.val * 256 + o.2.2.2.2.val
def cmpI (x y : Int) : Int := if x < y then -1 else if y < x then 1 else 0
/-- The order's answer. -/
def cf16 (a b : Ob) : Int := if a.2.1.val = b.2.1.val then cmpI a.2.2.2.2.val b.2.2.2.2.val else cmpI a.2.1.val b.2.1.val
theorem cf_neg (a b : Ob) : cf16 a b < 0 ↔ key16 a < key16 b := by
  obtain ⟨a0, ⟨a1, h1⟩, a2, a3, ⟨a4, h4⟩⟩ := a
  obtain ⟨b0, ⟨b1, k1⟩, b2, b3, ⟨b4, k4⟩⟩ := b
  simp only [cf16, key16, cmpI]
  repeat' split
  all_goals omega
/-- A byte as one of 256. -/
theorem fin_of {a : Int} (h0 : 0 ≤ a) (h1 : a ≤ 255) : ∃ v : Fin 256, a = (v.val : Int) := ⟨⟨a.toNat, by omega⟩, by simp; omega⟩
end Go.Proofs.Ytecgpdjgbdobbab
