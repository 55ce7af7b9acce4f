/- What the laws of layer 10 want of the program's cart, and of plain states. -/
import Derived.Test.YtfmddnekooojkaaGreatDoorG39
import Derived.Test.YtfmddnekooojkaaGreatDoorG25
import Derived.Test.YtfmddnekooojkaaGreatDoorG06
import Derived.Deep.RegionHeld
namespace Go.Proofs.YtfmddnekooojkaaGreatDoor
open Go.RowKit
set_option linter.unusedVariables false
set_option linter.unusedSimpArgs false

theorem conv_nil10 (w : World) : (convert 22 9 (.slice none 0 0)).run Tryz.prog w = .ok (.string (strB [])) w := by kernel_rfl
theorem conv_sl {w : World} {a : Option Addr} {cap : Nat} {z : List Int} (h : Sl w a cap z) : (convert 22 9 (.slice a z.length cap)).run Tryz.prog w = .ok (.string (strB z)) w := by
  cases a with
  | none =>
    obtain rfl : cap = 0 := h.nil rfl
    have z0 := h.len
    obtain rfl : z = [] := List.eq_nil_of_length_eq_zero (by omega)
    exact conv_nil10 w
  | some x => exact conv_cells w x cap z (row_news10 h.row)
theorem conv_own10 {w : World} {base : Nat} {v : Value} {L : List Int} (o : w.ownsRow base 5 1 v L.length (L.map (Value.int .u8))) : (convert 22 9 v).run Tryz.prog w = .ok (.string (strB L)) w := by
  rcases id o.2 with ⟨rfl, q⟩ | ⟨g, cap, cur, rfl, _⟩
  · obtain rfl := List.eq_nil_of_length_eq_zero q
    exact conv_nil10 w
  · exact conv_cells w _ cap L (o.cells rfl)
theorem write_img (s : Cs) (a v : Int) : (writeS s a v).img = s.img := by
  unfold writeS; repeat' split
  all_goals rfl
theorem write_rlen (s : Cs) (a v : Int) : (writeS s a v).ram.length = s.ram.length := by
  unfold writeS; repeat' split
  all_goals first | rfl | simp
theorem tick_img (s : Cs) : (tickS s).img = s.img := by unfold tickS; split <;> rfl
theorem tick_ram (s : Cs) : (tickS s).ram = s.ram := by unfold tickS; split <;> rfl
theorem load_img (s : Cs) (b : List Int) : (loadS s b).img = s.img := by unfold loadS; split <;> rfl
theorem load_rlen (s : Cs) (b : List Int) : (loadS s b).ram.length = s.ram.length := by
  unfold loadS
  split
  · rename_i h
    have hb : s.ram.length ≤ b.length := by
      unfold loadE at h
      split at h
      · omega
      split at h
      · omega
      · rename_i q1 q2
        have h1 : s.is = true := by cases hh : s.is <;> simp_all
        have h2 : s.h.bat = true := by cases hh : s.h.bat <;> simp_all
        have := save_len s ⟨h1, h2⟩
        omega
    show (b.take _).length = _
    rw [List.length_take]; omega
  · rfl
theorem new_img (z : List Int) : (newC z).img = z ∨ (newC z).img = [] := by
  unfold newC; split
  · exact .inl rfl
  · exact .inr rfl
end Go.Proofs.YtfmddnekooojkaaGreatDoor
