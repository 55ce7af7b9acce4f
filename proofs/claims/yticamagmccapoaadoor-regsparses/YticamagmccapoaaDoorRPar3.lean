/- What Parse of the document's answers of layer 4 comes to, at any text, in the words of the program's own. -/
import Derived.Test.YticamagmccapoaaDoorRPar2
namespace Go.Proofs.YticamagmccapoaaDoor
open Go.RowKit
set_option linter.unusedVariables false
set_option linter.unusedSimpArgs false

theorem rparse_short (s : ByteArray) (w : World) (hs : ¬ s.size = 47) (hm : s.size ≤ maxLen) : Calls Tryd.prog 7 #[.string s] w fun e w' => e = .returned (.tuple #[.agg #[.int .u8 0, .int .u8 0, .int .u8 0, .int .u8 0, .int .u8 0, .int .u8 0, .int .u8 0, .int .u8 0, .int .u16 0, .int .u16 0], .int .i64 6]) ∧ Grown w w' := by
  have h2 : ((s.size : Int) != 47) = true := by simp; omega
  go_enter Tryd.func7, Tryd.ntmps7
  go_wp2
  exact bodyPost_ret (v := .tuple #[.agg #[.int .u8 0, .int .u8 0, .int .u8 0, .int .u8 0, .int .u8 0, .int .u8 0, .int .u8 0, .int .u8 0, .int .u16 0, .int .u16 0], .int .i64 6]) (by simp [results, Tryd.results7, go_sem]) rfl ⟨rfl, (alloc1 w _ _).alloc _ _⟩
theorem rparse_full (s : ByteArray) (w : World) (hm : s.size ≤ maxLen) : Calls Tryd.prog 7 #[.string s] w fun e w' => e = .returned (.tuple #[.agg #[.int .u8 (parseR s).a, .int .u8 (parseR s).f, .int .u8 (parseR s).b, .int .u8 (parseR s).c, .int .u8 (parseR s).d, .int .u8 (parseR s).e, .int .u8 (parseR s).h, .int .u8 (parseR s).l, .int .u16 (parseR s).s, .int .u16 (parseR s).p], .int .i64 (parseE s)]) ∧ Grown w w' := by
  by_cases hs : s.size = 47
  · refine (rparse_any s w hs).mono ?_
    rintro e w' ⟨(⟨g, rfl⟩ | ⟨g, rfl⟩), G⟩
    · have c : s.size = 47 ∧ s = textOf (endR s) := ⟨hs, (text_iff s hs).2 g⟩
      have e1 : parseR s = endR s := by unfold parseR; rw [if_pos c]
      have e2 : parseE s = 0 := by unfold parseE; rw [if_pos c]
      rw [e1, e2]
      exact ⟨rfl, G⟩
    · have c : ¬ (s.size = 47 ∧ s = textOf (endR s)) := fun h => g ((text_iff s hs).1 h.2)
      have e1 : parseR s = zeroR := by unfold parseR; rw [if_neg c]
      have e2 : parseE s = 6 := by unfold parseE; rw [if_neg c]
      rw [e1, e2]
      exact ⟨rfl, G⟩
  · refine (rparse_short s w hs hm).mono ?_
    rintro e w' ⟨rfl, G⟩
    have c : ¬ (s.size = 47 ∧ s = textOf (endR s)) := fun h => hs h.1
    have e1 : parseR s = zeroR := by unfold parseR; rw [if_neg c]
    have e2 : parseE s = 6 := by unfold parseE; rw [if_neg c]
    rw [e1, e2]
    exact ⟨rfl, G⟩
end Go.Proofs.YticamagmccapoaaDoor
