/- All lines of bytes are assembled to them. Two instructions have one line where their bytes are the same, and there alone. -/
import Derived.Test.YtlchkflpaehgcabDoorCn
import Derived.Test.YtlchkflpaehgcabDoorCl
namespace Go.Proofs.YtlchkflpaehgcabDoor
open Go.RowKit
set_option linter.unusedVariables false
set_option linter.unusedSimpArgs false

theorem lines_back (n : Nat) : ∀ z : List Int, z.length ≤ n → (∀ y ∈ z, InByte y) → (linesOf z).flatMap asmB = z ∧ ∀ s ∈ linesOf z, asmE s = 0 := by
  induction n with
  | zero =>
    intro z hz _
    have : z = [] := List.length_eq_zero_iff.1 (by omega)
    subst this
    exact ⟨rfl, fun s hs => by cases hs⟩
  | succ n ih =>
    intro z hz hb
    by_cases h0 : z = []
    · subst h0; exact ⟨rfl, fun s hs => by cases hs⟩
    · have bd := oneN_bd z hb h0
      have a := asm_one z hb h0
      have i := ih (z.drop (oneN z).toNat) (by simp only [List.length_drop]; omega) (fun y hy => hb y (List.mem_of_mem_drop hy))
      rw [lines_step z hb h0]
      refine ⟨?_, fun s hs => ?_⟩
      · rw [List.flatMap_cons, i.1, a.1, List.take_append_drop]
      · rcases List.mem_cons.1 hs with rfl | hs
        · exact a.2
        · exact i.2 s hs
theorem toks_len : ∀ n : Fin 512, (toksN n.val).length ≤ 12 := by decide +kernel
theorem line_size (n : Nat) (lo hi : Int) (h : n < 512) : (lineN n lo hi).size ≤ 100 := by
  have a := rB_size lo hi (toksN n)
  have b := toks_len ⟨n, h⟩
  simp only at b
  unfold lineN
  omega
theorem one_size (z : List Int) (hb : ∀ y ∈ z, InByte y) : (oneS z).size ≤ 100 := by
  cases z with
  | nil => exact (by decide : (0 : Nat) ≤ 100)
  | cons b l =>
    have h := hb b (by simp)
    obtain ⟨n, rfl⟩ := Int.eq_ofNat_of_zero_le h.1
    have hn : n < 256 := by have := h.2; omega
    have d : (dbS (n : Int)).size ≤ 100 := (by decide : (6 : Nat) ≤ 100)
    have f : ∀ lo hi, (lineOf (n : Int) false lo hi).size ≤ 100 := fun lo hi => by rw [line_false n lo hi hn]; exact line_size n lo hi (by omega)
    simp only [oneS]
    split
    · cases l with
      | nil => exact d
      | cons c l =>
        have hc := hb c (by simp)
        obtain ⟨m, rfl⟩ := Int.eq_ofNat_of_zero_le hc.1
        show (lineOf (m : Int) true 0 0).size ≤ 100
        rw [line_true m 0 0]; exact line_size (256 + m) 0 0 (by have := hc.2; omega)
    · split
      · exact d
      · split
        · exact f _ _
        · split
          · exact f _ _
          · exact f _ _
theorem lines_size (n : Nat) : ∀ z : List Int, z.length ≤ n → (∀ y ∈ z, InByte y) → ∀ s ∈ linesOf z, s.size ≤ 100 := by
  induction n with
  | zero =>
    intro z hz _
    have : z = [] := List.length_eq_zero_iff.1 (by omega)
    subst this
    exact fun s hs => by cases hs
  | succ n ih =>
    intro z hz hb
    by_cases h0 : z = []
    · subst h0; exact fun s hs => by cases hs
    · have bd := oneN_bd z hb h0
      have i := ih (z.drop (oneN z).toNat) (by simp only [List.length_drop]; omega) (fun y hy => hb y (List.mem_of_mem_drop hy))
      rw [lines_step z hb h0]
      intro s hs
      rcases List.mem_cons.1 hs with rfl | hs
      · exact one_size z hb
      · exact i s hs
theorem out_all (L : List ByteArray) (k : Nat) : outTo L k ++ (L.drop k).flatMap asmB = L.flatMap asmB := by
  unfold outTo
  rw [← List.flatMap_append, List.take_append_drop]
theorem out_at (L : List ByteArray) (z : List Int) (k : Nat) (hk : k < L.length) (h : L.flatMap asmB = z) : z.drop (outTo L k).length = asmB (L.getD k ByteArray.empty) ++ (L.drop (k + 1)).flatMap asmB := by
  rw [← h, ← out_all L k, List.drop_left, List.drop_eq_getElem_cons hk, List.flatMap_cons, getD_get L k hk]
theorem srow_own {w : World} {base : Nat} {v : Value} {L : List ByteArray} (o : w.ownsRow base 9 1 v L.length (L.map Value.string)) (hs : ∀ s ∈ L, s.size ≤ 100) : ∃ a cap, v = .slice a L.length cap ∧ SRow w a L := by
  rcases id o.2 with ⟨rfl, h⟩ | ⟨g, cap, cur, rfl, hb, hg, _⟩
  · have : L = [] := List.length_eq_zero_iff.1 h
    subst this
    exact ⟨none, 0, rfl, ⟨(fun s hs => by cases hs), .inl rfl⟩⟩
  · refine ⟨some ⟨g, 0, none⟩, cap, rfl, ⟨(fun s q => by have := hs s q; omega), ?_⟩⟩
    by_cases h0 : L = []
    · exact .inl h0
    · have hg2 : g < w.heap.size := by
        rcases Nat.lt_or_ge g w.heap.size with q | q
        · exact q
        · rw [Array.getElem?_eq_none q] at hg; cases hg
      refine .inr ⟨_, rfl, hg2, fun i hi => o.cells rfl i _ ?_⟩
      rw [getD_get L i hi]
      simp [List.getElem?_eq_getElem hi]
theorem conv_any {w : World} {a : Option Addr} {zs : List Int} {cap : Nat} (r : Row w a zs) : (convert 22 9 (.slice a zs.length cap)).run Tryd.prog w = .ok (.string (strOf zs)) w := by
  by_cases h0 : zs = []
  · subst h0
    cases a with
    | none =>
      rw [run_convert_bytes_string w 22 9 5 _ _ _ Tryd.underlying22 Tryd.underlying5 Tryd.underlying9]
      rfl
    | some x => exact conv_cells w x cap [] (fun j u hu => by simp at hu)
  · rcases r.2.2 with h | ⟨x, rfl, hx, hc⟩
    · exact absurd h h0
    · rcases conv_row (cap := cap) r (fun h => by cases h) with q | q
      · exact q
      · exact absurd q h0
theorem conv_part {w : World} {x : Addr} {z ns rest : List Int} {k cap : Nat} (r : Row w (some x) z) (hk : k ≤ z.length) (h : z.drop k = ns ++ rest) (h1 : 1 ≤ ns.length) : (convert 22 9 (.slice (some (x.add k)) ns.length cap)).run Tryd.prog w = .ok (.string (strOf ns)) w := by
  have rd := row_drop k r hk
  rw [h] at rd
  rcases rd.2.2 with e | ⟨y, e, hy, hc⟩
  · rw [List.append_eq_nil_iff] at e
    rw [e.1] at h1
    simp at h1
  · obtain rfl := Option.some.inj e
    refine conv_cells w (x.add k) cap ns fun j u hu => ?_
    have hj : j < ns.length := by
      rcases Nat.lt_or_ge j ns.length with q | q
      · exact q
      · rw [List.getElem?_eq_none (by simpa using q)] at hu; cases hu
    rw [hc j (by simp; omega)]
    simp [List.getElem?_eq_getElem hj] at hu
    rw [← hu, List.getD_eq_getElem?_getD, List.getElem?_append_left hj, List.getElem?_eq_getElem hj]
    rfl
end Go.Proofs.YtlchkflpaehgcabDoor
namespace Go.Proofs.YtlchkflpaehgcabDoor
open Go.RowKit
set_option linter.unusedVariables false
set_option linter.unusedSimpArgs false

theorem one_take (z : List Int) (hb : ∀ y ∈ z, InByte y) : oneS (z.take (oneN z).toNat) = oneS z := by
  cases z with
  | nil => rfl
  | cons b l =>
    have h := hb b (by simp)
    simp only [oneN]
    by_cases h6 : (decOf b).kind = 6
    · rw [if_pos h6]
      cases l with
      | nil => rfl
      | cons c l =>
        show oneS [b, c] = oneS (b :: c :: l)
        simp only [oneS]
        rw [if_pos h6, if_pos h6]
    · rw [if_neg h6]
      by_cases hl : (l.length : Int) + 1 < (decOf b).bytes
      · rw [if_pos hl]
        show oneS [b] = oneS (b :: l)
        simp only [oneS]
        rw [if_neg h6, if_neg h6, if_pos hl, if_pos (by simp; omega)]
      · rw [if_neg hl]
        rcases bytes_of b h.1 h.2 with bo | bo | bo
        · rw [bo]
          show oneS [b] = oneS (b :: l)
          simp only [oneS]
          rw [if_neg h6, if_neg h6, if_neg hl, bo, if_neg (by simp), if_neg (by decide), if_neg (by decide), if_neg (by decide), if_neg (by decide)]
        · rw [bo] at hl ⊢
          cases l with
          | nil => simp at hl
          | cons c l =>
            show oneS [b, c] = oneS (b :: c :: l)
            simp only [oneS]
            rw [if_neg h6, if_neg h6, bo, if_neg (by simp), if_neg hl, if_pos rfl, if_pos rfl]
            rfl
        · rw [bo] at hl ⊢
          cases l with
          | nil => simp at hl
          | cons c l =>
            cases l with
            | nil => simp at hl
            | cons d l =>
              show oneS [b, c, d] = oneS (b :: c :: d :: l)
              simp only [oneS]
              rw [if_neg h6, if_neg h6, bo, if_neg (by simp), if_neg hl, if_neg (by decide), if_pos rfl, if_neg (by decide), if_pos rfl]
              rfl
theorem one_nil (z : List Int) (hb : ∀ y ∈ z, InByte y) (h : oneS z = oneS []) : z = [] := by
  by_cases h0 : z = []
  · exact h0
  · have a := (asm_one z hb h0).1
    have b := oneN_bd z hb h0
    rw [h] at a
    have e : (asmB (oneS [])).length = 0 := by decide +kernel
    rw [a, List.length_take] at e
    cases z with
    | nil => exact absurd rfl h0
    | cons y l => simp only [List.length_cons] at e b; omega
theorem apart_iff (a b : List Int) (ha : ∀ y ∈ a, InByte y) (hb : ∀ y ∈ b, InByte y) : oneS a = oneS b ↔ a.take (oneN a).toNat = b.take (oneN b).toNat := by
  constructor
  · intro e
    by_cases a0 : a = []
    · subst a0
      rw [one_nil b hb e.symm]
    · by_cases b0 : b = []
      · subst b0
        rw [one_nil a ha e]
      · rw [← (asm_one a ha a0).1, ← (asm_one b hb b0).1, e]
  · intro e
    rw [← one_take a ha, ← one_take b hb, e]
end Go.Proofs.YtlchkflpaehgcabDoor
