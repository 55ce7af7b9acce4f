/- Bytes that are put behind bytes of the call's own; slices that come along. -/
import Derived.Test.YtecgpdjgbdobbabG10
import Derived.Test.YtecgpdjgbdobbabG12
import Derived.Test.YtecgpdjgbdobbabChecked
namespace Go.Proofs.Ytecgpdjgbdobbab
open Go.RowKit
set_option linter.unusedVariables false
set_option linter.unusedSimpArgs false

/-- A slice of bytes: where they lie, their room, and they. -/
structure Sl (w : World) (a : Option Addr) (cap : Nat) (z : List Int) : Prop where
  row : Row w a z
  len : z.length ≤ cap
  max : cap ≤ maxLen
  nil : a = none → cap = 0
theorem sl_kept {W w : World} (g : Kept W w) {a : Option Addr} {cap : Nat} {z : List Int} (h : Sl W a cap z) : Sl w a cap z := ⟨row_kept g h.row, h.len, h.max, h.nil⟩
theorem slX {F : Nat → Prop} {W w : World} (g : KeptX F W w) {a : Option Addr} {cap : Nat} {z : List Int} (h : Sl W a cap z) (ho : Off F a z) : Sl w a cap z := ⟨rowX g h.row ho, h.len, h.max, h.nil⟩
theorem sl_nil (w : World) : Sl w none 0 [] := ⟨⟨by simp, (fun z hz => by cases hz), .inl rfl⟩, by simp, by simp, fun _ => rfl⟩
/-- A slice that lies in new memory. -/
def Newer (n : Nat) (a : Option Addr) : Prop := ∀ x, a = some x → n ≤ x.block
theorem own_sl {w : World} {base : Nat} {v : Value} {L : List Int} (o : w.ownsRow base 5 1 v L.length (L.map (Value.int .u8))) (hb : ∀ x ∈ L, InByte x) :
    ∃ a cap, v = .slice a L.length cap ∧ Sl w a cap L ∧ Newer base a := by
  obtain ⟨_, ⟨h1, h2⟩ | ⟨g, cap, cur, h1, hg, hh, h3, h4, h5, h6⟩⟩ := id o
  · obtain rfl := List.eq_nil_of_length_eq_zero h2
    exact ⟨none, 0, h1, sl_nil w, fun x h => by cases h⟩
  · refine ⟨some ⟨g, 0, none⟩, cap, h1, ⟨⟨by omega, hb, .inr ⟨_, rfl, (Array.getElem?_eq_some_iff.1 hh).1, fun i hi => ?_⟩⟩, h3, h4, (fun h => by cases h)⟩, fun x h => by cases h; exact hg⟩
    refine o.cells (by rw [h1]; rfl) i _ ?_
    rw [List.getElem?_map, List.getD_eq_getElem?_getD, List.getElem?_eq_getElem hi]
    rfl
theorem row_news10 {w : World} {x : Addr} {c : List Int} (h : Row w (some x) c) : ∀ j u, (c.map (Value.int .u8))[j]? = some u → w.cell? (x.add j) = some u := by
  intro j u hu
  rw [List.getElem?_map] at hu
  rcases h.2.2 with h3 | ⟨y, e, hy, hc⟩
  · rw [h3] at hu; simp at hu
  · obtain rfl : x = y := Option.some.inj e
    by_cases hj : j < c.length
    · rw [hc j hj, ← hu, List.getD_eq_getElem?_getD, List.getElem?_eq_getElem hj]; rfl
    · rw [List.getElem?_eq_none (by omega)] at hu; cases hu
theorem info10_u8 : (Try.prog.info? 5).map (fun i => (i.zero, i.size, i.bytes)) = some (some (.int .u8 0), 1, 1) := by kernel_rfl
/-- append(s, x...), s the call's own, x whatever bytes. -/
theorem wl_append {w : World} {ops : Array Oper} {rest : List Oper} {o : Oper} {a : Act} {Q : Exit → Act → World → Prop} {s x : Operand} {base : Nat} {v : Value} {L : List Int} {ax : Option Addr} {cap lz : Nat} {z : List Int}
    (own : w.ownsRow base 5 1 v L.length (L.map (Value.int .u8))) (sl : Sl w ax cap z) (hgd : o.guard = none) (ho : o.op = .call { callee := .builtin .append, args := #[s, x], argTypes := #[22, 22] })
    (hs : a.eval s = v) (hx : a.eval x = .slice ax lz cap) (hlz : lz = z.length) (hb : base ≤ w.heap.size) (hm : L.length + z.length ≤ 140737488355328)
    (h : ∀ v' u, u.ownsRow base 5 1 v' (L ++ z).length ((L ++ z).map (Value.int .u8)) → w.grownBy u v.ownBlock → wpList Try.prog ops Q rest (a.put o.dst v') u) : wpList Try.prog ops Q (o :: rest) a w := by
  obtain ⟨i0, hi, hz0, hz1, hz2⟩ := info_parts info10_u8
  subst hlz
  cases ax with
  | none =>
    obtain rfl : cap = 0 := sl.nil rfl
    have z0 := sl.len
    obtain rfl : z = [] := List.eq_nil_of_length_eq_zero (by omega)
    refine wpList_append_own_none hgd s x 22 ho base 5 i0 1 Try.underlying22 hi v _ _ hs own hx ?_
    refine h v w (by rw [List.append_nil]; exact own) ⟨rfl, rfl, rfl, Nat.le_refl _, fun _ _ _ => rfl⟩
  | some y =>
    refine wpList_append_own _ hgd s x 22 ho base 5 i0 (.int .u8 0) 1 1 Try.underlying22 hi hz0 hz1 hz2 rfl (by decide) v _ _ hs own y z.length cap (z.map (Value.int .u8)) hx (by rw [List.length_map, Nat.mul_one]) (row_news10 sl.row) ?_ ?_ ?_ hb ?_
    · intro u hu; obtain ⟨q, _, rfl⟩ := List.mem_map.1 hu; rfl
    · unfold maxLen; omega
    · omega
    · intro v' u h1 h2 _
      refine h v' u ?_ h2
      rw [List.length_append, List.map_append]
      exact h1
theorem own_empty (w : World) {base : Nat} (hb : base ≤ w.heap.size) : (w.alloc (.cells #[] 5)).ownsRow base 5 1 (.slice (some ⟨w.heap.size, 0, none⟩) ([] : List Int).length 0) ([] : List Int).length (([] : List Int).map (Value.int .u8)) :=
  World.ownsRow_made w #[] 0 hb (by decide) rfl
theorem blk_by {w u : World} {row : Option Nat} (g : w.grownBy u row) {b : Nat} {t : TypeId} {cs : List Value} (h : Blk w b t cs) (hne : row ≠ some b) : Blk u b t cs := (g.block b (blk_lt h) (fun e => hne e.symm)).trans h
theorem own_slice {w : World} {base : Nat} {v : Value} {L : List Int} (o : w.ownsRow base 5 1 v L.length (L.map (Value.int .u8))) (hl : 0 < L.length) : ∃ g cap, v = .slice (some ⟨g, 0, none⟩) L.length cap ∧ base ≤ g := by
  rcases id o.2 with ⟨_, h⟩ | ⟨g, cap, cur, e1, e2, _⟩
  · omega
  · exact ⟨g, cap, e1, e2⟩
theorem ownB_frz {w : World} {base g cap : Nat} {L : List Int} (h : OwnB w base g cap L) (o : Nat) : w.frozen? ⟨g, o, none⟩ = false := by
  rcases id h.2 with ⟨h1, _⟩ | ⟨g', cap', cur, h1, _, hh, _⟩
  · cases h1
  · cases h1; exact frozen_of_row w g o cur _ hh
theorem sl_put {w u : World} {b : Nat} {t : TypeId} {cs : List Value} (p : Put w b t cs u) {a : Option Addr} {cap : Nat} {z : List Int} (h : Sl w a cap z) (hne : ∀ x, a = some x → x.block ≠ b) : Sl u a cap z := ⟨p.row _ _ h.row hne, h.len, h.max, h.nil⟩
theorem own_put {w u : World} {b : Nat} {t : TypeId} {cs : List Value} (p : Put w b t cs u) {base : Nat} {e : TypeId} {v : Value} {n : Nat} {xs : List Value} (o : w.ownsRow base e 1 v n xs) (hne : v.ownBlock ≠ some b) : u.ownsRow base e 1 v n xs := by
  obtain ⟨o1, o2⟩ := o
  refine ⟨o1, ?_⟩
  rcases o2 with o2 | ⟨g, cap, cur, rfl, e2, e3, e4⟩
  · exact .inl o2
  · refine .inr ⟨g, cap, cur, rfl, e2, ?_, e4⟩
    have hg : g < w.heap.size := (Array.getElem?_eq_some_iff.1 e3).1
    have := (p.keptX (fun k => k = b) w (KeptX.refl w) (.inl rfl)).block g hg (fun q => hne (by rw [q]; rfl))
    rw [this]; exact e3
end Go.Proofs.Ytecgpdjgbdobbab
