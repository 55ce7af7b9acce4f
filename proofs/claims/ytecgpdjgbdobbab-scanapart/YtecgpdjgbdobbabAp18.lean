/- Plain: what doesn't turn a line: bits that have no name, objects that don't stand on it. -/
import Derived.Test.YtecgpdjgbdobbabFr18
import Derived.Test.YtecgpdjgbdobbabLs18
namespace Go.Proofs.Ytecgpdjgbdobbab
open Go.RowKit
set_option linter.unusedVariables false
set_option linter.unusedSimpArgs false

/-- Alike in all that a line is drawn from, but for the objects' memory. -/
structure Alike (v v' : Vd) : Prop where
  b0 : bitOf v'.ctl 0 = bitOf v.ctl 0
  b1 : bitOf v'.ctl 1 = bitOf v.ctl 1
  b2 : bitOf v'.ctl 2 = bitOf v.ctl 2
  b3 : bitOf v'.ctl 3 = bitOf v.ctl 3
  b4 : bitOf v'.ctl 4 = bitOf v.ctl 4
  b5 : bitOf v'.ctl 5 = bitOf v.ctl 5
  b6 : bitOf v'.ctl 6 = bitOf v.ctl 6
  scy : v'.scy = v.scy
  scx : v'.scx = v.scx
  wy : v'.wy = v.wy
  wx : v'.wx = v.wx
  bgp : v'.bgp = v.bgp
  o0 : v'.o0 = v.o0
  o1 : v'.o1 = v.o1
  vz : v'.vz = v.vz
theorem alike_win {v v' : Vd} (h : Alike v v') (y : Int) : winP v' y = winP v y := by unfold winP; rw [h.b0, h.b5, h.wy, h.wx]
theorem alike_nx {v v' : Vd} (h : Alike v v') (y win : Int) : nxP v' y win = nxP v y win := by unfold nxP; rw [alike_win h]
theorem alike_cel {v v' : Vd} (h : Alike v v') (g : Bool) (a b : Int) : celP v' g a b = celP v g a b := by unfold celP; rw [h.vz, h.b4]
theorem alike_gro {v v' : Vd} (h : Alike v v') (x y win : Int) : groP v' x y win = groP v x y win := by
  unfold groP
  rw [h.b0, alike_win h, h.wx, h.b6, h.b3, h.scx, h.scy, alike_cel h, alike_cel h]
theorem alike_ox {v v' : Vd} (h : Alike v v') (o : Ob) (x y : Int) : oxP v' o x y = oxP v o x y := by unfold oxP oloP ohiP; rw [h.vz, h.b2]
theorem alike_seen {v v' : Vd} (h : Alike v v') (x y : Int) : ∀ L, seenP v' x y L = seenP v x y L
  | [] => rfl
  | o :: l => by
    show (if isP v' o x y then (o, oxP v' o x y) else seenP v' x y l) = (if isP v o x y then (o, oxP v o x y) else seenP v x y l)
    unfold isP
    rw [alike_ox h, alike_seen h x y l]
theorem alike_dot {v v' : Vd} (h : Alike v v') {y : Int} (ho : objsP v' y = objsP v y) (win : Int) : dotL v' y win = dotL v y win := by
  funext x
  unfold dotL
  rw [ho]
  unfold dotP palP
  rw [alike_seen h, alike_gro h, h.b0, h.bgp, h.o0, h.o1]
theorem objs_alike {v v' : Vd} (h : Alike v v') {y : Int} (hs : scanL v'.oz y (bitOf v.ctl 2) = scanL v.oz y (bitOf v.ctl 2)) : objsP v' y = objsP v y := by
  unfold objsP
  rw [h.b1, h.b2, hs]
theorem objs_none {v : Vd} (h : bitOf v.ctl 1 = false) (y : Int) : objsP v y = [] := by
  unfold objsP
  rw [h, if_neg (by simp)]
theorem xor128_bits : ∀ c : Fin 256, (0 ≤ bits .xor .u8 (c.val : Int) 128 ∧ bits .xor .u8 (c.val : Int) 128 ≤ 255) ∧ bitOf (bits .xor .u8 (c.val : Int) 128) 0 = bitOf (c.val : Int) 0 ∧ bitOf (bits .xor .u8 (c.val : Int) 128) 1 = bitOf (c.val : Int) 1 ∧ bitOf (bits .xor .u8 (c.val : Int) 128) 2 = bitOf (c.val : Int) 2 ∧ bitOf (bits .xor .u8 (c.val : Int) 128) 3 = bitOf (c.val : Int) 3 ∧ bitOf (bits .xor .u8 (c.val : Int) 128) 4 = bitOf (c.val : Int) 4 ∧ bitOf (bits .xor .u8 (c.val : Int) 128) 5 = bitOf (c.val : Int) 5 ∧ bitOf (bits .xor .u8 (c.val : Int) 128) 6 = bitOf (c.val : Int) 6 := by decide +kernel
theorem not2_bits : ∀ c : Fin 256, 0 ≤ bits .andNot .u8 (c.val : Int) 2 ∧ bits .andNot .u8 (c.val : Int) 2 ≤ 255 ∧ bitOf (bits .andNot .u8 (c.val : Int) 2) 1 = false := by decide +kernel
/-- The objects' memory as 160 bytes. -/
def oamL (z : List Int) : List Int := spl18 (List.replicate 160 0) 0 (z.take 160)
theorem oam_len (z : List Int) : (oamL z).length = 160 := by
  unfold oamL spl18
  simp only [List.length_append, List.length_take, List.length_drop, List.length_replicate]
  omega
theorem oam_in {z : List Int} (h : ∀ x ∈ z, InByte x) : ∀ x ∈ oamL z, InByte x := fun x hx => by
  unfold oamL spl18 at hx
  rcases List.mem_append.1 hx with q | q
  · rcases List.mem_append.1 q with q | q
    · exact zeros_in _ x (List.mem_of_mem_take q)
    · exact h x (List.mem_of_mem_take q)
  · exact zeros_in _ x (List.mem_of_mem_drop q)
theorem oam_at (z : List Int) {k : Nat} (hk : k < 160) : (oamL z).getD k 0 = z.getD k 0 := by
  unfold oamL spl18
  rw [List.take_zero, List.nil_append, List.getD_eq_getElem?_getD, List.getD_eq_getElem?_getD, List.getElem?_append, List.length_take]
  by_cases c : k < z.length
  · rw [if_pos (by omega), List.getElem?_take_of_lt (by omega)]
  · rw [if_neg (by omega), List.getElem?_drop, List.getElem?_replicate, List.getElem?_eq_none (by omega)]
    split <;> rfl
theorem byF_eq {z z' : List Int} {k : Nat} (h : z'.getD k 0 = z.getD k 0) : byF z' k = byF z k := Fin.ext (by show (z'.getD k 0).toNat % 256 = (z.getD k 0).toNat % 256; rw [h])
theorem objN_eq {z z' : List Int} {i : Nat} (h : ∀ j, j < 4 → z'.getD (4 * i + j) 0 = z.getD (4 * i + j) 0) : objN z' i = objN z i := by
  have h0 := h 0 (by decide)
  have h1 := h 1 (by decide)
  have h2 := h 2 (by decide)
  have h3 := h 3 (by decide)
  rw [Nat.add_zero] at h0
  unfold objN
  rw [byF_eq h0, byF_eq h1, byF_eq h2, byF_eq h3]
theorem scan_eq {z z' : List Int} {l : Int} {t : Bool} (h : ∀ i, i < 40 → onP (objN z' i) l t = onP (objN z i) l t ∧ (onP (objN z i) l t = true → objN z' i = objN z i)) : scanL z' l t = scanL z l t := by
  have q : ∀ j, j ≤ 40 → scanTo z' l t j = scanTo z l t j := by
    intro j
    induction j with
    | zero => intro _; rfl
    | succ j ih =>
      intro hj
      obtain ⟨e1, e2⟩ := h j (by omega)
      cases c : onP (objN z j) l t
      · rw [scan_no c, scan_no (by rw [e1]; exact c), ih (by omega)]
      · rw [scan_yes c, scan_yes (by rw [e1]; exact c), ih (by omega), e2 c]
  unfold scanL
  rw [q 40 (by omega)]
theorem oam_scan (z : List Int) (l : Int) (t : Bool) : scanL (oamL z) l t = scanL z l t :=
  scan_eq fun i hi => by
    have e : objN (oamL z) i = objN z i := objN_eq fun j hj => oam_at z (by omega)
    rw [e]
    exact ⟨rfl, fun _ => rfl⟩
theorem set_getD (l : List Int) (i : Nat) (a : Int) (j : Nat) : (l.set i a).getD j 0 = if i = j ∧ i < l.length then a else l.getD j 0 := by
  rw [List.getD_eq_getElem?_getD, List.getD_eq_getElem?_getD, List.getElem?_set]
  by_cases c : i = j
  · subst c
    rw [if_pos rfl]
    by_cases d : i < l.length
    · rw [if_pos d, if_pos ⟨rfl, d⟩]; rfl
    · rw [if_neg d, if_neg (by omega), List.getElem?_eq_none (by omega)]
  · rw [if_neg c, if_neg (by omega)]
def farL (l : List Int) (k : Nat) (to : Int) : List Int := (((l.set k 0).set (k + 1) to).set (k + 2) to).set (k + 3) to
theorem far_len (l : List Int) (k : Nat) (to : Int) : (farL l k to).length = l.length := by unfold farL; simp
theorem set_in {l : List Int} (h : ∀ x ∈ l, InByte x) {a : Int} (ha : InByte a) (k : Nat) : ∀ x ∈ l.set k a, InByte x := fun x hx => by
  rcases List.mem_or_eq_of_mem_set hx with q | q
  · exact h x q
  · rw [q]; exact ha
theorem far_in {l : List Int} (h : ∀ x ∈ l, InByte x) {to : Int} (ht : InByte to) (k : Nat) : ∀ x ∈ farL l k to, InByte x :=
  set_in (set_in (set_in (set_in h ⟨by decide, by decide⟩ _) ht _) ht _) ht _
theorem far_scan {l : List Int} (hl : l.length = 160) (hb : ∀ x ∈ l, InByte x) {q : Nat} (hq : q < 40) {y : Int} (y0 : 0 ≤ y) (to : Int) (t : Bool)
    (hf : l.getD (4 * q) 0 = 0 ∨ y + 16 < l.getD (4 * q) 0 ∨ l.getD (4 * q) 0 + 16 ≤ y + 16) : scanL (farL l (4 * q) to) y t = scanL l y t := by
  have rt : rowsI t ≤ 16 := by unfold rowsI; split <;> omega
  refine scan_eq fun i hi => ?_
  by_cases c : i = q
  · subst c
    have bl : onP (objN l i) y t = false := by
      rw [onP_no]
      have e : ((objN l i).1.val : Int) = l.getD (4 * i) 0 := byF_val hb (4 * i)
      rw [e]
      omega
    have bf : onP (objN (farL l (4 * i) to) i) y t = false := by
      rw [onP_no]
      have e : ((objN (farL l (4 * i) to) i).1.val : Int) = 0 := by
        have g : (farL l (4 * i) to).getD (4 * i) 0 = 0 := by
          unfold farL
          rw [set_getD, set_getD, set_getD, set_getD]
          simp only [List.length_set]
          rw [if_neg (by omega), if_neg (by omega), if_neg (by omega), if_pos ⟨trivial, by omega⟩]
        show ((((farL l (4 * i) to).getD (4 * i) 0).toNat % 256 : Nat) : Int) = 0
        rw [g]
        rfl
      rw [e]
      omega
    rw [bl, bf]
    exact ⟨rfl, fun h => by cases h⟩
  · have e : objN (farL l (4 * q) to) i = objN l i := objN_eq fun j hj => by
      unfold farL
      rw [set_getD, set_getD, set_getD, set_getD]
      rw [if_neg (by omega), if_neg (by omega), if_neg (by omega), if_neg (by omega)]
    rw [e]
    exact ⟨rfl, fun _ => rfl⟩
theorem set_back {l : List Int} {k : Nat} (h : k < l.length) : (l.set k 0).set k (l.getD k 0) = l := by
  rw [List.set_set, List.getD_eq_getElem?_getD, List.getElem?_eq_getElem h]
  exact List.set_getElem_self h
theorem vdV_eq (v : Vd) {vn on : Nat} (h1 : v.vz.length = vn) (h2 : v.oz.length = on) : vdV v = .agg #[.int .u8 v.ctl, .int .u8 v.scy, .int .u8 v.scx, .int .u8 v.wy, .int .u8 v.wx, .int .u8 v.bgp, .int .u8 v.o0, .int .u8 v.o1, .slice v.va vn v.vc, .slice v.oa on v.oc] := by unfold vdV; rw [h1, h2]
/-- Bytes ahead in a block of their own, with room behind. -/
abbrev BR (w : World) (b : Nat) (L : List Int) (rest : List Value) : Prop := Blk w b 5 (L.map (Value.int .u8) ++ rest)
theorem br_cell {w : World} {b : Nat} {L : List Int} {rest : List Value} (h : BR w b L rest) {i : Nat} (hi : i < L.length) : w.cell? ⟨b, i, none⟩ = some (.int .u8 (L.getD i 0)) := by
  rw [blk_cell h, List.getElem?_append_left (by rw [List.length_map]; exact hi), List.getElem?_map, List.getElem?_eq_getElem hi, List.getD_eq_getElem?_getD, List.getElem?_eq_getElem hi]
  rfl
theorem br_sl {w : World} {b cap : Nat} {L : List Int} {rest : List Value} (h : BR w b L rest) (hb : ∀ x ∈ L, InByte x) (h1 : L.length ≤ cap) (h2 : cap ≤ maxLen) : Sl w (some ⟨b, 0, none⟩) cap L :=
  ⟨⟨Nat.le_trans h1 h2, hb, .inr ⟨_, rfl, blk_lt h, fun i hi => by rw [ownB_add]; exact br_cell h hi⟩⟩, h1, h2, fun e => by cases e⟩
theorem br_set {L : List Int} {rest : List Value} {i : Nat} (x : Int) (hi : i < L.length) : (L.map (Value.int .u8) ++ rest).take i ++ [Value.int .u8 x] ++ (L.map (Value.int .u8) ++ rest).drop (i + 1) = (L.set i x).map (Value.int .u8) ++ rest := by
  have l1 : i < (L.map (Value.int .u8)).length := by rw [List.length_map]; exact hi
  rw [List.take_append_of_le_length (by omega), List.drop_append_of_le_length (by omega), ← List.append_assoc, set_at _ l1, List.map_set]
theorem own_br {w : World} {base : Nat} {v : Value} {L : List Int} (o : w.ownsRow base 5 1 v L.length (L.map (Value.int .u8))) (hl : 0 < L.length) : ∃ g cap rest, v = .slice (some ⟨g, 0, none⟩) L.length cap ∧ base ≤ g ∧ BR w g L rest ∧ L.length ≤ cap ∧ cap ≤ maxLen := by
  obtain ⟨_, ⟨h1, h2⟩ | ⟨g, cap, cur, h1, hg, hh, h3, h4, h5, h6⟩⟩ := id o
  · omega
  · refine ⟨g, cap, cur.toList.drop L.length, h1, hg, ?_, h3, h4⟩
    show w.heap[g]? = _
    rw [hh]
    have e : L.map (Value.int .u8) ++ cur.toList.drop L.length = cur.toList := by
      have q : cur.toList.take L.length = L.map (Value.int .u8) := by simpa using h6
      rw [← q, List.take_append_drop]
    rw [e]
/-- A copy of 160 bytes at most. -/
theorem copyA18 {w : World} {g oc : Nat} {oa : Option Addr} {z : List Int} (hh : BB w g (List.replicate 160 0)) (hs : Sl w oa oc z) :
    ∃ w2 n, (∀ ty, (Builtin.copy_ #[22, 22] ty #[.slice (some ⟨g, 0, none⟩) 160 160, .slice oa z.length oc]).run Try.prog w = .ok (.int .i64 n) w2) ∧ BB w2 g (oamL z) ∧ (∀ W, Kept W w → W.heap.size ≤ g → Kept W w2) ∧ (∀ b t cs, b ≠ g → Blk w b t cs → Blk w2 b t cs) := by
  cases oa with
  | none =>
    obtain rfl : oc = 0 := hs.nil rfl
    have z0 := hs.len
    obtain rfl : z = [] := List.eq_nil_of_length_eq_zero (by omega)
    exact ⟨w, 0, fun ty => run_copy_nil Try.prog w 22 22 ty 5 ⟨g, 0, none⟩ 160 160 Try.underlying22 (by kernel_rfl), hh, fun W k _ => k, fun b t cs _ h => h⟩
  | some x =>
    have e : (((List.replicate 160 (0 : Int)).map (Value.int .u8)).take 0 ++ (z.take 160).map (Value.int .u8) ++ ((List.replicate 160 (0 : Int)).map (Value.int .u8)).drop (0 + ((z.take 160).map (Value.int .u8)).length)) = (oamL z).map (Value.int .u8) := by
      unfold oamL spl18
      rw [List.length_map, List.map_append, List.map_append, ← List.map_take, ← List.map_drop]
    refine ⟨w.setRow g ((oamL z).map (Value.int .u8)).toArray, ((((z.take 160).map (Value.int .u8)).length : Nat) : Int), fun ty => ?_, ?_, fun W k hW => ?_, fun b t cs hne h => (setRow_other w g b _ hne).trans h⟩
    · have := run_copy_row Try.prog w 22 22 ty 5 g 0 160 160 x z.length oc _ 5 ((z.take 160).map (Value.int .u8)) Try.underlying22 (by kernel_rfl) hh (by rw [List.length_map, List.length_take]; exact Nat.min_comm _ _) (fun j v hv => row_news10 hs.row j v (by
        rw [List.getElem?_map, List.getElem?_take] at hv
        split at hv
        · rw [List.getElem?_map]; exact hv
        · cases hv)) (by rw [List.length_map, List.length_take, List.size_toArray, List.length_map, List.length_replicate]; omega) (fun v hv => by obtain ⟨q, _, rfl⟩ := List.mem_map.1 hv; rfl)
      rw [List.toList_toArray, e] at this
      exact this
    · exact setRow_heap w g _ _ _ _ hh
    · exact ⟨k.os, k.output, by simpa using k.size, fun i hi => (setRow_other w g i _ (by omega)).trans (k.block i hi)⟩
end Go.Proofs.Ytecgpdjgbdobbab
