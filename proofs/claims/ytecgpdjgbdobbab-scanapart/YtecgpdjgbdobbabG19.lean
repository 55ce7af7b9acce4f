/- Plain numbers of layer 18: dots, lines, pictures; no program in sight. -/
import Derived.Test.YtecgpdjgbdobbabG15
import Derived.Test.YtecgpdjgbdobbabG00
import Derived.Test.YtecgpdjgbdobbabG02
import Derived.Test.YtecgpdjgbdobbabG13
namespace Go.Proofs.Ytecgpdjgbdobbab
open Go.RowKit
set_option linter.unusedVariables false
set_option linter.unusedSimpArgs false

/-- What a line is drawn from: eight registers; where the two memories lie, their room, and they. -/
structure Vd where
  ctl : Int
  scy : Int
  scx : Int
  wy : Int
  wx : Int
  bgp : Int
  o0 : Int
  o1 : Int
  va : Option Addr
  vc : Nat
  vz : List Int
  oa : Option Addr
  oc : Nat
  oz : List Int
def vd0 : Vd := ⟨0, 0, 0, 0, 0, 0, 0, 0, none, 0, [], none, 0, []⟩
def vdC (v : Vd) : List Value := [.int .u8 v.ctl, .int .u8 v.scy, .int .u8 v.scx, .int .u8 v.wy, .int .u8 v.wx, .int .u8 v.bgp, .int .u8 v.o0, .int .u8 v.o1, .slice v.va v.vz.length v.vc, .slice v.oa v.oz.length v.oc]
def vdV (v : Vd) : Value := .agg #[.int .u8 v.ctl, .int .u8 v.scy, .int .u8 v.scx, .int .u8 v.wy, .int .u8 v.wx, .int .u8 v.bgp, .int .u8 v.o0, .int .u8 v.o1, .slice v.va v.vz.length v.vc, .slice v.oa v.oz.length v.oc]
structure VdIn (w : World) (v : Vd) : Prop where
  c0 : 0 ≤ v.ctl
  c1 : v.ctl ≤ 255
  y0 : 0 ≤ v.scy
  y1 : v.scy ≤ 255
  x0 : 0 ≤ v.scx
  x1 : v.scx ≤ 255
  u0 : 0 ≤ v.wy
  u1 : v.wy ≤ 255
  t0 : 0 ≤ v.wx
  t1 : v.wx ≤ 255
  b0 : 0 ≤ v.bgp
  b1 : v.bgp ≤ 255
  p0 : 0 ≤ v.o0
  p1 : v.o0 ≤ 255
  q0 : 0 ≤ v.o1
  q1 : v.o1 ≤ 255
  vs : Sl w v.va v.vc v.vz
  os : Sl w v.oa v.oc v.oz
  ol : v.oz.length ≤ 140737488355328
theorem vdIn_kept {W w : World} (k : Kept W w) {v : Vd} (h : VdIn W v) : VdIn w v := { h with vs := sl_kept k h.vs, os := sl_kept k h.os }
theorem at_bd {z : List Int} (h : ∀ x ∈ z, InByte x) (i : Int) : 0 ≤ atP z i ∧ atP z i ≤ 255 := by
  by_cases c : 0 ≤ i ∧ i < (z.length : Int)
  · unfold atP
    rw [if_pos c]
    exact getD_in h _
  · rw [at_out z i c]; decide
theorem place_bd {t : Int} (h0 : 0 ≤ t) (h1 : t ≤ 255) (s : Bool) (r : Int) : 0 ≤ placeP t s r ∧ placeP t s r ≤ 10000 := by
  unfold placeP signedOf
  split
  · split <;> omega
  · omega
/-- The color of a cell's pixel. -/
def celP (v : Vd) (h : Bool) (a b : Int) : Int :=
  pixP (atP v.vz (placeP (atP v.vz (cellP h a b)) (!bitOf v.ctl 4) b)) (atP v.vz (placeP (atP v.vz (cellP h a b)) (!bitOf v.ctl 4) b + 1)) (a % 8)
def winP (v : Vd) (y : Int) : Bool := bitOf v.ctl 0 && bitOf v.ctl 5 && decide (v.wy ≤ y) && decide (v.wx ≤ 166)
/-- The ground's color. -/
def groP (v : Vd) (x y win : Int) : Int :=
  if bitOf v.ctl 0 then (if winP v y && decide (v.wx ≤ x + 7) then celP v (bitOf v.ctl 6) (x + 7 - v.wx) win else celP v (bitOf v.ctl 3) ((x + v.scx) % 256) ((y + v.scy) % 256)) else 0
/-- An object's color. -/
def oloP (v : Vd) (o : Ob) (y : Int) : Int := atP v.vz (placeP (tileR o y (bitOf v.ctl 2)) false (rowR o y (bitOf v.ctl 2)))
def ohiP (v : Vd) (o : Ob) (y : Int) : Int := atP v.vz (placeP (tileR o y (bitOf v.ctl 2)) false (rowR o y (bitOf v.ctl 2)) + 1)
def oxP (v : Vd) (o : Ob) (x y : Int) : Int := pixP (oloP v o y) (ohiP v o y) (colI o x)
def isP (v : Vd) (o : Ob) (x y : Int) : Bool := colOn o x && !(oxP v o x y == 0)
def ob0 : Ob := (0, 0, 0, 0, 0)
/-- Which object is seen at a place, and its color. -/
def seenP (v : Vd) (x y : Int) : List Ob → Ob × Int
  | [] => (ob0, 0)
  | o :: l => if isP v o x y then (o, oxP v o x y) else seenP v x y l
def palP (v : Vd) (o : Ob) : Int := if bitOf o.2.2.2.1.val 4 then v.o1 else v.o0
def dotP (v : Vd) (L : List Ob) (x y win : Int) : Int :=
  if (!((seenP v x y L).2 == 0)) && (!bitOf (seenP v x y L).1.2.2.2.1.val 7 || groP v x y win == 0) then shadeP (palP v (seenP v x y L).1) (seenP v x y L).2
  else if bitOf v.ctl 0 then shadeP v.bgp (groP v x y win) else 0
/-- Objects in their order: each behind those whose key is not greater. -/
def insK (out : List Ob) (x : Ob) : Nat := (out.takeWhile fun o => decide (key16 o ≤ key16 x)).length
def ordTo (L : List Ob) : Nat → List Ob
  | 0 => []
  | j + 1 => (ordTo L j).take (insK (ordTo L j) (L.getD j default)) ++ [L.getD j default] ++ (ordTo L j).drop (insK (ordTo L j) (L.getD j default))
def ordP (L : List Ob) : List Ob := ordTo L L.length
theorem insK_le (out : List Ob) (x : Ob) : insK out x ≤ out.length := by
  unfold insK
  exact (List.takeWhile_sublist _).length_le
theorem insK_lo (x : Ob) : ∀ (out : List Ob) (t : Nat) (ht : t < out.length), t < insK out x → key16 out[t] ≤ key16 x
  | [], t, ht, _ => by cases ht
  | o :: l, t, ht, h => by
    unfold insK at h
    rw [List.takeWhile_cons] at h
    by_cases c : key16 o ≤ key16 x
    · rw [if_pos (decide_eq_true c), List.length_cons] at h
      cases t with
      | zero => exact c
      | succ t => exact insK_lo x l t (by simpa using ht) (by unfold insK; omega)
    · rw [if_neg (by simpa using c)] at h
      cases h
theorem insK_at (x : Ob) : ∀ (out : List Ob) (h : insK out x < out.length), key16 x < key16 (out[insK out x]'h)
  | [], h => by cases h
  | o :: l, h => by
    by_cases c : key16 o ≤ key16 x
    · have e : insK (o :: l) x = insK l x + 1 := by
        unfold insK
        rw [List.takeWhile_cons, if_pos (decide_eq_true c), List.length_cons]
      have h2 : insK l x < l.length := by rw [e, List.length_cons] at h; omega
      have q := insK_at x l h2
      simp only [e, List.getElem_cons_succ]
      exact q
    · have e : insK (o :: l) x = 0 := by
        unfold insK
        rw [List.takeWhile_cons, if_neg (by simpa using c)]
        rfl
      simp only [e, List.getElem_cons_zero]
      omega
theorem take_one18 {L : List Ob} {j : Nat} (h : j < L.length) : L.take (j + 1) = L.take j ++ [L.getD j default] := by
  rw [List.take_add_one, List.getD_eq_getElem?_getD, List.getElem?_eq_getElem h]; rfl
theorem ordTo_stab (L : List Ob) : ∀ j, j ≤ L.length → Stab key16 (L.take j) (ordTo L j)
  | 0, _ => ⟨List.Pairwise.nil, fun _ => rfl⟩
  | j + 1, h => by
    have S := ordTo_stab L j (by omega)
    rw [take_one18 (by omega)]
    refine stab_ins S (insK_le _ _) (fun t ht hk => ?_) (fun t ht hk => insK_lo _ _ t ht hk)
    have q := insK_at (L.getD j default) (ordTo L j) (by omega)
    by_cases c : t = insK (ordTo L j) (L.getD j default)
    · subst c; exact q
    · have up := List.pairwise_iff_getElem.1 S.1 (insK (ordTo L j) (L.getD j default)) t (by omega) ht (by omega)
      omega
theorem ord_eq {L M : List Ob} (h : Stab key16 L M) : ordP L = M := by
  have s := ordTo_stab L L.length (Nat.le_refl _)
  rw [List.take_of_length_le (Nat.le_refl _)] at s
  exact stab_uniq s h
theorem stab_len18 {α : Type} [Inhabited α] [DecidableEq α] {key : α → Nat} {l m : List α} (h : Stab key l m) : m.length = l.length := (List.perm_iff_count.2 (fun x => stab_count h x)).length_eq
theorem ord_len18 (L : List Ob) : (ordP L).length = L.length := by
  have s := ordTo_stab L L.length (Nat.le_refl _)
  rw [List.take_of_length_le (Nat.le_refl _)] at s
  exact stab_len18 s
def objsP (v : Vd) (y : Int) : List Ob := if bitOf v.ctl 1 then ordP (scanL v.oz y (bitOf v.ctl 2)) else []
theorem objs_len18 (v : Vd) (y : Int) : (objsP v y).length ≤ 1000 := by
  unfold objsP
  split
  · rw [ord_len18]
    unfold scanL
    rw [List.length_take]; omega
  · simp
def dotL (v : Vd) (y win : Int) (x : Nat) : Int := dotP v (objsP v y) (x : Int) y win
def lineP (v : Vd) (y win : Int) : List Int := (List.range 160).map (dotL v y win)
def nxP (v : Vd) (y win : Int) : Int := if winP v y then (win + 1) % 256 else win
theorem line_len (v : Vd) (y win : Int) : (lineP v y win).length = 160 := by simp [lineP]
theorem dot_bd (v : Vd) (L : List Ob) (x y win : Int) : 0 ≤ dotP v L x y win ∧ dotP v L x y win ≤ 3 := by
  unfold dotP
  split
  · exact shade_bd _ _
  · split
    · exact shade_bd _ _
    · decide
theorem line_in (v : Vd) (y win : Int) : ∀ x ∈ lineP v y win, InByte x := by
  intro x hx
  obtain ⟨i, _, rfl⟩ := List.mem_map.1 hx
  have := dot_bd v (objsP v y) (i : Int) y win
  exact ⟨this.1, by show dotP _ _ _ _ _ ≤ 255; omega⟩
theorem nx_bd {v : Vd} {y win : Int} (h0 : 0 ≤ win) (h1 : win ≤ 255) : 0 ≤ nxP v y win ∧ nxP v y win ≤ 255 := by
  unfold nxP; split <;> omega
theorem cel_bd (v : Vd) (h : Bool) (a b : Int) : 0 ≤ celP v h a b ∧ celP v h a b ≤ 3 := pix_bd _ _ _
theorem gro_bd (v : Vd) (x y win : Int) : 0 ≤ groP v x y win ∧ groP v x y win ≤ 3 := by
  unfold groP
  split
  · split <;> exact cel_bd _ _ _ _
  · decide
theorem ox_bd (v : Vd) (o : Ob) (x y : Int) : 0 ≤ oxP v o x y ∧ oxP v o x y ≤ 3 := pix_bd _ _ _
theorem seen_bd (v : Vd) (x y : Int) : ∀ L, 0 ≤ (seenP v x y L).2 ∧ (seenP v x y L).2 ≤ 3
  | [] => ⟨Int.le_refl 0, show (0 : Int) ≤ 3 by decide⟩
  | o :: l => by
    show 0 ≤ (if _ then _ else _ : Ob × Int).2 ∧ (if _ then _ else _ : Ob × Int).2 ≤ 3
    split
    · exact ox_bd v o x y
    · exact seen_bd v x y l
theorem seen_yes {v : Vd} {x y : Int} {o : Ob} {l : List Ob} (h : isP v o x y = true) : seenP v x y (o :: l) = (o, oxP v o x y) := if_pos h
theorem seen_no {v : Vd} {x y : Int} {o : Ob} {l : List Ob} (h : isP v o x y = false) : seenP v x y (o :: l) = seenP v x y l := if_neg (by rw [h]; simp)
theorem drop_at {L : List Ob} {j : Nat} (h : j < L.length) : L.drop j = L.getD j default :: L.drop (j + 1) := by
  rw [List.drop_eq_getElem_cons h, List.getD_eq_getElem?_getD, List.getElem?_eq_getElem h]; rfl
theorem row_bd (o : Ob) (l : Int) (t : Bool) : 0 ≤ tileR o l t ∧ tileR o l t ≤ 255 := by
  have p := put0_fin o.2.2.1
  have q := o.2.2.1.isLt
  unfold tileR
  cases h : onP o l t
  · simp
  · have r := rI_in h
    cases t
    · simp; omega
    · rw [rows_t] at r
      simp only [if_true]
      omega
/-- An array of colors: the first j laid anew. -/
def colsL (g : Nat → Int) : List Value := (List.range 160).map fun x => .int .u8 (g x)
def midG (f g : Nat → Int) (j : Nat) : Nat → Int := fun x => if x < j then g x else f x
theorem cols_len (g : Nat → Int) : (colsL g).length = 160 := by simp [colsL]
theorem cols_at (g : Nat → Int) {i : Nat} (h : i < 160) : (colsL g)[i]? = some (.int .u8 (g i)) := by
  unfold colsL
  rw [List.getElem?_map, List.getElem?_range h]; rfl
theorem cols_ext {f g : Nat → Int} (h : ∀ i, i < 160 → f i = g i) : colsL f = colsL g := by
  unfold colsL
  exact List.map_congr_left fun i hi => by rw [h i (List.mem_range.1 hi)]
theorem mid_0 (f g : Nat → Int) : midG f g 0 = f := by funext x; simp [midG]
theorem mid_at (f g : Nat → Int) (j : Nat) : midG f g j j = f j := by simp [midG]
theorem mid_160 (f g : Nat → Int) : colsL (midG f g 160) = colsL g := cols_ext fun i hi => by simp [midG, hi]
theorem mid_next (f g : Nat → Int) (j : Nat) (h : j < 160) : (colsL (midG f g j)).take j ++ [Value.int .u8 (g j)] ++ (colsL (midG f g j)).drop (j + 1) = colsL (midG f g (j + 1)) := by
  apply List.ext_getElem?
  intro i
  have l1 : ((colsL (midG f g j)).take j).length = j := by rw [List.length_take, cols_len]; omega
  rw [List.append_assoc, List.getElem?_append, l1]
  by_cases c : i < j
  · rw [if_pos c, List.getElem?_take, if_pos c, cols_at _ (by omega), cols_at _ (by omega)]
    simp [midG, c, Nat.lt_succ_of_lt c]
  · rw [if_neg c]
    by_cases d : i = j
    · subst d
      rw [Nat.sub_self, cols_at _ h]
      simp [midG]
    · rw [show i - j = (i - j - 1) + 1 by omega]
      simp only [List.cons_append, List.nil_append, List.getElem?_cons_succ, List.getElem?_drop]
      rw [show j + 1 + (i - j - 1) = i by omega]
      by_cases q : i < 160
      · rw [cols_at _ q, cols_at _ q]
        simp [midG, c, show ¬ i < j + 1 by omega]
      · rw [List.getElem?_eq_none (by rw [cols_len]; omega), List.getElem?_eq_none (by rw [cols_len]; omega)]
theorem cols_line (v : Vd) (y win : Int) : colsL (dotL v y win) = (lineP v y win).map (Value.int .u8) := by
  unfold colsL lineP
  rw [List.map_map]; rfl
end Go.Proofs.Ytecgpdjgbdobbab
