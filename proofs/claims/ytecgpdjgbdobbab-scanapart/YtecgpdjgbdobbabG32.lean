/- Shades as a text: the program's and the document's. Rows of bytes in a block of their own; the memory of the examples. The examples at the head of layer 18's laws. Pictures: the program's and the document's. Layer 18's laws of windows, lines, texts and shades. Plain: what doesn't turn a line: bits that have no name, objects that don't stand on it. -/
import Derived.Test.YtecgpdjgbdobbabG01
import Derived.Test.YtecgpdjgbdobbabG31
import Derived.Test.YtecgpdjgbdobbabG11
import Derived.Laws.CopyOwn
namespace Go.Proofs.Ytecgpdjgbdobbab
open Go.RowKit Go.Shelf
set_option linter.unusedVariables false
set_option linter.unusedSimpArgs false

theorem conv_own18 {w : World} {base : Nat} {v : Value} {L : List Int} (o : w.ownsRow base 5 1 v L.length (L.map (Value.int .u8))) : (convert 22 9 v).run Try.prog w = .ok (.string (strB L)) w := by
  rcases id o.2 with ⟨e, hl⟩ | ⟨g, cap, cur, e1, _⟩
  · obtain rfl := List.eq_nil_of_length_eq_zero hl
    rw [e]
    kernel_rfl
  · rw [e1]
    refine conv_cells w ⟨g, 0, none⟩ cap L (fun j u hu => ?_)
    exact o.cells (by rw [e1]; rfl) j u hu
def digI (s : Int) : Int := 48 + s % 4
def digL (z : List Int) : List Int := z.map digI
theorem dig_in (z : List Int) : ∀ x ∈ digL z, InByte x := by
  intro x hx
  obtain ⟨i, _, rfl⟩ := List.mem_map.1 hx
  unfold digI
  exact ⟨by show 0 ≤ 48 + i % 4; omega, by show 48 + i % 4 ≤ 255; omega⟩
theorem dig_next (z : List Int) {j : Nat} (h : j < z.length) : digL (z.take (j + 1)) = digL (z.take j) ++ [digI (z.getD j 0)] := by
  unfold digL
  rw [List.take_add_one, List.map_append, List.getD_eq_getElem?_getD, List.getElem?_eq_getElem h]
  rfl
theorem cells18 {z : List Int} (h : ∀ x ∈ z, InByte x) : z.map (Value.int .u8) = Lib.byteCells (z.map (fun n => UInt8.ofNat n.toNat)) := by
  unfold Lib.byteCells
  rw [List.map_map]
  refine List.map_congr_left fun x hx => ?_
  obtain ⟨a, b⟩ := h x hx
  have e : ((UInt8.ofNat x.toNat).toNat : Int) = x := by
    rw [UInt8.toNat_ofNat']
    omega
  show Value.int .u8 x = Value.int .u8 ((UInt8.ofNat x.toNat).toNat : Int)
  rw [e]
theorem Kept.under {W w u : World} (k : Kept W w) (h : Below W.heap.size w u) : Kept W u := ⟨h.os.trans k.os, h.output.trans k.output, Nat.le_trans k.size h.size, fun i hi => (h.block i hi).trans (k.block i hi)⟩
theorem to_raw18 {P : Program} (w : World) {src dst t e : TypeId} {j : TypeInfo} {cells : Nat} (a : Addr) (hs : P.underlying src = some (.pointer t)) (hd : P.underlying dst = some .unsafePointer) (ht : P.info? t = some j) (hj : j.size ≠ 0)
    (hsh : w.shape? a.block = some (e, cells)) (hoff : a.off < cells) : (convert src dst (.pointer (some a))).run P w = .ok (.pointer (some a)) w := by
  simp [convert, run_underlying hs, run_underlying hd, Conv.unsafePointer, Conv.seenAt, viewAt, cellsIn, hsh, sizeOf, typeInfo, ht, hj]
  omega
theorem from_raw18 {P : Program} (w : World) {src dst u e : TypeId} {j : TypeInfo} {cells : Nat} (a : Addr) (hs : P.underlying src = some .unsafePointer) (hd : P.underlying dst = some (.pointer u)) (hu : P.info? u = some j)
    (hsh : w.shape? a.block = some (e, cells)) (hlies : liesAt P P.depth e (cells / P.cellsOf e) a.off u 1 = true) : (convert src dst (.pointer (some a))).run P w = .ok (.pointer (some a)) w := by
  simp [convert, run_underlying hs, run_underlying hd, Conv.unsafePointer, Conv.seenAt, viewAt, hsh, variablesAt, hlies, sizeOf, typeInfo, hu]
set_option maxRecDepth 100000 in
set_option maxHeartbeats 4000000 in
theorem pchk18u (b : Nat) (w : World) (h0 : w.cell? ⟨b, 0, none⟩ = some (.pointer (some ⟨b, 0, none⟩))) :
    Calls Try.prog 25 #[.pointer (some ⟨b, 0, none⟩)] w fun e w' => e = .returned (.tuple #[]) ∧ w' = w := by
  have hs : (Try.prog.info? 41).map (·.size) = some 2 := by kernel_rfl
  obtain ⟨j, hj, hjs⟩ := Option.map_eq_some_iff.1 hs
  have NE : ∀ u : World, (binOp .neq 39 (.pointer (some ⟨b, 0, none⟩)) (.pointer (some ⟨b, 0, none⟩))).run Try.prog u = .ok (.bool false) u := fun u => Lib.run_neq_ptr_same u ⟨b, 0, none⟩ Try.underlying39 hj
  clear hj hjs hs
  go_enter Try.func25, Try.ntmps25
  go_wp2
  go_end0
  exact ⟨rfl, rfl⟩
set_option maxRecDepth 100000 in
set_option maxHeartbeats 4000000 in
theorem pchk18f (b : Nat) (w : World) (h0 : w.cell? ⟨b, 0, none⟩ = some (.pointer none)) (hsh : w.shape? b = some (41, 2)) (hfz : w.frozen? ⟨b, 0, none⟩ = false) :
    Calls Try.prog 25 #[.pointer (some ⟨b, 0, none⟩)] w fun e w' => e = .returned (.tuple #[]) ∧ w' = w.setCell ⟨b, 0, none⟩ (.pointer (some ⟨b, 0, none⟩)) := by
  have hs : (Try.prog.info? 41).map (·.size) = some 2 := by kernel_rfl
  have hl : liesAt Try.prog Try.prog.depth 41 (2 / Try.prog.cellsOf 41) 0 41 1 = true := by kernel_rfl
  obtain ⟨j, hj, hjs⟩ := Option.map_eq_some_iff.1 hs
  have TU : (convert 39 72 (.pointer (some ⟨b, 0, none⟩))).run Try.prog w = .ok (.pointer (some ⟨b, 0, none⟩)) w := to_raw18 w ⟨b, 0, none⟩ Try.underlying39 Try.underlying72 hj (by rw [hjs]; decide) hsh (Nat.zero_lt_succ 1)
  have FU : (convert 72 39 (.pointer (some ⟨b, 0, none⟩))).run Try.prog w = .ok (.pointer (some ⟨b, 0, none⟩)) w := from_raw18 w ⟨b, 0, none⟩ Try.underlying72 Try.underlying39 hj hsh hl
  have NU : (callFunc 34 #[.pointer (some ⟨b, 0, none⟩)]).run Try.prog w = .ok (.value (.pointer (some ⟨b, 0, none⟩))) w := by
    rw [run_callFunc_extern Try.func34 (by kernel_rfl) (by kernel_rfl) (by kernel_rfl) (e := Extern.AbiNoEscape.same) (by kernel_rfl), Lib.run_noEscape]
    rfl
  clear hj hjs hs hl
  go_enter Try.func25, Try.ntmps25
  go_wp2
  go_end0
  exact ⟨rfl, rfl⟩
theorem pchk18 (B b : Nat) (bs : List Value) (W w : World) (h : Lib.IsBuilder 41 5 B b bs w) (k : Kept W w) (hB : W.heap.size = B) :
    Calls Try.prog 25 #[.pointer (some ⟨b, 0, none⟩)] w fun e w' => e = .returned (.tuple #[]) ∧ Lib.BuilderAt 41 5 B b (.pointer (some ⟨b, 0, none⟩)) bs w' ∧ Kept W w' := by
  rcases h with h | h
  · refine (pchk18f b w h.cell0 h.shape h.frozen0).mono ?_
    rintro e w' ⟨rfl, rfl⟩
    exact ⟨rfl, h.used _, k.setCell8 (by rw [hB]; exact h.1) _ _⟩
  · refine (pchk18u b w h.cell0).mono ?_
    rintro e w' ⟨rfl, rfl⟩
    exact ⟨rfl, h, k⟩
set_option maxRecDepth 100000 in
set_option maxHeartbeats 4000000 in
theorem pwb18 (B b : Nat) (PL : List Int) (c : Int) (W w : World) (h : Lib.IsBuilder 41 5 B b (PL.map (Value.int .u8)) w) (hP : ∀ x ∈ PL, InByte x) (hc : InByte c) (hl : PL.length + 1 ≤ 140737488355328) (k : Kept W w) (hB : W.heap.size = B) :
    Calls Try.prog 14 #[.pointer (some ⟨b, 0, none⟩), .int .u8 c] w fun e w' => e = .returned .nilIface ∧ Lib.BuilderAt 41 5 B b (.pointer (some ⟨b, 0, none⟩)) ((PL ++ [c]).map (Value.int .u8)) w' ∧ Kept W w' := by
  have CK := hid (pchk18 B b _ W w h k hB)
  clear h k
  go_enter Try.func14, Try.ntmps14
  go_wp2_with fail
  refine CK.out.mono ?_
  rintro e w1 ⟨rfl, h1, k1⟩
  obtain ⟨hBb, v, hbk, hown, hne⟩ := h1
  rw [List.length_map] at hown
  have K1 := hid k1
  have O1 := hid hown
  have d1 : w1.cell? ⟨b, 1, none⟩ = some v := by rw [Lib.cell_of_heap hbk]; rfl
  have HK := hid hbk
  have HE := hid hne
  have hb2 : ∀ q, B ≤ (w1.alloc q).heap.size := fun q => by rw [World.size_alloc]; have := K1.out.size; omega
  have lt1 : b < w1.heap.size := (Array.getElem?_eq_some_iff.1 hbk).1
  clear k1 hown hbk hne CK
  go_wp2_with (at_builtin; (refine wl_append (L := PL) (owns_kept ((Kept.refl _).alloc _) O1.out) (sl_one18 w1 c hc) rfl rfl rfl rfl rfl (hb2 _) (by simp only [List.length_cons, List.length_nil]; omega) (fun v' u7 o7 g7 => ?_); have K7 := hid ((K1.out.alloc _).by g7 (fun q hq => by rw [hB]; exact (O1.out.lt q hq).1)); have B7 : u7.heap[b]? = some (.cells #[.pointer (some ⟨b, 0, none⟩), v] 41 (0, 0)) := (by rw [g7.block b (by rw [World.size_alloc]; omega) (fun e => HE.out e.symm), Lib.alloc_old w1 _ b lt1]; exact HK.out); have O7 := hid o7; have c7 : u7.cell? ⟨b, 1, none⟩ = some v := (by rw [Lib.cell_of_heap B7]; rfl); have f7 : u7.frozen? ⟨b, 1, none⟩ = false := Lib.frozen_of_heap B7 1; have H7 := hid B7; clear g7 o7 B7; refine Hid.out ?_))
  refine hid ?_
  obtain ⟨a7, p7, e7, o8⟩ := own_form18 O7.out (fun x hx => by rcases List.mem_append.1 hx with q | q; exact hP x q; rw [List.mem_singleton.1 q]; exact hc)
  subst e7
  clear o8
  go_wp2
  go_ret
  refine ⟨rfl, ?_, K7.out.setCell8 (by rw [hB]; exact hBb) _ _⟩
  exact Lib.BuilderAt.put hBb H7.out (by rw [List.length_map]; have q := O7.out; have e : (PL ++ [c]).length = PL.length + 1 := (by simp); rw [e] at q ⊢; exact q) (by decide)
set_option maxRecDepth 100000 in
set_option maxHeartbeats 4000000 in
theorem ptext18 (a : Option Addr) (cap : Nat) (z : List Int) (w : World) (hr : Row w a z) (hl : z.length ≤ 140737488355328) :
    Calls Try.prog 7 #[.slice a z.length cap] w fun e w' => e = .returned (.string (strB (digL z))) ∧ Kept w w' := by
  have FG := hid (fun q => row_get hr q)
  have HB := hid hr.2.1
  obtain ⟨n, hn⟩ : ∃ n, z.length = n := ⟨_, rfl⟩
  have HN := hid hn
  rw [hn] at hl FG ⊢
  have I0 : Hid (Lib.IsBuilder 41 5 w.heap.size w.heap.size ((digL (z.take 0)).map (Value.int .u8)) (w.alloc (.cells #[.pointer none, .slice none 0 0] 41))) := Lib.fresh_isBuilder 41 5 w
  clear hr hn
  go_enter Try.func7, Try.ntmps7
  go_wp2_with fail
  go_loopw [8] (fun s8 wr => ∃ j : Nat, j ≤ n ∧ s8 = .int .i64 (j : Int) ∧ Hid (Lib.IsBuilder 41 5 w.heap.size w.heap.size ((digL (z.take j)).map (Value.int .u8)) wr) ∧ Kept w wr) (fun s8 _ => n - (intOf s8).toNat)
  case atStart => exact ⟨0, Nat.zero_le _, rfl, I0, (Kept.refl w).alloc _⟩
  case round =>
    obtain ⟨j, hj, rfl, II, hk⟩ := hrel
    have KK := hid hk
    by_cases hlt : j < n
    · have g1 : decide ((j : Int) < (n : Int)) = true := decide_eq_true (by omega)
      have g3 : (j : Int) < (n : Int) := by omega
      obtain ⟨x, rfl, hx, hc⟩ := FG.out (by omega)
      have d0 := (hk.cell (x := x.add j) (by rw [addB]; exact hx)).trans (hc j hlt).1
      have vb := getD_in HB.out j
      have NX := hid (dig_next z (j := j) (by rw [HN.out]; exact hlt))
      have LJ : (digL (z.take j)).length = j := by unfold digL; rw [List.length_map, List.length_take, HN.out]; omega
      have PB0 : Hid (∀ x ∈ digL (z.take j), InByte x) := dig_in _
      obtain ⟨PL, hPL⟩ : ∃ l, digL (z.take j) = l := ⟨_, rfl⟩
      rw [hPL] at NX II LJ PB0
      unfold digI at NX
      obtain ⟨s, hs⟩ : ∃ s, z.getD j 0 = s := ⟨_, rfl⟩
      rw [hs] at d0 vb NX
      obtain ⟨v0, v1⟩ := vb
      have a3 := and3_17 s v0 v1
      have e1 : IntKind.u8.wrap (48 + s % 4) = 48 + s % 4 := by rw [IntKind.wrap_u8]; omega
      have e2 : IntKind.i64.wrap ((j : Int) + 1) = (j : Int) + 1 := by rw [IntKind.wrap_i64]; omega
      have WB := hid (pwb18 w.heap.size w.heap.size PL (48 + s % 4) w wr II.out PB0.out ⟨by omega, by omega⟩ (by omega) hk rfl)
      clear hPL hs LJ hc hk
      go_wp2_with fail
      refine WB.out.mono ?_
      rintro e u1 ⟨rfl, i1, b1⟩
      have K1 := hid b1
      have I1 : Hid (Lib.IsBuilder 41 5 w.heap.size w.heap.size ((digL (z.take (j + 1))).map (Value.int .u8)) u1) := by rw [NX.out]; exact Or.inr i1
      clear i1 b1
      go_wp2_with fail
      go_roundw
      case rel => exact ⟨j + 1, by omega, by first | go_num | rfl, I1, K1.out⟩
      case measure => first | omega | (simp; omega) | (simp [intOf]; omega)
    · have je : j = n := by omega
      subst je
      have g1 : decide ((j : Int) < (j : Int)) = false := decide_eq_false (by omega)
      have g3 : ¬ (j : Int) < (j : Int) := by omega
      have TK : z.take j = z := List.take_of_length_le (by rw [HN.out]; omega)
      rw [TK, cells18 (dig_in z)] at II
      have ST := hid (Any.Builder_String_any Try.lays169 Try.Builder_Extra_169 w.heap.size w.heap.size _ wr II.out hk.size)
      clear hk TK
      go_wp2_with fail
      refine ST.out.mono ?_
      rintro e u1 ⟨rfl, b1⟩
      have K1 := hid (KK.out.under b1)
      clear b1
      go_wp2
      go_ret
      exact ⟨rfl, K1.out⟩
end Go.Proofs.Ytecgpdjgbdobbab
namespace Go.Proofs.Ytecgpdjgbdobbab
open Go.RowKit
set_option linter.unusedVariables false
set_option linter.unusedSimpArgs false

abbrev BB (w : World) (b : Nat) (L : List Int) : Prop := Blk w b 5 (L.map (Value.int .u8))
theorem bb_row {w : World} {b : Nat} {L : List Int} (h : BB w b L) (hb : ∀ x ∈ L, InByte x) (hm : L.length ≤ maxLen) : Row w (some ⟨b, 0, none⟩) L :=
  ⟨hm, hb, .inr ⟨_, rfl, blk_lt h, fun i hi => by
    rw [ownB_add, blk_cell h, List.getElem?_map, List.getElem?_eq_getElem hi, List.getD_eq_getElem?_getD, List.getElem?_eq_getElem hi]
    rfl⟩⟩
theorem set_at {L : List Value} {i : Nat} (v : Value) (h : i < L.length) : L.take i ++ [v] ++ L.drop (i + 1) = L.set i v := by
  rw [List.set_eq_take_append_cons_drop, if_pos h, List.append_assoc]; rfl
theorem make18 (N : Nat) (h : N ≤ 131072) (w : World) : (Instr.makeSlice 22 (.int .i64 (N : Int)) (.int .i64 (N : Int))).run Try.prog w = .ok (.slice (some ⟨w.heap.size, 0, none⟩) N N) (w.alloc (.cells ((List.replicate N (0 : Int)).map (Value.int .u8)).toArray 5)) := by
  obtain ⟨i0, hi, hz0, hz1, hz2⟩ := info_parts info10_u8
  have r := run_make w 22 5 i0 (.int .u8 0) Try.underlying22 hi hz0 .i64 .i64 (N : Int) (N : Int) (by omega) (by omega) (by rw [hz2]; omega) (by omega)
  rw [r, hz1, Nat.mul_one, Int.toNat_natCast]
  have e : madeCells (Value.int .u8 0).cells N = ((List.replicate N (0 : Int)).map (Value.int .u8)).toArray := by
    apply Array.toList_inj.1
    rw [show (Value.int .u8 0).cells = #[Value.int .u8 0] from rfl, toList_madeCells_one]
    simp
  rw [e]
/-- The examples' memory, j rows of its first tile laid. -/
def exZ : Nat → List Int
  | 0 => List.replicate 8192 0
  | j + 1 => (exZ j).set (2 * j) 255
theorem ex_len : ∀ j, (exZ j).length = 8192
  | 0 => List.length_replicate
  | j + 1 => by show ((exZ j).set _ _).length = _; rw [List.length_set, ex_len j]
theorem ex_in : ∀ j, ∀ x ∈ exZ j, InByte x
  | 0 => fun x hx => by rw [(List.mem_replicate.1 hx).2]; exact ⟨by decide, by decide⟩
  | j + 1 => fun x hx => by
    rcases List.mem_or_eq_of_mem_set hx with q | q
    · exact ex_in j x q
    · rw [q]; exact ⟨by decide, by decide⟩
def exV (ctl bgp : Int) (b : Nat) : Vd := ⟨ctl, 0, 0, 0, 0, bgp, 0, 0, some ⟨b, 0, none⟩, 8192, exZ 8, none, 0, []⟩
theorem exV_eq (ctl bgp : Int) (b : Nat) : vdV (exV ctl bgp b) = .agg #[.int .u8 ctl, .int .u8 0, .int .u8 0, .int .u8 0, .int .u8 0, .int .u8 bgp, .int .u8 0, .int .u8 0, .slice (some ⟨b, 0, none⟩) 8192 8192, .slice none 0 0] := by
  unfold vdV exV
  simp only [ex_len, List.length_nil]
theorem exV_in {w : World} {ctl bgp : Int} {b : Nat} (h : BB w b (exZ 8)) (c0 : 0 ≤ ctl) (c1 : ctl ≤ 255) (b0 : 0 ≤ bgp) (b1 : bgp ≤ 255) : VdIn w (exV ctl bgp b) where
  c0 := c0
  c1 := c1
  y0 := Int.le_refl 0
  y1 := by show (0 : Int) ≤ 255; decide
  x0 := Int.le_refl 0
  x1 := by show (0 : Int) ≤ 255; decide
  u0 := Int.le_refl 0
  u1 := by show (0 : Int) ≤ 255; decide
  t0 := Int.le_refl 0
  t1 := by show (0 : Int) ≤ 255; decide
  b0 := b0
  b1 := b1
  p0 := Int.le_refl 0
  p1 := by show (0 : Int) ≤ 255; decide
  q0 := Int.le_refl 0
  q1 := by show (0 : Int) ≤ 255; decide
  vs := ⟨bb_row h (ex_in 8) (by show (exZ 8).length ≤ maxLen; rw [ex_len]; simp [maxLen]), by show (exZ 8).length ≤ 8192; rw [ex_len]; omega, by show 8192 ≤ maxLen; simp [maxLen], fun e => by cases e⟩
  os := sl_nil w
  ol := by show ([] : List Int).length ≤ _; simp
set_option maxRecDepth 100000 in
set_option maxHeartbeats 4000000 in
theorem kplain18 (ctl bgp : Int) (w : World) : Calls Try.prog 6 #[.int .u8 ctl, .int .u8 bgp] w fun e w' => (∃ b, e = .returned (vdV (exV ctl bgp b)) ∧ w.heap.size ≤ b ∧ BB w' b (exZ 8)) ∧ Kept w w' := by
  obtain ⟨Z, hZ⟩ : ∃ Z, ((List.replicate 8192 (0 : Int)).map (Value.int .u8)).toArray = Z := ⟨_, rfl⟩
  have MR : ∀ u : World, (Instr.makeSlice 22 (.int .i64 8192) (.int .i64 8192)).run Try.prog u = .ok (.slice (some ⟨u.heap.size, 0, none⟩) 8192 8192) (u.alloc (.cells Z 5)) := fun u => by rw [← hZ]; exact make18 8192 (by decide) u
  have X0 : Hid (Blk ((w.alloc (.cells #[.int .u8 0, .int .u8 0, .int .u8 0, .int .u8 0, .int .u8 0, .int .u8 0, .int .u8 0, .int .u8 0, .slice none 0 0, .slice none 0 0] 24)).alloc (.cells Z 5)) w.heap.size 24 [.int .u8 0, .int .u8 0, .int .u8 0, .int .u8 0, .int .u8 0, .int .u8 0, .int .u8 0, .int .u8 0, .slice none 0 0, .slice none 0 0]) := blk_past (blk_new w _ _) _
  have X1 : Hid (BB ((w.alloc (.cells #[.int .u8 0, .int .u8 0, .int .u8 0, .int .u8 0, .int .u8 0, .int .u8 0, .int .u8 0, .int .u8 0, .slice none 0 0, .slice none 0 0] 24)).alloc (.cells Z 5)) (w.heap.size + 1) (exZ 0)) := by
    show Blk _ _ _ _
    rw [← hZ]
    have q := blk_new (w.alloc (.cells #[.int .u8 0, .int .u8 0, .int .u8 0, .int .u8 0, .int .u8 0, .int .u8 0, .int .u8 0, .int .u8 0, .slice none 0 0, .slice none 0 0] 24)) ((List.replicate 8192 (0 : Int)).map (Value.int .u8)) 5
    rw [World.size_alloc] at q
    exact q
  have KX : Hid (Kept w ((w.alloc (.cells #[.int .u8 0, .int .u8 0, .int .u8 0, .int .u8 0, .int .u8 0, .int .u8 0, .int .u8 0, .int .u8 0, .slice none 0 0, .slice none 0 0] 24)).alloc (.cells Z 5))) := ((Kept.refl w).alloc _).alloc _
  clear hZ
  go_enter Try.func6, Try.ntmps6
  go_wp2_with fail
  go_loopw [6] (fun s6 wr => ∃ j i : Nat, j ≤ 8 ∧ i = 2 * j ∧ s6 = .int .i64 (i : Int) ∧ Blk wr w.heap.size 24 [.int .u8 0, .int .u8 0, .int .u8 0, .int .u8 0, .int .u8 0, .int .u8 0, .int .u8 0, .int .u8 0, .slice none 0 0, .slice none 0 0] ∧ BB wr (w.heap.size + 1) (exZ j) ∧ Kept w wr) (fun s6 _ => 16 - (intOf s6).toNat)
  case atStart => exact ⟨0, 0, Nat.zero_le _, rfl, rfl, X0.out, X1.out, KX.out⟩
  case round =>
    obtain ⟨j, i, hj, hi, rfl, hb0, hb1, hk⟩ := hrel
    have B0 := hid hb0
    have B1 := hid hb1
    have KK := hid hk
    clear hb0 hb1 hk X0 X1 KX
    by_cases hlt : j < 8
    · have g1 : decide ((i : Int) < 16) = true := decide_eq_true (by omega)
      have g2 : (0 : Int) ≤ (i : Int) := by omega
      have g3 : (i : Int) < 8192 := by omega
      have e1 : IntKind.i64.wrap ((i : Int) + 2) = (i : Int) + 2 := by rw [IntKind.wrap_i64]; omega
      have LN : ((exZ j).map (Value.int .u8)).length = 8192 := by rw [List.length_map, ex_len]
      have NX : Hid (((exZ j).map (Value.int .u8)).take (2 * j) ++ [Value.int .u8 255] ++ ((exZ j).map (Value.int .u8)).drop (2 * j + 1) = (exZ (j + 1)).map (Value.int .u8)) := by
        show _ = _
        rw [set_at _ (by rw [LN]; omega)]
        show _ = ((exZ j).set (2 * j) 255).map _
        rw [List.map_set]
      rw [← hi] at NX
      have HL := hid LN
      have HI := hid hi
      have i14 : i ≤ 14 := by omega
      clear LN hi
      have BQ := B1.out
      have BZ := B0.out
      go_wp2_with ((with_reducible refine at_st 5 ?_); refine wl_store rfl rfl rfl rfl BQ (by kernel_rfl) rfl (by rw [HL.out]; show i + 1 ≤ 8192; omega) (fun v2 p2 => ?_); have B2 := hid (show BB v2 (w.heap.size + 1) (exZ (j + 1)) by (show Blk _ _ _ _; rw [← NX.out]; exact p2.blk)); have C2 := hid (p2.other _ _ _ (Nat.ne_of_lt (Nat.lt_succ_self _)) BZ); have K2 := hid (p2.kept _ KK.out (Nat.le_succ _)); clear p2)
      go_roundw
      case rel => exact ⟨j + 1, i + 2, by omega, by have := HI.out; omega, by first | go_num | rfl, C2.out, B2.out, K2.out⟩
      case measure => first | omega | (simp; omega) | (simp [intOf]; omega)
    · have je : j = 8 := by omega
      subst je
      subst hi
      have g1 : decide (((2 * 8 : Nat) : Int) < 16) = false := by decide
      have BZ := B0.out
      clear B0
      go_wp2_with ((with_reducible refine at_st 24 ?_); refine wl_store rfl rfl rfl rfl BZ (by kernel_rfl) rfl (Nat.le_of_ble_eq_true rfl) (fun v3 p3 => ?_); have B3 : Blk v3 w.heap.size 24 [.int .u8 ctl, .int .u8 0, .int .u8 0, .int .u8 0, .int .u8 0, .int .u8 bgp, .int .u8 0, .int .u8 0, .slice (some ⟨w.heap.size + 1, 0, none⟩) 8192 8192, .slice none 0 0] := p3.blk; have C3 := hid (p3.other _ _ _ (Nat.succ_ne_self _) B1.out); have K3 := hid (p3.kept _ KK.out (Nat.le_refl _)); clear p3)
      refine bodyPost_ret (res_cell Try.results6 rfl B3 Try.underlying24 rfl (by kernel_rfl)) rfl ⟨⟨w.heap.size + 1, ?_, Nat.le_succ _, C3.out⟩, K3.out⟩
      rw [exV_eq]
end Go.Proofs.Ytecgpdjgbdobbab
namespace Go.Proofs.Ytecgpdjgbdobbab
open Go.RowKit
set_option linter.unusedVariables false
set_option linter.unusedSimpArgs false

theorem ex_dot (ctl bgp : Int) (b : Nat) (y win : Int) (x : Nat) (h : bitOf ctl 1 = false) : dotL (exV ctl bgp b) y win x = dotP (exV ctl bgp b) [] (x : Int) y win := by
  unfold dotL objsP
  rw [show bitOf (exV ctl bgp b).ctl 1 = false from h, if_neg (by simp)]
set_option maxRecDepth 100000 in
theorem ex_a (b : Nat) : dotP (exV 17 228 b) [] ((0 : Nat) : Int) 0 0 = 1 := by kernel_rfl
set_option maxRecDepth 100000 in
theorem ex_b (b : Nat) : dotP (exV 17 228 b) [] ((159 : Nat) : Int) 0 0 = 1 := by kernel_rfl
set_option maxRecDepth 100000 in
theorem ex_c (b : Nat) : dotP (exV 17 27 b) [] ((80 : Nat) : Int) 143 0 = 2 := by kernel_rfl
set_option maxRecDepth 100000 in
theorem ex_d (b : Nat) : dotP (exV 16 27 b) [] ((9 : Nat) : Int) 3 7 = 0 := by kernel_rfl
theorem ex_n (b : Nat) : nxP (exV 16 27 b) 3 7 = 7 := by kernel_rfl
theorem ex_t : strB (digL [3, 4]) = ⟨#[51, 48]⟩ := by kernel_rfl
set_option maxRecDepth 100000 in
set_option maxHeartbeats 4000000 in
theorem kshown18 (w : World) : Calls Try.prog 4 #[] w fun e w' => e = .returned (.bool true) ∧ Kept w w' := by
  have P0 := hid (fun u => kplain18 17 228 u)
  have P1 := hid (fun u => kplain18 17 27 u)
  have P2 := hid (fun u => kplain18 16 27 u)
  have K0 := hid (Kept.refl w)
  go_enter Try.func4, Try.ntmps4
  go_wp2_with fail
  refine (P0.out _).mono ?_
  rintro e p0 ⟨⟨m0, rfl, z0, x0⟩, k1⟩
  have H0 := hid (K0.out.trans k1)
  have X0 := hid x0
  clear k1 x0 z0
  rw [exV_eq]
  have LI := hid (pline18 (exV 17 228 m0) 0 0 p0 (exV_in X0.out (by decide) (by decide) (by decide) (by decide)) (by decide) (by decide) (by decide) (by decide))
  rw [exV_eq] at LI
  go_wp2_with fail
  refine LI.out.mono ?_
  rintro e q0 ⟨⟨b0, rfl, z0, x0⟩, k1⟩
  have G0 := hid (H0.out.trans k1)
  have F00 := hid x0
  clear k1 x0 z0 X0 LI
  go_wp2_with fail
  refine (P1.out _).mono ?_
  rintro e p1 ⟨⟨m1, rfl, z1, x1⟩, k1⟩
  have H1 := hid (G0.out.trans k1)
  have X1 := hid x1
  have F01 := hid (blk_kept k1 F00.out)
  clear k1 x1 z1
  rw [exV_eq]
  have LI := hid (pline18 (exV 17 27 m1) 143 0 p1 (exV_in X1.out (by decide) (by decide) (by decide) (by decide)) (by decide) (by decide) (by decide) (by decide))
  rw [exV_eq] at LI
  go_wp2_with fail
  refine LI.out.mono ?_
  rintro e q1 ⟨⟨b1, rfl, z1, x1⟩, k1⟩
  have G1 := hid (H1.out.trans k1)
  have E01 := hid (blk_kept k1 F01.out)
  clear F01
  have F01 := E01
  clear E01
  have F11 := hid x1
  clear k1 x1 z1 X1 LI
  go_wp2_with fail
  refine (P2.out _).mono ?_
  rintro e p2 ⟨⟨m2, rfl, z2, x2⟩, k1⟩
  have H2 := hid (G1.out.trans k1)
  have X2 := hid x2
  have F02 := hid (blk_kept k1 F01.out)
  have F12 := hid (blk_kept k1 F11.out)
  clear k1 x2 z2
  rw [exV_eq]
  have LI := hid (pline18 (exV 16 27 m2) 3 7 p2 (exV_in X2.out (by decide) (by decide) (by decide) (by decide)) (by decide) (by decide) (by decide) (by decide))
  rw [exV_eq] at LI
  go_wp2_with fail
  refine LI.out.mono ?_
  rintro e q2 ⟨⟨b2, rfl, z2, x2⟩, k1⟩
  have G2 := hid (H2.out.trans k1)
  have E02 := hid (blk_kept k1 F02.out)
  clear F02
  have F02 := E02
  clear E02
  have E12 := hid (blk_kept k1 F12.out)
  clear F12
  have F12 := E12
  clear E12
  have F22 := hid x2
  clear k1 x2 z2 X2 LI
  have d0 : q2.cell? ⟨b0, 0, none⟩ = some (.int .u8 1) := by rw [blk_cell F02.out, cols_at _ (by decide), ex_dot _ _ _ _ _ _ (by decide), ex_a]
  have d1 : q2.cell? ⟨b0, 159, none⟩ = some (.int .u8 1) := by rw [blk_cell F02.out, cols_at _ (by decide), ex_dot _ _ _ _ _ _ (by decide), ex_b]
  have d2 : q2.cell? ⟨b1, 80, none⟩ = some (.int .u8 2) := by rw [blk_cell F12.out, cols_at _ (by decide), ex_dot _ _ _ _ _ _ (by decide), ex_c]
  have d3 : q2.cell? ⟨b2, 9, none⟩ = some (.int .u8 0) := by rw [blk_cell F22.out, cols_at _ (by decide), ex_dot _ _ _ _ _ _ (by decide), ex_d]
  have z0 := blk_lt F02.out
  have z1 := blk_lt F12.out
  have z2 := blk_lt F22.out
  rw [ex_n]
  have TX : Hid (Row (q2.alloc (.cells #[.int .u8 3, .int .u8 4] 5)) (some ⟨q2.heap.size, 0, none⟩) [3, 4]) := bb_row (L := [3, 4]) (blk_new q2 _ _) (fun x hx => by simp at hx; rcases hx with rfl | rfl <;> exact ⟨by decide, by decide⟩) (by simp [maxLen])
  have TT := hid (ptext18 (some ⟨q2.heap.size, 0, none⟩) 2 [3, 4] _ TX.out (by decide))
  rw [ex_t] at TT
  clear TX F02 F12 F22 P0 P1 P2
  go_wp2_with fail
  refine TT.out.mono ?_
  rintro e r ⟨rfl, k1⟩
  have KE := hid ((G2.out.alloc _).trans k1)
  clear k1
  go_wp2
  go_ret
  exact ⟨rfl, KE.out⟩
end Go.Proofs.Ytecgpdjgbdobbab
namespace Go.Proofs.Ytecgpdjgbdobbab
open Go.RowKit
set_option linter.unusedVariables false
set_option linter.unusedSimpArgs false

/-- The window's line ahead of a line. -/
def fwin (l : List Vd) : Nat → Int
  | 0 => 0
  | j + 1 => if j < l.length then nxP (l.getD j vd0) (j : Int) (fwin l j) else fwin l j
def frow (l : List Vd) (j : Nat) : List Int := if j < l.length then lineP (l.getD j vd0) (j : Int) (fwin l j) else List.replicate 160 0
def ftake (l : List Vd) : Nat → List Int
  | 0 => []
  | j + 1 => ftake l j ++ frow l j
def frameP (l : List Vd) : List Int := ftake l 144
theorem fwin_bd (l : List Vd) : ∀ j, 0 ≤ fwin l j ∧ fwin l j ≤ 255
  | 0 => ⟨Int.le_refl 0, show (0 : Int) ≤ 255 by decide⟩
  | j + 1 => by
    have h := fwin_bd l j
    show 0 ≤ (if _ then _ else _ : Int) ∧ (if _ then _ else _ : Int) ≤ 255
    split
    · exact nx_bd h.1 h.2
    · exact h
theorem fwin_yes {l : List Vd} {j : Nat} (h : j < l.length) : fwin l (j + 1) = nxP (l.getD j vd0) (j : Int) (fwin l j) := if_pos h
theorem fwin_no {l : List Vd} {j : Nat} (h : ¬ j < l.length) : fwin l (j + 1) = fwin l j := if_neg h
theorem frow_yes {l : List Vd} {j : Nat} (h : j < l.length) : frow l j = lineP (l.getD j vd0) (j : Int) (fwin l j) := if_pos h
theorem frow_no {l : List Vd} {j : Nat} (h : ¬ j < l.length) : frow l j = List.replicate 160 0 := if_neg h
theorem frow_len (l : List Vd) (j : Nat) : (frow l j).length = 160 := by
  unfold frow
  split
  · exact line_len _ _ _
  · exact List.length_replicate
theorem zeros_in (n : Nat) : ∀ x ∈ List.replicate n (0 : Int), InByte x := fun x hx => by rw [(List.mem_replicate.1 hx).2]; exact ⟨by decide, by decide⟩
theorem frow_in (l : List Vd) (j : Nat) : ∀ x ∈ frow l j, InByte x := by
  unfold frow
  split
  · exact line_in _ _ _
  · exact zeros_in _
theorem ftake_len (l : List Vd) : ∀ j, (ftake l j).length = 160 * j
  | 0 => rfl
  | j + 1 => by
    show (ftake l j ++ frow l j).length = _
    rw [List.length_append, ftake_len l j, frow_len]; omega
theorem ftake_in (l : List Vd) : ∀ j, ∀ x ∈ ftake l j, InByte x
  | 0 => fun x hx => by cases hx
  | j + 1 => fun x hx => by
    rcases List.mem_append.1 hx with q | q
    · exact ftake_in l j x q
    · exact frow_in l j x q
/-- A picture of which j lines are drawn. -/
def picL (l : List Vd) (j : Nat) : List Int := ftake l j ++ List.replicate (23040 - 160 * j) 0
theorem pic_len (l : List Vd) {j : Nat} (h : j ≤ 144) : (picL l j).length = 23040 := by
  unfold picL
  rw [List.length_append, ftake_len, List.length_replicate]; omega
theorem pic_0 (l : List Vd) : picL l 0 = List.replicate 23040 0 := rfl
theorem pic_in (l : List Vd) (j : Nat) : ∀ x ∈ picL l j, InByte x := fun x hx => by
  rcases List.mem_append.1 hx with q | q
  · exact ftake_in l j x q
  · exact zeros_in _ x q
def spl18 (L : List Int) (o : Nat) (C : List Int) : List Int := L.take o ++ C ++ L.drop (o + C.length)
theorem pic_next (l : List Vd) {j : Nat} (h : j < 144) : spl18 (picL l j) (j * 160) (frow l j) = picL l (j + 1) := by
  unfold spl18 picL
  rw [frow_len, List.take_append_of_le_length (by rw [ftake_len]; omega), List.take_of_length_le (by rw [ftake_len]; omega), List.drop_append, List.drop_of_length_le (by rw [ftake_len]; omega), List.nil_append, ftake_len, List.drop_replicate, show ftake l (j + 1) = ftake l j ++ frow l j from rfl, show 23040 - 160 * j - (j * 160 + 160 - 160 * j) = 23040 - 160 * (j + 1) by omega]
theorem ftake_past (l : List Vd) {m : Nat} (h : l.length ≤ m) : ∀ k, ftake l (m + k) = ftake l m ++ List.replicate (160 * k) 0
  | 0 => by simp
  | k + 1 => by
    show ftake l (m + k) ++ frow l (m + k) = _
    rw [ftake_past l h k, frow_no (by omega), List.append_assoc, List.replicate_append_replicate]
    congr 2
theorem pic_144 (l : List Vd) : picL l 144 = frameP l := by
  unfold picL frameP
  simp
theorem pic_end (l : List Vd) {m : Nat} (h : l.length ≤ m) (h2 : m ≤ 144) : picL l m = frameP l := by
  unfold picL frameP
  have e := ftake_past l h (144 - m)
  rw [show m + (144 - m) = 144 by omega] at e
  rw [e, show 23040 - 160 * m = 160 * (144 - m) by omega]
/-- Registers and memories lie at an address. -/
structure VAt (u : World) (y : Addr) (v : Vd) : Prop where
  c0 : u.cell? y = some (.int .u8 v.ctl)
  c1 : u.cell? ⟨y.block, y.off + 1, none⟩ = some (.int .u8 v.scy)
  c2 : u.cell? ⟨y.block, y.off + 2, none⟩ = some (.int .u8 v.scx)
  c3 : u.cell? ⟨y.block, y.off + 3, none⟩ = some (.int .u8 v.wy)
  c4 : u.cell? ⟨y.block, y.off + 4, none⟩ = some (.int .u8 v.wx)
  c5 : u.cell? ⟨y.block, y.off + 5, none⟩ = some (.int .u8 v.bgp)
  c6 : u.cell? ⟨y.block, y.off + 6, none⟩ = some (.int .u8 v.o0)
  c7 : u.cell? ⟨y.block, y.off + 7, none⟩ = some (.int .u8 v.o1)
  c8 : u.cell? ⟨y.block, y.off + 8, none⟩ = some (.slice v.va v.vz.length v.vc)
  c9 : u.cell? ⟨y.block, y.off + 9, none⟩ = some (.slice v.oa v.oz.length v.oc)
theorem vat_kept {W w : World} (k : Kept W w) {y : Addr} {v : Vd} (hy : y.block < W.heap.size) (h : VAt W y v) : VAt w y v :=
  ⟨(k.cell hy).trans h.c0, (k.cell (x := ⟨y.block, y.off + 1, none⟩) hy).trans h.c1, (k.cell (x := ⟨y.block, y.off + 2, none⟩) hy).trans h.c2, (k.cell (x := ⟨y.block, y.off + 3, none⟩) hy).trans h.c3, (k.cell (x := ⟨y.block, y.off + 4, none⟩) hy).trans h.c4, (k.cell (x := ⟨y.block, y.off + 5, none⟩) hy).trans h.c5, (k.cell (x := ⟨y.block, y.off + 6, none⟩) hy).trans h.c6, (k.cell (x := ⟨y.block, y.off + 7, none⟩) hy).trans h.c7, (k.cell (x := ⟨y.block, y.off + 8, none⟩) hy).trans h.c8, (k.cell (x := ⟨y.block, y.off + 9, none⟩) hy).trans h.c9⟩
theorem vat_at {w : World} {a : Option Addr} {L : List Vd} (h : FRow w a 10 (L.map vdC)) (hl : 0 < L.length) : ∃ x : Addr, a = some x ∧ x.block < w.heap.size ∧ ∀ j, j < L.length → VAt w (x.add (j * 10)) (L.getD j vd0) := by
  obtain ⟨x, e, hx, hc⟩ := frow_getD vd0 h hl
  have off : ∀ (j i : Nat), 0 < i → x.add (j * 10 + i) = ⟨(x.add (j * 10)).block, (x.add (j * 10)).off + i, none⟩ := fun j i hi => by rw [← addF]; unfold Addr.add; rw [if_neg (by omega)]
  refine ⟨x, e, hx, fun j hj => ⟨?_, ?_, ?_, ?_, ?_, ?_, ?_, ?_, ?_, ?_⟩⟩
  · exact (hc j hj 0 (by decide))
  · rw [← off j 1 (by decide)]; exact (hc j hj 1 (by decide))
  · rw [← off j 2 (by decide)]; exact (hc j hj 2 (by decide))
  · rw [← off j 3 (by decide)]; exact (hc j hj 3 (by decide))
  · rw [← off j 4 (by decide)]; exact (hc j hj 4 (by decide))
  · rw [← off j 5 (by decide)]; exact (hc j hj 5 (by decide))
  · rw [← off j 6 (by decide)]; exact (hc j hj 6 (by decide))
  · rw [← off j 7 (by decide)]; exact (hc j hj 7 (by decide))
  · rw [← off j 8 (by decide)]; exact (hc j hj 8 (by decide))
  · rw [← off j 9 (by decide)]; exact (hc j hj 9 (by decide))
/-- A copy into a row of bytes, out of cells that can be read. -/
theorem copyB18 {w : World} {g : Nat} {L : List Int} (hh : BB w g L) (off dLen dCap : Nat) (ad : Addr) (sCap : Nat) (C : List Int) (hl : C.length ≤ dLen) (hf : off + C.length ≤ L.length)
    (hs : ∀ j u, (C.map (Value.int .u8))[j]? = some u → w.cell? (ad.add j) = some u) (W : World) (k : Kept W w) (hW : W.heap.size ≤ g) :
    ∃ w2, (∀ ty, (Builtin.copy_ #[22, 22] ty #[.slice (some ⟨g, off, none⟩) dLen dCap, .slice (some ad) C.length sCap]).run Try.prog w = .ok (.int .i64 (C.length : Int)) w2) ∧ BB w2 g (spl18 L off C) ∧ Kept W w2 := by
  have e : ((L.map (Value.int .u8)).take off ++ C.map (Value.int .u8) ++ (L.map (Value.int .u8)).drop (off + (C.map (Value.int .u8)).length)) = (spl18 L off C).map (Value.int .u8) := by
    unfold spl18
    rw [List.length_map, List.map_append, List.map_append, List.map_take, List.map_drop]
  refine ⟨w.setRow g ((spl18 L off C).map (Value.int .u8)).toArray, fun ty => ?_, ?_, ?_⟩
  · have := run_copy_row Try.prog w 22 22 ty 5 g off dLen dCap ad C.length sCap _ 5 (C.map (Value.int .u8)) Try.underlying22 (by kernel_rfl) hh (by rw [List.length_map]; exact (Nat.min_eq_left hl).symm) hs (by simpa using hf) (fun v hv => by obtain ⟨q, _, rfl⟩ := List.mem_map.1 hv; rfl)
    rw [List.toList_toArray, e, List.length_map] at this
    exact this
  · exact setRow_heap w g _ _ _ _ hh
  · exact ⟨k.os, k.output, by simpa using k.size, fun i hi => (setRow_other w g i _ (by omega)).trans (k.block i hi)⟩
end Go.Proofs.Ytecgpdjgbdobbab
namespace Go.Proofs.Ytecgpdjgbdobbab
open Go.RowKit
set_option linter.unusedVariables false
set_option linter.unusedSimpArgs false

theorem conv_nil18 (w : World) : (convert 22 9 (.slice none 0 0)).run Try.prog w = .ok (.string (strB [])) w := by kernel_rfl
theorem conv_sl18 {w : World} {a : Option Addr} {cap : Nat} {z : List Int} (h : Sl w a cap z) : (convert 22 9 (.slice a z.length cap)).run Try.prog w = .ok (.string (strB z)) w := by
  cases a with
  | none =>
    obtain rfl : cap = 0 := h.nil rfl
    have z0 := h.len
    obtain rfl : z = [] := List.eq_nil_of_length_eq_zero (by omega)
    exact conv_nil18 w
  | some x => exact conv_cells w x cap z (row_news10 h.row)
theorem conv_line18 {w : World} {b : Nat} {t : TypeId} {v : Vd} {y win : Int} (h : Blk w b t (colsL (dotL v y win))) : (convert 22 9 (.slice (some ⟨b, 0, none⟩) 160 160)).run Try.prog w = .ok (.string (strB (lineP v y win))) w := by
  have q := conv_cells w ⟨b, 0, none⟩ 160 (lineP v y win) (fun j u hu => by rw [ownB_add, blk_cell h, cols_line]; exact hu)
  rw [line_len] at q
  exact q
theorem and3_bits : ∀ c : Fin 256, (bits .and .u8 (c.val : Int) 3 == 0) = true → bitOf (c.val : Int) 0 = false ∧ bitOf (c.val : Int) 1 = false := by decide +kernel
theorem dot_none {v : Vd} (y win : Int) (x : Nat) (h0 : bitOf v.ctl 0 = false) (h1 : bitOf v.ctl 1 = false) : dotL v y win x = 0 := by
  unfold dotL objsP
  rw [h1, if_neg (by simp)]
  unfold dotP
  rw [h0]
  rfl
end Go.Proofs.Ytecgpdjgbdobbab
namespace Go.Proofs.Ytecgpdjgbdobbab
open Go.RowKit
set_option linter.unusedVariables false
set_option linter.unusedSimpArgs false

/-- Alike in all that a line is drawn from, but for the objects' memory. -/
structure Alike (v v' : Vd) : Prop where
  b0 : bitOf v'.ctl 0 = bitOf v.ctl 0
  b1 : bitOf v'.ctl 1 = bitOf v.ctl 1
  b2 : bitOf v'.ctl 2 = bitOf v.ctl 2
  b3 : bitOf v'.ctl 3 = bitOf v.ctl 3
  b4 : bitOf v'.ctl 4 = bitOf v.ctl 4
  b5 : bitOf v'.ctl 5 = bitOf v.ctl 5
  b6 : bitOf v'.ctl 6 = bitOf v.ctl 6
  scy : v'.scy = v.scy
  scx : v'.scx = v.scx
  wy : v'.wy = v.wy
  wx : v'.wx = v.wx
  bgp : v'.bgp = v.bgp
  o0 : v'.o0 = v.o0
  o1 : v'.o1 = v.o1
  vz : v'.vz = v.vz
theorem alike_win {v v' : Vd} (h : Alike v v') (y : Int) : winP v' y = winP v y := by unfold winP; rw [h.b0, h.b5, h.wy, h.wx]
theorem alike_nx {v v' : Vd} (h : Alike v v') (y win : Int) : nxP v' y win = nxP v y win := by unfold nxP; rw [alike_win h]
theorem alike_cel {v v' : Vd} (h : Alike v v') (g : Bool) (a b : Int) : celP v' g a b = celP v g a b := by unfold celP; rw [h.vz, h.b4]
theorem alike_gro {v v' : Vd} (h : Alike v v') (x y win : Int) : groP v' x y win = groP v x y win := by
  unfold groP
  rw [h.b0, alike_win h, h.wx, h.b6, h.b3, h.scx, h.scy, alike_cel h, alike_cel h]
theorem alike_ox {v v' : Vd} (h : Alike v v') (o : Ob) (x y : Int) : oxP v' o x y = oxP v o x y := by unfold oxP oloP ohiP; rw [h.vz, h.b2]
theorem alike_seen {v v' : Vd} (h : Alike v v') (x y : Int) : ∀ L, seenP v' x y L = seenP v x y L
  | [] => rfl
  | o :: l => by
    show (if isP v' o x y then (o, oxP v' o x y) else seenP v' x y l) = (if isP v o x y then (o, oxP v o x y) else seenP v x y l)
    unfold isP
    rw [alike_ox h, alike_seen h x y l]
theorem alike_dot {v v' : Vd} (h : Alike v v') {y : Int} (ho : objsP v' y = objsP v y) (win : Int) : dotL v' y win = dotL v y win := by
  funext x
  unfold dotL
  rw [ho]
  unfold dotP palP
  rw [alike_seen h, alike_gro h, h.b0, h.bgp, h.o0, h.o1]
theorem objs_alike {v v' : Vd} (h : Alike v v') {y : Int} (hs : scanL v'.oz y (bitOf v.ctl 2) = scanL v.oz y (bitOf v.ctl 2)) : objsP v' y = objsP v y := by
  unfold objsP
  rw [h.b1, h.b2, hs]
theorem objs_none {v : Vd} (h : bitOf v.ctl 1 = false) (y : Int) : objsP v y = [] := by
  unfold objsP
  rw [h, if_neg (by simp)]
theorem xor128_bits : ∀ c : Fin 256, (0 ≤ bits .xor .u8 (c.val : Int) 128 ∧ bits .xor .u8 (c.val : Int) 128 ≤ 255) ∧ bitOf (bits .xor .u8 (c.val : Int) 128) 0 = bitOf (c.val : Int) 0 ∧ bitOf (bits .xor .u8 (c.val : Int) 128) 1 = bitOf (c.val : Int) 1 ∧ bitOf (bits .xor .u8 (c.val : Int) 128) 2 = bitOf (c.val : Int) 2 ∧ bitOf (bits .xor .u8 (c.val : Int) 128) 3 = bitOf (c.val : Int) 3 ∧ bitOf (bits .xor .u8 (c.val : Int) 128) 4 = bitOf (c.val : Int) 4 ∧ bitOf (bits .xor .u8 (c.val : Int) 128) 5 = bitOf (c.val : Int) 5 ∧ bitOf (bits .xor .u8 (c.val : Int) 128) 6 = bitOf (c.val : Int) 6 := by decide +kernel
theorem not2_bits : ∀ c : Fin 256, 0 ≤ bits .andNot .u8 (c.val : Int) 2 ∧ bits .andNot .u8 (c.val : Int) 2 ≤ 255 ∧ bitOf (bits .andNot .u8 (c.val : Int) 2) 1 = false := by decide +kernel
/-- The objects' memory as 160 bytes. -/
def oamL (z : List Int) : List Int := spl18 (List.replicate 160 0) 0 (z.take 160)
theorem oam_len (z : List Int) : (oamL z).length = 160 := by
  unfold oamL spl18
  simp only [List.length_append, List.length_take, List.length_drop, List.length_replicate]
  omega
theorem oam_in {z : List Int} (h : ∀ x ∈ z, InByte x) : ∀ x ∈ oamL z, InByte x := fun x hx => by
  unfold oamL spl18 at hx
  rcases List.mem_append.1 hx with q | q
  · rcases List.mem_append.1 q with q | q
    · exact zeros_in _ x (List.mem_of_mem_take q)
    · exact h x (List.mem_of_mem_take q)
  · exact zeros_in _ x (List.mem_of_mem_drop q)
theorem oam_at (z : List Int) {k : Nat} (hk : k < 160) : (oamL z).getD k 0 = z.getD k 0 := by
  unfold oamL spl18
  rw [List.take_zero, List.nil_append, List.getD_eq_getElem?_getD, List.getD_eq_getElem?_getD, List.getElem?_append, List.length_take]
  by_cases c : k < z.length
  · rw [if_pos (by omega), List.getElem?_take_of_lt (by omega)]
  · rw [if_neg (by omega), List.getElem?_drop, List.getElem?_replicate, List.getElem?_eq_none (by omega)]
    split <;> rfl
theorem byF_eq {z z' : List Int} {k : Nat} (h : z'.getD k 0 = z.getD k 0) : byF z' k = byF z k := Fin.ext (by show (z'.getD k 0).toNat % 256 = (z.getD k 0).toNat % 256; rw [h])
theorem objN_eq {z z' : List Int} {i : Nat} (h : ∀ j, j < 4 → z'.getD (4 * i + j) 0 = z.getD (4 * i + j) 0) : objN z' i = objN z i := by
  have h0 := h 0 (by decide)
  have h1 := h 1 (by decide)
  have h2 := h 2 (by decide)
  have h3 := h 3 (by decide)
  rw [Nat.add_zero] at h0
  unfold objN
  rw [byF_eq h0, byF_eq h1, byF_eq h2, byF_eq h3]
theorem scan_eq {z z' : List Int} {l : Int} {t : Bool} (h : ∀ i, i < 40 → onP (objN z' i) l t = onP (objN z i) l t ∧ (onP (objN z i) l t = true → objN z' i = objN z i)) : scanL z' l t = scanL z l t := by
  have q : ∀ j, j ≤ 40 → scanTo z' l t j = scanTo z l t j := by
    intro j
    induction j with
    | zero => intro _; rfl
    | succ j ih =>
      intro hj
      obtain ⟨e1, e2⟩ := h j (by omega)
      cases c : onP (objN z j) l t
      · rw [scan_no c, scan_no (by rw [e1]; exact c), ih (by omega)]
      · rw [scan_yes c, scan_yes (by rw [e1]; exact c), ih (by omega), e2 c]
  unfold scanL
  rw [q 40 (by omega)]
theorem oam_scan (z : List Int) (l : Int) (t : Bool) : scanL (oamL z) l t = scanL z l t :=
  scan_eq fun i hi => by
    have e : objN (oamL z) i = objN z i := objN_eq fun j hj => oam_at z (by omega)
    rw [e]
    exact ⟨rfl, fun _ => rfl⟩
theorem set_getD (l : List Int) (i : Nat) (a : Int) (j : Nat) : (l.set i a).getD j 0 = if i = j ∧ i < l.length then a else l.getD j 0 := by
  rw [List.getD_eq_getElem?_getD, List.getD_eq_getElem?_getD, List.getElem?_set]
  by_cases c : i = j
  · subst c
    rw [if_pos rfl]
    by_cases d : i < l.length
    · rw [if_pos d, if_pos ⟨rfl, d⟩]; rfl
    · rw [if_neg d, if_neg (by omega), List.getElem?_eq_none (by omega)]
  · rw [if_neg c, if_neg (by omega)]
def farL (l : List Int) (k : Nat) (to : Int) : List Int := (((l.set k 0).set (k + 1) to).set (k + 2) to).set (k + 3) to
theorem far_len (l : List Int) (k : Nat) (to : Int) : (farL l k to).length = l.length := by unfold farL; simp
theorem set_in {l : List Int} (h : ∀ x ∈ l, InByte x) {a : Int} (ha : InByte a) (k : Nat) : ∀ x ∈ l.set k a, InByte x := fun x hx => by
  rcases List.mem_or_eq_of_mem_set hx with q | q
  · exact h x q
  · rw [q]; exact ha
theorem far_in {l : List Int} (h : ∀ x ∈ l, InByte x) {to : Int} (ht : InByte to) (k : Nat) : ∀ x ∈ farL l k to, InByte x :=
  set_in (set_in (set_in (set_in h ⟨by decide, by decide⟩ _) ht _) ht _) ht _
theorem far_scan {l : List Int} (hl : l.length = 160) (hb : ∀ x ∈ l, InByte x) {q : Nat} (hq : q < 40) {y : Int} (y0 : 0 ≤ y) (to : Int) (t : Bool)
    (hf : l.getD (4 * q) 0 = 0 ∨ y + 16 < l.getD (4 * q) 0 ∨ l.getD (4 * q) 0 + 16 ≤ y + 16) : scanL (farL l (4 * q) to) y t = scanL l y t := by
  have rt : rowsI t ≤ 16 := by unfold rowsI; split <;> omega
  refine scan_eq fun i hi => ?_
  by_cases c : i = q
  · subst c
    have bl : onP (objN l i) y t = false := by
      rw [onP_no]
      have e : ((objN l i).1.val : Int) = l.getD (4 * i) 0 := byF_val hb (4 * i)
      rw [e]
      omega
    have bf : onP (objN (farL l (4 * i) to) i) y t = false := by
      rw [onP_no]
      have e : ((objN (farL l (4 * i) to) i).1.val : Int) = 0 := by
        have g : (farL l (4 * i) to).getD (4 * i) 0 = 0 := by
          unfold farL
          rw [set_getD, set_getD, set_getD, set_getD]
          simp only [List.length_set]
          rw [if_neg (by omega), if_neg (by omega), if_neg (by omega), if_pos ⟨trivial, by omega⟩]
        show ((((farL l (4 * i) to).getD (4 * i) 0).toNat % 256 : Nat) : Int) = 0
        rw [g]
        rfl
      rw [e]
      omega
    rw [bl, bf]
    exact ⟨rfl, fun h => by cases h⟩
  · have e : objN (farL l (4 * q) to) i = objN l i := objN_eq fun j hj => by
      unfold farL
      rw [set_getD, set_getD, set_getD, set_getD]
      rw [if_neg (by omega), if_neg (by omega), if_neg (by omega), if_neg (by omega)]
    rw [e]
    exact ⟨rfl, fun _ => rfl⟩
theorem set_back {l : List Int} {k : Nat} (h : k < l.length) : (l.set k 0).set k (l.getD k 0) = l := by
  rw [List.set_set, List.getD_eq_getElem?_getD, List.getElem?_eq_getElem h]
  exact List.set_getElem_self h
theorem vdV_eq (v : Vd) {vn on : Nat} (h1 : v.vz.length = vn) (h2 : v.oz.length = on) : vdV v = .agg #[.int .u8 v.ctl, .int .u8 v.scy, .int .u8 v.scx, .int .u8 v.wy, .int .u8 v.wx, .int .u8 v.bgp, .int .u8 v.o0, .int .u8 v.o1, .slice v.va vn v.vc, .slice v.oa on v.oc] := by unfold vdV; rw [h1, h2]
/-- Bytes ahead in a block of their own, with room behind. -/
abbrev BR (w : World) (b : Nat) (L : List Int) (rest : List Value) : Prop := Blk w b 5 (L.map (Value.int .u8) ++ rest)
theorem br_cell {w : World} {b : Nat} {L : List Int} {rest : List Value} (h : BR w b L rest) {i : Nat} (hi : i < L.length) : w.cell? ⟨b, i, none⟩ = some (.int .u8 (L.getD i 0)) := by
  rw [blk_cell h, List.getElem?_append_left (by rw [List.length_map]; exact hi), List.getElem?_map, List.getElem?_eq_getElem hi, List.getD_eq_getElem?_getD, List.getElem?_eq_getElem hi]
  rfl
theorem br_sl {w : World} {b cap : Nat} {L : List Int} {rest : List Value} (h : BR w b L rest) (hb : ∀ x ∈ L, InByte x) (h1 : L.length ≤ cap) (h2 : cap ≤ maxLen) : Sl w (some ⟨b, 0, none⟩) cap L :=
  ⟨⟨Nat.le_trans h1 h2, hb, .inr ⟨_, rfl, blk_lt h, fun i hi => by rw [ownB_add]; exact br_cell h hi⟩⟩, h1, h2, fun e => by cases e⟩
theorem br_set {L : List Int} {rest : List Value} {i : Nat} (x : Int) (hi : i < L.length) : (L.map (Value.int .u8) ++ rest).take i ++ [Value.int .u8 x] ++ (L.map (Value.int .u8) ++ rest).drop (i + 1) = (L.set i x).map (Value.int .u8) ++ rest := by
  have l1 : i < (L.map (Value.int .u8)).length := by rw [List.length_map]; exact hi
  rw [List.take_append_of_le_length (by omega), List.drop_append_of_le_length (by omega), ← List.append_assoc, set_at _ l1, List.map_set]
theorem own_br {w : World} {base : Nat} {v : Value} {L : List Int} (o : w.ownsRow base 5 1 v L.length (L.map (Value.int .u8))) (hl : 0 < L.length) : ∃ g cap rest, v = .slice (some ⟨g, 0, none⟩) L.length cap ∧ base ≤ g ∧ BR w g L rest ∧ L.length ≤ cap ∧ cap ≤ maxLen := by
  obtain ⟨_, ⟨h1, h2⟩ | ⟨g, cap, cur, h1, hg, hh, h3, h4, h5, h6⟩⟩ := id o
  · omega
  · refine ⟨g, cap, cur.toList.drop L.length, h1, hg, ?_, h3, h4⟩
    show w.heap[g]? = _
    rw [hh]
    have e : L.map (Value.int .u8) ++ cur.toList.drop L.length = cur.toList := by
      have q : cur.toList.take L.length = L.map (Value.int .u8) := by simpa using h6
      rw [← q, List.take_append_drop]
    rw [e]
/-- A copy of 160 bytes at most. -/
theorem copyA18 {w : World} {g oc : Nat} {oa : Option Addr} {z : List Int} (hh : BB w g (List.replicate 160 0)) (hs : Sl w oa oc z) :
    ∃ w2 n, (∀ ty, (Builtin.copy_ #[22, 22] ty #[.slice (some ⟨g, 0, none⟩) 160 160, .slice oa z.length oc]).run Try.prog w = .ok (.int .i64 n) w2) ∧ BB w2 g (oamL z) ∧ (∀ W, Kept W w → W.heap.size ≤ g → Kept W w2) ∧ (∀ b t cs, b ≠ g → Blk w b t cs → Blk w2 b t cs) := by
  cases oa with
  | none =>
    obtain rfl : oc = 0 := hs.nil rfl
    have z0 := hs.len
    obtain rfl : z = [] := List.eq_nil_of_length_eq_zero (by omega)
    exact ⟨w, 0, fun ty => run_copy_nil Try.prog w 22 22 ty 5 ⟨g, 0, none⟩ 160 160 Try.underlying22 (by kernel_rfl), hh, fun W k _ => k, fun b t cs _ h => h⟩
  | some x =>
    have e : (((List.replicate 160 (0 : Int)).map (Value.int .u8)).take 0 ++ (z.take 160).map (Value.int .u8) ++ ((List.replicate 160 (0 : Int)).map (Value.int .u8)).drop (0 + ((z.take 160).map (Value.int .u8)).length)) = (oamL z).map (Value.int .u8) := by
      unfold oamL spl18
      rw [List.length_map, List.map_append, List.map_append, ← List.map_take, ← List.map_drop]
    refine ⟨w.setRow g ((oamL z).map (Value.int .u8)).toArray, ((((z.take 160).map (Value.int .u8)).length : Nat) : Int), fun ty => ?_, ?_, fun W k hW => ?_, fun b t cs hne h => (setRow_other w g b _ hne).trans h⟩
    · have := run_copy_row Try.prog w 22 22 ty 5 g 0 160 160 x z.length oc _ 5 ((z.take 160).map (Value.int .u8)) Try.underlying22 (by kernel_rfl) hh (by rw [List.length_map, List.length_take]; exact Nat.min_comm _ _) (fun j v hv => row_news10 hs.row j v (by
        rw [List.getElem?_map, List.getElem?_take] at hv
        split at hv
        · rw [List.getElem?_map]; exact hv
        · cases hv)) (by rw [List.length_map, List.length_take, List.size_toArray, List.length_map, List.length_replicate]; omega) (fun v hv => by obtain ⟨q, _, rfl⟩ := List.mem_map.1 hv; rfl)
      rw [List.toList_toArray, e] at this
      exact this
    · exact setRow_heap w g _ _ _ _ hh
    · exact ⟨k.os, k.output, by simpa using k.size, fun i hi => (setRow_other w g i _ (by omega)).trans (k.block i hi)⟩
end Go.Proofs.Ytecgpdjgbdobbab
