/- Shades as a text: the program's and the document's. Rows of bytes in a block of their own; the memory of the examples. The examples at the head of layer 18's laws. Layer 18's laws of windows, lines, texts and shades. Layer 18's law of scrolled lines. Pictures: the program's and the document's. Layer 18's law of pictures. -/
import Derived.Test.YtecgpdjgbdobbaaG01
import Derived.Test.YtecgpdjgbdobbaaG31
import Derived.Test.YtecgpdjgbdobbaaG11
import Derived.BigQuiet
import Derived.Laws.CopyOwn
import Derived.Deep.RegionHeld3
namespace Go.Proofs.Ytecgpdjgbdobbaa
open Go.RowKit Go.Shelf
set_option linter.unusedVariables false
set_option linter.unusedSimpArgs false

theorem conv_own18 {w : World} {base : Nat} {v : Value} {L : List Int} (o : w.ownsRow base 5 1 v L.length (L.map (Value.int .u8))) : (convert 22 9 v).run Try.prog w = .ok (.string (strB L)) w := by
  rcases id o.2 with ⟨e, hl⟩ | ⟨g, cap, cur, e1, _⟩
  · obtain rfl := List.eq_nil_of_length_eq_zero hl
    rw [e]
    kernel_rfl
  · rw [e1]
    refine conv_cells w ⟨g, 0, none⟩ cap L (fun j u hu => ?_)
    exact o.cells (by rw [e1]; rfl) j u hu
def digI (s : Int) : Int := 48 + s % 4
def digL (z : List Int) : List Int := z.map digI
theorem dig_in (z : List Int) : ∀ x ∈ digL z, InByte x := by
  intro x hx
  obtain ⟨i, _, rfl⟩ := List.mem_map.1 hx
  unfold digI
  exact ⟨by show 0 ≤ 48 + i % 4; omega, by show 48 + i % 4 ≤ 255; omega⟩
theorem dig_next (z : List Int) {j : Nat} (h : j < z.length) : digL (z.take (j + 1)) = digL (z.take j) ++ [digI (z.getD j 0)] := by
  unfold digL
  rw [List.take_add_one, List.map_append, List.getD_eq_getElem?_getD, List.getElem?_eq_getElem h]
  rfl
theorem cells18 {z : List Int} (h : ∀ x ∈ z, InByte x) : z.map (Value.int .u8) = Lib.byteCells (z.map (fun n => UInt8.ofNat n.toNat)) := by
  unfold Lib.byteCells
  rw [List.map_map]
  refine List.map_congr_left fun x hx => ?_
  obtain ⟨a, b⟩ := h x hx
  have e : ((UInt8.ofNat x.toNat).toNat : Int) = x := by
    rw [UInt8.toNat_ofNat']
    omega
  show Value.int .u8 x = Value.int .u8 ((UInt8.ofNat x.toNat).toNat : Int)
  rw [e]
theorem Kept.under {W w u : World} (k : Kept W w) (h : Below W.heap.size w u) : Kept W u := ⟨h.os.trans k.os, h.output.trans k.output, Nat.le_trans k.size h.size, fun i hi => (h.block i hi).trans (k.block i hi)⟩
theorem to_raw18 {P : Program} (w : World) {src dst t e : TypeId} {j : TypeInfo} {cells : Nat} (a : Addr) (hs : P.underlying src = some (.pointer t)) (hd : P.underlying dst = some .unsafePointer) (ht : P.info? t = some j) (hj : j.size ≠ 0)
    (hsh : w.shape? a.block = some (e, cells)) (hoff : a.off < cells) : (convert src dst (.pointer (some a))).run P w = .ok (.pointer (some a)) w := by
  simp [convert, run_underlying hs, run_underlying hd, Conv.unsafePointer, Conv.seenAt, viewAt, cellsIn, hsh, sizeOf, typeInfo, ht, hj]
  omega
theorem from_raw18 {P : Program} (w : World) {src dst u e : TypeId} {j : TypeInfo} {cells : Nat} (a : Addr) (hs : P.underlying src = some .unsafePointer) (hd : P.underlying dst = some (.pointer u)) (hu : P.info? u = some j)
    (hsh : w.shape? a.block = some (e, cells)) (hlies : liesAt P P.depth e (cells / P.cellsOf e) a.off u 1 = true) : (convert src dst (.pointer (some a))).run P w = .ok (.pointer (some a)) w := by
  simp [convert, run_underlying hs, run_underlying hd, Conv.unsafePointer, Conv.seenAt, viewAt, hsh, variablesAt, hlies, sizeOf, typeInfo, hu]
set_option maxRecDepth 100000 in
set_option maxHeartbeats 4000000 in
theorem pchk18u (b : Nat) (w : World) (h0 : w.cell? ⟨b, 0, none⟩ = some (.pointer (some ⟨b, 0, none⟩))) :
    Calls Try.prog 46 #[.pointer (some ⟨b, 0, none⟩)] w fun e w' => e = .returned (.tuple #[]) ∧ w' = w := by
  have hs : (Try.prog.info? 51).map (·.size) = some 2 := by kernel_rfl
  obtain ⟨j, hj, hjs⟩ := Option.map_eq_some_iff.1 hs
  have NE : ∀ u : World, (binOp .neq 49 (.pointer (some ⟨b, 0, none⟩)) (.pointer (some ⟨b, 0, none⟩))).run Try.prog u = .ok (.bool false) u := fun u => Lib.run_neq_ptr_same u ⟨b, 0, none⟩ Try.underlying49 hj
  clear hj hjs hs
  go_enter Try.func46, Try.ntmps46
  go_wp2
  go_end0
  exact ⟨rfl, rfl⟩
set_option maxRecDepth 100000 in
set_option maxHeartbeats 4000000 in
theorem pchk18f (b : Nat) (w : World) (h0 : w.cell? ⟨b, 0, none⟩ = some (.pointer none)) (hsh : w.shape? b = some (51, 2)) (hfz : w.frozen? ⟨b, 0, none⟩ = false) :
    Calls Try.prog 46 #[.pointer (some ⟨b, 0, none⟩)] w fun e w' => e = .returned (.tuple #[]) ∧ w' = w.setCell ⟨b, 0, none⟩ (.pointer (some ⟨b, 0, none⟩)) := by
  have hs : (Try.prog.info? 51).map (·.size) = some 2 := by kernel_rfl
  have hl : liesAt Try.prog Try.prog.depth 51 (2 / Try.prog.cellsOf 51) 0 51 1 = true := by kernel_rfl
  obtain ⟨j, hj, hjs⟩ := Option.map_eq_some_iff.1 hs
  have TU : (convert 49 88 (.pointer (some ⟨b, 0, none⟩))).run Try.prog w = .ok (.pointer (some ⟨b, 0, none⟩)) w := to_raw18 w ⟨b, 0, none⟩ Try.underlying49 Try.underlying88 hj (by rw [hjs]; decide) hsh (Nat.zero_lt_succ 1)
  have FU : (convert 88 49 (.pointer (some ⟨b, 0, none⟩))).run Try.prog w = .ok (.pointer (some ⟨b, 0, none⟩)) w := from_raw18 w ⟨b, 0, none⟩ Try.underlying88 Try.underlying49 hj hsh hl
  have NU : (callFunc 64 #[.pointer (some ⟨b, 0, none⟩)]).run Try.prog w = .ok (.value (.pointer (some ⟨b, 0, none⟩))) w := by
    rw [run_callFunc_extern Try.func64 (by kernel_rfl) (by kernel_rfl) (by kernel_rfl) (e := Extern.AbiNoEscape.same) (by kernel_rfl), Lib.run_noEscape]
    rfl
  clear hj hjs hs hl
  go_enter Try.func46, Try.ntmps46
  go_wp2
  go_end0
  exact ⟨rfl, rfl⟩
theorem pchk18 (B b : Nat) (bs : List Value) (W w : World) (h : Lib.IsBuilder 51 5 B b bs w) (k : Kept W w) (hB : W.heap.size = B) :
    Calls Try.prog 46 #[.pointer (some ⟨b, 0, none⟩)] w fun e w' => e = .returned (.tuple #[]) ∧ Lib.BuilderAt 51 5 B b (.pointer (some ⟨b, 0, none⟩)) bs w' ∧ Kept W w' := by
  rcases h with h | h
  · refine (pchk18f b w h.cell0 h.shape h.frozen0).mono ?_
    rintro e w' ⟨rfl, rfl⟩
    exact ⟨rfl, h.used _, k.setCell8 (by rw [hB]; exact h.1) _ _⟩
  · refine (pchk18u b w h.cell0).mono ?_
    rintro e w' ⟨rfl, rfl⟩
    exact ⟨rfl, h, k⟩
set_option maxRecDepth 100000 in
set_option maxHeartbeats 4000000 in
theorem pwb18 (B b : Nat) (PL : List Int) (c : Int) (W w : World) (h : Lib.IsBuilder 51 5 B b (PL.map (Value.int .u8)) w) (hP : ∀ x ∈ PL, InByte x) (hc : InByte c) (hl : PL.length + 1 ≤ 140737488355328) (k : Kept W w) (hB : W.heap.size = B) :
    Calls Try.prog 28 #[.pointer (some ⟨b, 0, none⟩), .int .u8 c] w fun e w' => e = .returned .nilIface ∧ Lib.BuilderAt 51 5 B b (.pointer (some ⟨b, 0, none⟩)) ((PL ++ [c]).map (Value.int .u8)) w' ∧ Kept W w' := by
  have CK := hid (pchk18 B b _ W w h k hB)
  clear h k
  go_enter Try.func28, Try.ntmps28
  go_wp2_with fail
  refine CK.out.mono ?_
  rintro e w1 ⟨rfl, h1, k1⟩
  obtain ⟨hBb, v, hbk, hown, hne⟩ := h1
  rw [List.length_map] at hown
  have K1 := hid k1
  have O1 := hid hown
  have d1 : w1.cell? ⟨b, 1, none⟩ = some v := by rw [Lib.cell_of_heap hbk]; rfl
  have HK := hid hbk
  have HE := hid hne
  have hb2 : ∀ q, B ≤ (w1.alloc q).heap.size := fun q => by rw [World.size_alloc]; have := K1.out.size; omega
  have lt1 : b < w1.heap.size := (Array.getElem?_eq_some_iff.1 hbk).1
  clear k1 hown hbk hne CK
  go_wp2_with (at_builtin; (refine wl_append (L := PL) (owns_kept ((Kept.refl _).alloc _) O1.out) (sl_one18 w1 c hc) rfl rfl rfl rfl rfl (hb2 _) (by simp only [List.length_cons, List.length_nil]; omega) (fun v' u7 o7 g7 => ?_); have K7 := hid ((K1.out.alloc _).by g7 (fun q hq => by rw [hB]; exact (O1.out.lt q hq).1)); have B7 : u7.heap[b]? = some (.cells #[.pointer (some ⟨b, 0, none⟩), v] 51 (0, 0)) := (by rw [g7.block b (by rw [World.size_alloc]; omega) (fun e => HE.out e.symm), Lib.alloc_old w1 _ b lt1]; exact HK.out); have O7 := hid o7; have c7 : u7.cell? ⟨b, 1, none⟩ = some v := (by rw [Lib.cell_of_heap B7]; rfl); have f7 : u7.frozen? ⟨b, 1, none⟩ = false := Lib.frozen_of_heap B7 1; have H7 := hid B7; clear g7 o7 B7; refine Hid.out ?_))
  refine hid ?_
  obtain ⟨a7, p7, e7, o8⟩ := own_form18 O7.out (fun x hx => by rcases List.mem_append.1 hx with q | q; exact hP x q; rw [List.mem_singleton.1 q]; exact hc)
  subst e7
  clear o8
  go_wp2
  go_ret
  refine ⟨rfl, ?_, K7.out.setCell8 (by rw [hB]; exact hBb) _ _⟩
  exact Lib.BuilderAt.put hBb H7.out (by rw [List.length_map]; have q := O7.out; have e : (PL ++ [c]).length = PL.length + 1 := (by simp); rw [e] at q ⊢; exact q) (by decide)
set_option maxRecDepth 100000 in
set_option maxHeartbeats 4000000 in
theorem ptext18 (a : Option Addr) (cap : Nat) (z : List Int) (w : World) (hr : Row w a z) (hl : z.length ≤ 140737488355328) :
    Calls Try.prog 16 #[.slice a z.length cap] w fun e w' => e = .returned (.string (strB (digL z))) ∧ Kept w w' := by
  have FG := hid (fun q => row_get hr q)
  have HB := hid hr.2.1
  obtain ⟨n, hn⟩ : ∃ n, z.length = n := ⟨_, rfl⟩
  have HN := hid hn
  rw [hn] at hl FG ⊢
  have I0 : Hid (Lib.IsBuilder 51 5 w.heap.size w.heap.size ((digL (z.take 0)).map (Value.int .u8)) (w.alloc (.cells #[.pointer none, .slice none 0 0] 51))) := Lib.fresh_isBuilder 51 5 w
  clear hr hn
  go_enter Try.func16, Try.ntmps16
  go_wp2_with fail
  go_loopw [8] (fun s8 wr => ∃ j : Nat, j ≤ n ∧ s8 = .int .i64 (j : Int) ∧ Hid (Lib.IsBuilder 51 5 w.heap.size w.heap.size ((digL (z.take j)).map (Value.int .u8)) wr) ∧ Kept w wr) (fun s8 _ => n - (intOf s8).toNat)
  case atStart => exact ⟨0, Nat.zero_le _, rfl, I0, (Kept.refl w).alloc _⟩
  case round =>
    obtain ⟨j, hj, rfl, II, hk⟩ := hrel
    have KK := hid hk
    by_cases hlt : j < n
    · have g1 : decide ((j : Int) < (n : Int)) = true := decide_eq_true (by omega)
      have g3 : (j : Int) < (n : Int) := by omega
      obtain ⟨x, rfl, hx, hc⟩ := FG.out (by omega)
      have d0 := (hk.cell (x := x.add j) (by rw [addB]; exact hx)).trans (hc j hlt).1
      have vb := getD_in HB.out j
      have NX := hid (dig_next z (j := j) (by rw [HN.out]; exact hlt))
      have LJ : (digL (z.take j)).length = j := by unfold digL; rw [List.length_map, List.length_take, HN.out]; omega
      have PB0 : Hid (∀ x ∈ digL (z.take j), InByte x) := dig_in _
      obtain ⟨PL, hPL⟩ : ∃ l, digL (z.take j) = l := ⟨_, rfl⟩
      rw [hPL] at NX II LJ PB0
      unfold digI at NX
      obtain ⟨s, hs⟩ : ∃ s, z.getD j 0 = s := ⟨_, rfl⟩
      rw [hs] at d0 vb NX
      obtain ⟨v0, v1⟩ := vb
      have a3 := and3_17 s v0 v1
      have e1 : IntKind.u8.wrap (48 + s % 4) = 48 + s % 4 := by rw [IntKind.wrap_u8]; omega
      have e2 : IntKind.i64.wrap ((j : Int) + 1) = (j : Int) + 1 := by rw [IntKind.wrap_i64]; omega
      have WB := hid (pwb18 w.heap.size w.heap.size PL (48 + s % 4) w wr II.out PB0.out ⟨by omega, by omega⟩ (by omega) hk rfl)
      clear hPL hs LJ hc hk
      go_wp2_with fail
      refine WB.out.mono ?_
      rintro e u1 ⟨rfl, i1, b1⟩
      have K1 := hid b1
      have I1 : Hid (Lib.IsBuilder 51 5 w.heap.size w.heap.size ((digL (z.take (j + 1))).map (Value.int .u8)) u1) := by rw [NX.out]; exact Or.inr i1
      clear i1 b1
      go_wp2_with fail
      go_roundw
      case rel => exact ⟨j + 1, by omega, by first | go_num | rfl, I1, K1.out⟩
      case measure => first | omega | (simp; omega) | (simp [intOf]; omega)
    · have je : j = n := by omega
      subst je
      have g1 : decide ((j : Int) < (j : Int)) = false := decide_eq_false (by omega)
      have g3 : ¬ (j : Int) < (j : Int) := by omega
      have TK : z.take j = z := List.take_of_length_le (by rw [HN.out]; omega)
      rw [TK, cells18 (dig_in z)] at II
      have ST := hid (Any.Builder_String_any Try.lays169 Try.Builder_Extra_169 w.heap.size w.heap.size _ wr II.out hk.size)
      clear hk TK
      go_wp2_with fail
      refine ST.out.mono ?_
      rintro e u1 ⟨rfl, b1⟩
      have K1 := hid (KK.out.under b1)
      clear b1
      go_wp2
      go_ret
      exact ⟨rfl, K1.out⟩
set_option maxRecDepth 100000 in
set_option maxHeartbeats 4000000 in
theorem rtext18 (a : Option Addr) (cap : Nat) (z : List Int) (w : World) (hr : Row w a z) (hl : z.length ≤ 140737488355328) :
    Calls Try.prog 17 #[.slice a z.length cap] w fun e w' => e = .returned (.string (strB (digL z))) ∧ Kept w w' := by
  have FG := hid (fun q => row_get hr q)
  have HB := hid hr.2.1
  obtain ⟨n, hn⟩ : ∃ n, z.length = n := ⟨_, rfl⟩
  have HN := hid hn
  rw [hn] at hl FG ⊢
  clear hr hn
  go_enter Try.func17, Try.ntmps17
  go_wp2_with fail
  go_loopw [3, 4] (fun s3 s4 wr => ∃ (j m : Nat) (av : Option Addr) (cp : Nat), j ≤ n ∧ s3 = .slice av m cp ∧ s4 = .int .i64 (j : Int) ∧ Hid ((digL (z.take j)).length = m) ∧ Hid (wr.ownsRow w.heap.size 5 1 (.slice av m cp) (digL (z.take j)).length ((digL (z.take j)).map (Value.int .u8))) ∧ Kept w wr) (fun _ s4 _ => n - (intOf s4).toNat)
  case atStart => exact ⟨0, 0, none, 0, Nat.zero_le _, rfl, rfl, rfl, own_nil18 _ _, Kept.refl _⟩
  case round =>
    obtain ⟨j, m, av, cp, hj, rfl, rfl, HL, OO, hk⟩ := hrel
    have KK := hid hk
    by_cases hlt : j < n
    · have g1 : decide ((j : Int) < (n : Int)) = true := decide_eq_true (by omega)
      have g3 : (j : Int) < (n : Int) := by omega
      obtain ⟨x, rfl, hx, hc⟩ := FG.out (by omega)
      have d0 := (hk.cell (x := x.add j) (by rw [addB]; exact hx)).trans (hc j hlt).1
      have vb := getD_in HB.out j
      have NX := hid (dig_next z (j := j) (by rw [HN.out]; exact hlt))
      have LJ : (digL (z.take j)).length = j := by unfold digL; rw [List.length_map, List.length_take, HN.out]; omega
      have PB : Hid (∀ x ∈ digL (z.take j) ++ [digI (z.getD j 0)], InByte x) := by rw [← NX.out]; exact dig_in _
      obtain ⟨PL, hPL⟩ : ∃ l, digL (z.take j) = l := ⟨_, rfl⟩
      rw [hPL] at NX OO LJ HL PB
      unfold digI at NX PB
      obtain ⟨s, hs⟩ : ∃ s, z.getD j 0 = s := ⟨_, rfl⟩
      rw [hs] at d0 vb NX PB
      obtain ⟨v0, v1⟩ := vb
      have a3 : Int.tmod s 4 = s % 4 := Int.tmod_eq_emod_of_nonneg v0
      have e0 : IntKind.u8.wrap (s % 4) = s % 4 := by rw [IntKind.wrap_u8]; omega
      have e1 : IntKind.u8.wrap (48 + s % 4) = 48 + s % 4 := by rw [IntKind.wrap_u8]; omega
      have e2 : IntKind.i64.wrap ((j : Int) + 1) = (j : Int) + 1 := by rw [IntKind.wrap_i64]; omega
      have db : InByte (48 + s % 4) := ⟨by omega, by omega⟩
      have lb : PL.length + 1 ≤ 140737488355328 := by omega
      have hm := HL.out
      subst hm
      obtain ⟨d, hd⟩ : ∃ d, 48 + s % 4 = d := ⟨_, rfl⟩
      rw [hd] at e1 NX PB db
      clear hPL hs LJ HL hc hk
      have LE : Hid ((PL ++ [d]).length = PL.length + 1) := by show _ = _; simp
      have O6 := OO
      clear OO
      have hb2 : ∀ q, w.heap.size ≤ (wr.alloc q).heap.size := fun q => by rw [World.size_alloc]; have := KK.out.size; omega
      go_wp2_with (at_builtin; (refine wl_append (L := PL) (owns_kept ((Kept.refl _).alloc _) O6.out) (sl_one18 wr d db) rfl rfl rfl rfl rfl (hb2 _) (by simp only [List.length_cons, List.length_nil]; omega) (fun v' u7 o7 g7 => ?_); obtain ⟨a7, c7, e7, o8⟩ := own_form18 o7 PB.out; subst e7; have K7 := hid ((KK.out.alloc _).by g7 (fun q hq => (O6.out.lt q hq).1)); have O7 := hid o8; clear g7 o7 o8))
      go_roundw
      case rel => exact ⟨j + 1, _, a7, c7, by omega, rfl, by go_num, (show _ = _ by rw [NX.out]; simp), (by show World.ownsRow _ _ _ _ _ _ _; rw [NX.out, ← LE.out]; exact O7.out), K7.out⟩
      case measure => first | omega | (simp; omega) | (simp [intOf]; omega)
    · have je : j = n := by omega
      subst je
      have g1 : decide ((j : Int) < (j : Int)) = false := decide_eq_false (by omega)
      have g3 : ¬ (j : Int) < (j : Int) := by omega
      have TK : z.take j = z := List.take_of_length_le (by rw [HN.out]; omega)
      rw [TK] at OO
      have CV := conv_own18 OO.out
      clear hk TK OO HL
      go_wp2
      go_ret
      exact ⟨rfl, KK.out⟩
end Go.Proofs.Ytecgpdjgbdobbaa
namespace Go.Proofs.Ytecgpdjgbdobbaa
open Go.RowKit
set_option linter.unusedVariables false
set_option linter.unusedSimpArgs false

abbrev BB (w : World) (b : Nat) (L : List Int) : Prop := Blk w b 5 (L.map (Value.int .u8))
theorem bb_row {w : World} {b : Nat} {L : List Int} (h : BB w b L) (hb : ∀ x ∈ L, InByte x) (hm : L.length ≤ maxLen) : Row w (some ⟨b, 0, none⟩) L :=
  ⟨hm, hb, .inr ⟨_, rfl, blk_lt h, fun i hi => by
    rw [ownB_add, blk_cell h, List.getElem?_map, List.getElem?_eq_getElem hi, List.getD_eq_getElem?_getD, List.getElem?_eq_getElem hi]
    rfl⟩⟩
theorem set_at {L : List Value} {i : Nat} (v : Value) (h : i < L.length) : L.take i ++ [v] ++ L.drop (i + 1) = L.set i v := by
  rw [List.set_eq_take_append_cons_drop, if_pos h, List.append_assoc]; rfl
theorem make18 (N : Nat) (h : N ≤ 131072) (w : World) : (Instr.makeSlice 22 (.int .i64 (N : Int)) (.int .i64 (N : Int))).run Try.prog w = .ok (.slice (some ⟨w.heap.size, 0, none⟩) N N) (w.alloc (.cells ((List.replicate N (0 : Int)).map (Value.int .u8)).toArray 5)) := by
  obtain ⟨i0, hi, hz0, hz1, hz2⟩ := info_parts info10_u8
  have r := run_make w 22 5 i0 (.int .u8 0) Try.underlying22 hi hz0 .i64 .i64 (N : Int) (N : Int) (by omega) (by omega) (by rw [hz2]; omega) (by omega)
  rw [r, hz1, Nat.mul_one, Int.toNat_natCast]
  have e : madeCells (Value.int .u8 0).cells N = ((List.replicate N (0 : Int)).map (Value.int .u8)).toArray := by
    apply Array.toList_inj.1
    rw [show (Value.int .u8 0).cells = #[Value.int .u8 0] from rfl, toList_madeCells_one]
    simp
  rw [e]
/-- The examples' memory, j rows of its first tile laid. -/
def exZ : Nat → List Int
  | 0 => List.replicate 8192 0
  | j + 1 => (exZ j).set (2 * j) 255
theorem ex_len : ∀ j, (exZ j).length = 8192
  | 0 => List.length_replicate
  | j + 1 => by show ((exZ j).set _ _).length = _; rw [List.length_set, ex_len j]
theorem ex_in : ∀ j, ∀ x ∈ exZ j, InByte x
  | 0 => fun x hx => by rw [(List.mem_replicate.1 hx).2]; exact ⟨by decide, by decide⟩
  | j + 1 => fun x hx => by
    rcases List.mem_or_eq_of_mem_set hx with q | q
    · exact ex_in j x q
    · rw [q]; exact ⟨by decide, by decide⟩
def exV (ctl bgp : Int) (b : Nat) : Vd := ⟨ctl, 0, 0, 0, 0, bgp, 0, 0, some ⟨b, 0, none⟩, 8192, exZ 8, none, 0, []⟩
theorem exV_eq (ctl bgp : Int) (b : Nat) : vdV (exV ctl bgp b) = .agg #[.int .u8 ctl, .int .u8 0, .int .u8 0, .int .u8 0, .int .u8 0, .int .u8 bgp, .int .u8 0, .int .u8 0, .slice (some ⟨b, 0, none⟩) 8192 8192, .slice none 0 0] := by
  unfold vdV exV
  simp only [ex_len, List.length_nil]
theorem exV_in {w : World} {ctl bgp : Int} {b : Nat} (h : BB w b (exZ 8)) (c0 : 0 ≤ ctl) (c1 : ctl ≤ 255) (b0 : 0 ≤ bgp) (b1 : bgp ≤ 255) : VdIn w (exV ctl bgp b) where
  c0 := c0
  c1 := c1
  y0 := Int.le_refl 0
  y1 := by show (0 : Int) ≤ 255; decide
  x0 := Int.le_refl 0
  x1 := by show (0 : Int) ≤ 255; decide
  u0 := Int.le_refl 0
  u1 := by show (0 : Int) ≤ 255; decide
  t0 := Int.le_refl 0
  t1 := by show (0 : Int) ≤ 255; decide
  b0 := b0
  b1 := b1
  p0 := Int.le_refl 0
  p1 := by show (0 : Int) ≤ 255; decide
  q0 := Int.le_refl 0
  q1 := by show (0 : Int) ≤ 255; decide
  vs := ⟨bb_row h (ex_in 8) (by show (exZ 8).length ≤ maxLen; rw [ex_len]; simp [maxLen]), by show (exZ 8).length ≤ 8192; rw [ex_len]; omega, by show 8192 ≤ maxLen; simp [maxLen], fun e => by cases e⟩
  os := sl_nil w
  ol := by show ([] : List Int).length ≤ _; simp
set_option maxRecDepth 100000 in
set_option maxHeartbeats 4000000 in
theorem kplain18 (ctl bgp : Int) (w : World) : Calls Try.prog 18 #[.int .u8 ctl, .int .u8 bgp] w fun e w' => (∃ b, e = .returned (vdV (exV ctl bgp b)) ∧ w.heap.size ≤ b ∧ BB w' b (exZ 8)) ∧ Kept w w' := by
  obtain ⟨Z, hZ⟩ : ∃ Z, ((List.replicate 8192 (0 : Int)).map (Value.int .u8)).toArray = Z := ⟨_, rfl⟩
  have MR : ∀ u : World, (Instr.makeSlice 22 (.int .i64 8192) (.int .i64 8192)).run Try.prog u = .ok (.slice (some ⟨u.heap.size, 0, none⟩) 8192 8192) (u.alloc (.cells Z 5)) := fun u => by rw [← hZ]; exact make18 8192 (by decide) u
  have X0 : Hid (Blk ((w.alloc (.cells #[.int .u8 0, .int .u8 0, .int .u8 0, .int .u8 0, .int .u8 0, .int .u8 0, .int .u8 0, .int .u8 0, .slice none 0 0, .slice none 0 0] 24)).alloc (.cells Z 5)) w.heap.size 24 [.int .u8 0, .int .u8 0, .int .u8 0, .int .u8 0, .int .u8 0, .int .u8 0, .int .u8 0, .int .u8 0, .slice none 0 0, .slice none 0 0]) := blk_past (blk_new w _ _) _
  have X1 : Hid (BB ((w.alloc (.cells #[.int .u8 0, .int .u8 0, .int .u8 0, .int .u8 0, .int .u8 0, .int .u8 0, .int .u8 0, .int .u8 0, .slice none 0 0, .slice none 0 0] 24)).alloc (.cells Z 5)) (w.heap.size + 1) (exZ 0)) := by
    show Blk _ _ _ _
    rw [← hZ]
    have q := blk_new (w.alloc (.cells #[.int .u8 0, .int .u8 0, .int .u8 0, .int .u8 0, .int .u8 0, .int .u8 0, .int .u8 0, .int .u8 0, .slice none 0 0, .slice none 0 0] 24)) ((List.replicate 8192 (0 : Int)).map (Value.int .u8)) 5
    rw [World.size_alloc] at q
    exact q
  have KX : Hid (Kept w ((w.alloc (.cells #[.int .u8 0, .int .u8 0, .int .u8 0, .int .u8 0, .int .u8 0, .int .u8 0, .int .u8 0, .int .u8 0, .slice none 0 0, .slice none 0 0] 24)).alloc (.cells Z 5))) := ((Kept.refl w).alloc _).alloc _
  clear hZ
  go_enter Try.func18, Try.ntmps18
  go_wp2_with fail
  go_loopw [6] (fun s6 wr => ∃ j i : Nat, j ≤ 8 ∧ i = 2 * j ∧ s6 = .int .i64 (i : Int) ∧ Blk wr w.heap.size 24 [.int .u8 0, .int .u8 0, .int .u8 0, .int .u8 0, .int .u8 0, .int .u8 0, .int .u8 0, .int .u8 0, .slice none 0 0, .slice none 0 0] ∧ BB wr (w.heap.size + 1) (exZ j) ∧ Kept w wr) (fun s6 _ => 16 - (intOf s6).toNat)
  case atStart => exact ⟨0, 0, Nat.zero_le _, rfl, rfl, X0.out, X1.out, KX.out⟩
  case round =>
    obtain ⟨j, i, hj, hi, rfl, hb0, hb1, hk⟩ := hrel
    have B0 := hid hb0
    have B1 := hid hb1
    have KK := hid hk
    clear hb0 hb1 hk X0 X1 KX
    by_cases hlt : j < 8
    · have g1 : decide ((i : Int) < 16) = true := decide_eq_true (by omega)
      have g2 : (0 : Int) ≤ (i : Int) := by omega
      have g3 : (i : Int) < 8192 := by omega
      have e1 : IntKind.i64.wrap ((i : Int) + 2) = (i : Int) + 2 := by rw [IntKind.wrap_i64]; omega
      have LN : ((exZ j).map (Value.int .u8)).length = 8192 := by rw [List.length_map, ex_len]
      have NX : Hid (((exZ j).map (Value.int .u8)).take (2 * j) ++ [Value.int .u8 255] ++ ((exZ j).map (Value.int .u8)).drop (2 * j + 1) = (exZ (j + 1)).map (Value.int .u8)) := by
        show _ = _
        rw [set_at _ (by rw [LN]; omega)]
        show _ = ((exZ j).set (2 * j) 255).map _
        rw [List.map_set]
      rw [← hi] at NX
      have HL := hid LN
      have HI := hid hi
      have i14 : i ≤ 14 := by omega
      clear LN hi
      have BQ := B1.out
      have BZ := B0.out
      go_wp2_with ((with_reducible refine at_st 5 ?_); refine wl_store rfl rfl rfl rfl BQ (by kernel_rfl) rfl (by rw [HL.out]; show i + 1 ≤ 8192; omega) (fun v2 p2 => ?_); have B2 := hid (show BB v2 (w.heap.size + 1) (exZ (j + 1)) by (show Blk _ _ _ _; rw [← NX.out]; exact p2.blk)); have C2 := hid (p2.other _ _ _ (Nat.ne_of_lt (Nat.lt_succ_self _)) BZ); have K2 := hid (p2.kept _ KK.out (Nat.le_succ _)); clear p2)
      go_roundw
      case rel => exact ⟨j + 1, i + 2, by omega, by have := HI.out; omega, by first | go_num | rfl, C2.out, B2.out, K2.out⟩
      case measure => first | omega | (simp; omega) | (simp [intOf]; omega)
    · have je : j = 8 := by omega
      subst je
      subst hi
      have g1 : decide (((2 * 8 : Nat) : Int) < 16) = false := by decide
      have BZ := B0.out
      clear B0
      go_wp2_with ((with_reducible refine at_st 24 ?_); refine wl_store rfl rfl rfl rfl BZ (by kernel_rfl) rfl (Nat.le_of_ble_eq_true rfl) (fun v3 p3 => ?_); have B3 : Blk v3 w.heap.size 24 [.int .u8 ctl, .int .u8 0, .int .u8 0, .int .u8 0, .int .u8 0, .int .u8 bgp, .int .u8 0, .int .u8 0, .slice (some ⟨w.heap.size + 1, 0, none⟩) 8192 8192, .slice none 0 0] := p3.blk; have C3 := hid (p3.other _ _ _ (Nat.succ_ne_self _) B1.out); have K3 := hid (p3.kept _ KK.out (Nat.le_refl _)); clear p3)
      refine bodyPost_ret (res_cell Try.results18 rfl B3 Try.underlying24 rfl (by kernel_rfl)) rfl ⟨⟨w.heap.size + 1, ?_, Nat.le_succ _, C3.out⟩, K3.out⟩
      rw [exV_eq]
end Go.Proofs.Ytecgpdjgbdobbaa
namespace Go.Proofs.Ytecgpdjgbdobbaa
open Go.RowKit
set_option linter.unusedVariables false
set_option linter.unusedSimpArgs false

theorem ex_dot (ctl bgp : Int) (b : Nat) (y win : Int) (x : Nat) (h : bitOf ctl 1 = false) : dotL (exV ctl bgp b) y win x = dotP (exV ctl bgp b) [] (x : Int) y win := by
  unfold dotL objsP
  rw [show bitOf (exV ctl bgp b).ctl 1 = false from h, if_neg (by simp)]
set_option maxRecDepth 100000 in
theorem ex_a (b : Nat) : dotP (exV 17 228 b) [] ((0 : Nat) : Int) 0 0 = 1 := by kernel_rfl
set_option maxRecDepth 100000 in
theorem ex_b (b : Nat) : dotP (exV 17 228 b) [] ((159 : Nat) : Int) 0 0 = 1 := by kernel_rfl
set_option maxRecDepth 100000 in
theorem ex_c (b : Nat) : dotP (exV 17 27 b) [] ((80 : Nat) : Int) 143 0 = 2 := by kernel_rfl
set_option maxRecDepth 100000 in
theorem ex_d (b : Nat) : dotP (exV 16 27 b) [] ((9 : Nat) : Int) 3 7 = 0 := by kernel_rfl
theorem ex_n (b : Nat) : nxP (exV 16 27 b) 3 7 = 7 := by kernel_rfl
theorem ex_t : strB (digL [3, 4]) = ⟨#[51, 48]⟩ := by kernel_rfl
set_option maxRecDepth 100000 in
set_option maxHeartbeats 4000000 in
theorem kshown18 (w : World) : Calls Try.prog 9 #[] w fun e w' => e = .returned (.bool true) ∧ Kept w w' := by
  have P0 := hid (fun u => kplain18 17 228 u)
  have P1 := hid (fun u => kplain18 17 27 u)
  have P2 := hid (fun u => kplain18 16 27 u)
  have K0 := hid (Kept.refl w)
  go_enter Try.func9, Try.ntmps9
  go_wp2_with fail
  refine (P0.out _).mono ?_
  rintro e p0 ⟨⟨m0, rfl, z0, x0⟩, k1⟩
  have H0 := hid (K0.out.trans k1)
  have X0 := hid x0
  clear k1 x0 z0
  rw [exV_eq]
  have LI := hid (pline18 (exV 17 228 m0) 0 0 p0 (exV_in X0.out (by decide) (by decide) (by decide) (by decide)) (by decide) (by decide) (by decide) (by decide))
  rw [exV_eq] at LI
  go_wp2_with fail
  refine LI.out.mono ?_
  rintro e q0 ⟨⟨b0, rfl, z0, x0⟩, k1⟩
  have G0 := hid (H0.out.trans k1)
  have F00 := hid x0
  clear k1 x0 z0 X0 LI
  go_wp2_with fail
  refine (P1.out _).mono ?_
  rintro e p1 ⟨⟨m1, rfl, z1, x1⟩, k1⟩
  have H1 := hid (G0.out.trans k1)
  have X1 := hid x1
  have F01 := hid (blk_kept k1 F00.out)
  clear k1 x1 z1
  rw [exV_eq]
  have LI := hid (pline18 (exV 17 27 m1) 143 0 p1 (exV_in X1.out (by decide) (by decide) (by decide) (by decide)) (by decide) (by decide) (by decide) (by decide))
  rw [exV_eq] at LI
  go_wp2_with fail
  refine LI.out.mono ?_
  rintro e q1 ⟨⟨b1, rfl, z1, x1⟩, k1⟩
  have G1 := hid (H1.out.trans k1)
  have E01 := hid (blk_kept k1 F01.out)
  clear F01
  have F01 := E01
  clear E01
  have F11 := hid x1
  clear k1 x1 z1 X1 LI
  go_wp2_with fail
  refine (P2.out _).mono ?_
  rintro e p2 ⟨⟨m2, rfl, z2, x2⟩, k1⟩
  have H2 := hid (G1.out.trans k1)
  have X2 := hid x2
  have F02 := hid (blk_kept k1 F01.out)
  have F12 := hid (blk_kept k1 F11.out)
  clear k1 x2 z2
  rw [exV_eq]
  have LI := hid (pline18 (exV 16 27 m2) 3 7 p2 (exV_in X2.out (by decide) (by decide) (by decide) (by decide)) (by decide) (by decide) (by decide) (by decide))
  rw [exV_eq] at LI
  go_wp2_with fail
  refine LI.out.mono ?_
  rintro e q2 ⟨⟨b2, rfl, z2, x2⟩, k1⟩
  have G2 := hid (H2.out.trans k1)
  have E02 := hid (blk_kept k1 F02.out)
  clear F02
  have F02 := E02
  clear E02
  have E12 := hid (blk_kept k1 F12.out)
  clear F12
  have F12 := E12
  clear E12
  have F22 := hid x2
  clear k1 x2 z2 X2 LI
  have d0 : q2.cell? ⟨b0, 0, none⟩ = some (.int .u8 1) := by rw [blk_cell F02.out, cols_at _ (by decide), ex_dot _ _ _ _ _ _ (by decide), ex_a]
  have d1 : q2.cell? ⟨b0, 159, none⟩ = some (.int .u8 1) := by rw [blk_cell F02.out, cols_at _ (by decide), ex_dot _ _ _ _ _ _ (by decide), ex_b]
  have d2 : q2.cell? ⟨b1, 80, none⟩ = some (.int .u8 2) := by rw [blk_cell F12.out, cols_at _ (by decide), ex_dot _ _ _ _ _ _ (by decide), ex_c]
  have d3 : q2.cell? ⟨b2, 9, none⟩ = some (.int .u8 0) := by rw [blk_cell F22.out, cols_at _ (by decide), ex_dot _ _ _ _ _ _ (by decide), ex_d]
  have z0 := blk_lt F02.out
  have z1 := blk_lt F12.out
  have z2 := blk_lt F22.out
  rw [ex_n]
  have TX : Hid (Row (q2.alloc (.cells #[.int .u8 3, .int .u8 4] 5)) (some ⟨q2.heap.size, 0, none⟩) [3, 4]) := bb_row (L := [3, 4]) (blk_new q2 _ _) (fun x hx => by simp at hx; rcases hx with rfl | rfl <;> exact ⟨by decide, by decide⟩) (by simp [maxLen])
  have TT := hid (ptext18 (some ⟨q2.heap.size, 0, none⟩) 2 [3, 4] _ TX.out (by decide))
  rw [ex_t] at TT
  clear TX F02 F12 F22 P0 P1 P2
  go_wp2_with fail
  refine TT.out.mono ?_
  rintro e r ⟨rfl, k1⟩
  have KE := hid ((G2.out.alloc _).trans k1)
  clear k1
  go_wp2
  go_ret
  exact ⟨rfl, KE.out⟩
end Go.Proofs.Ytecgpdjgbdobbaa
namespace Go.Proofs.Ytecgpdjgbdobbaa
open Go.RowKit
set_option linter.unusedVariables false
set_option linter.unusedSimpArgs false

theorem conv_nil18 (w : World) : (convert 22 9 (.slice none 0 0)).run Try.prog w = .ok (.string (strB [])) w := by kernel_rfl
theorem conv_sl18 {w : World} {a : Option Addr} {cap : Nat} {z : List Int} (h : Sl w a cap z) : (convert 22 9 (.slice a z.length cap)).run Try.prog w = .ok (.string (strB z)) w := by
  cases a with
  | none =>
    obtain rfl : cap = 0 := h.nil rfl
    have z0 := h.len
    obtain rfl : z = [] := List.eq_nil_of_length_eq_zero (by omega)
    exact conv_nil18 w
  | some x => exact conv_cells w x cap z (row_news10 h.row)
theorem conv_line18 {w : World} {b : Nat} {t : TypeId} {v : Vd} {y win : Int} (h : Blk w b t (colsL (dotL v y win))) : (convert 22 9 (.slice (some ⟨b, 0, none⟩) 160 160)).run Try.prog w = .ok (.string (strB (lineP v y win))) w := by
  have q := conv_cells w ⟨b, 0, none⟩ 160 (lineP v y win) (fun j u hu => by rw [ownB_add, blk_cell h, cols_line]; exact hu)
  rw [line_len] at q
  exact q
theorem and3_bits : ∀ c : Fin 256, (bits .and .u8 (c.val : Int) 3 == 0) = true → bitOf (c.val : Int) 0 = false ∧ bitOf (c.val : Int) 1 = false := by decide +kernel
theorem dot_none {v : Vd} (y win : Int) (x : Nat) (h0 : bitOf v.ctl 0 = false) (h1 : bitOf v.ctl 1 = false) : dotL v y win x = 0 := by
  unfold dotL objsP
  rw [h1, if_neg (by simp)]
  unfold dotP
  rw [h0]
  rfl
set_option maxRecDepth 100000 in
set_option maxHeartbeats 4000000 in
theorem windows18 (v : Vd) (y : Int) (w : World) (hv : VdIn w v) (y0 : 0 ≤ y) (y1 : y ≤ 255) : Calls Try.prog 3 #[vdV v, .int .u8 y] w fun e w' => e = .returned (.bool true) ∧ Kept w w' := by
  have S := hid (fun u => kshown18 u)
  have A := hid (fun u k => pwin18 v y u (vdIn_kept k hv) y0 y1)
  have B := hid (fun u k => rwin18 v y u (vdIn_kept k hv) y0 y1)
  generalize winP v y = q at *
  clear hv
  obtain ⟨vn, hvn⟩ : ∃ n, v.vz.length = n := ⟨_, rfl⟩
  obtain ⟨on, hon⟩ : ∃ n, v.oz.length = n := ⟨_, rfl⟩
  have VV : vdV v = .agg #[.int .u8 v.ctl, .int .u8 v.scy, .int .u8 v.scx, .int .u8 v.wy, .int .u8 v.wx, .int .u8 v.bgp, .int .u8 v.o0, .int .u8 v.o1, .slice v.va vn v.vc, .slice v.oa on v.oc] := by unfold vdV; rw [hvn, hon]
  rw [VV] at A B ⊢
  clear hvn hon VV
  have K1 : Hid (Kept w (w.alloc (.cells #[.int .u8 v.ctl, .int .u8 v.scy, .int .u8 v.scx, .int .u8 v.wy, .int .u8 v.wx, .int .u8 v.bgp, .int .u8 v.o0, .int .u8 v.o1, .slice v.va vn v.vc, .slice v.oa on v.oc] 24))) := (Kept.refl w).alloc _
  have B1 : Hid (Blk (w.alloc (.cells #[.int .u8 v.ctl, .int .u8 v.scy, .int .u8 v.scx, .int .u8 v.wy, .int .u8 v.wx, .int .u8 v.bgp, .int .u8 v.o0, .int .u8 v.o1, .slice v.va vn v.vc, .slice v.oa on v.oc] 24)) w.heap.size 24 [.int .u8 v.ctl, .int .u8 v.scy, .int .u8 v.scx, .int .u8 v.wy, .int .u8 v.wx, .int .u8 v.bgp, .int .u8 v.o0, .int .u8 v.o1, .slice v.va vn v.vc, .slice v.oa on v.oc]) := blk_new w _ _
  go_enter Try.func3, Try.ntmps3
  obtain ⟨d0, d1, d2, d3, d4, d5, d6, d7, d8, d9⟩ := ten18 B1.out
  go_wp2_with fail
  refine (S.out _).mono ?_
  rintro e u1 ⟨rfl, k1⟩
  have K2 := hid (K1.out.trans k1)
  have B2 := hid (blk_kept k1 B1.out)
  clear k1 K1 B1 d0 d1 d2 d3 d4 d5 d6 d7 d8 d9
  obtain ⟨d0, d1, d2, d3, d4, d5, d6, d7, d8, d9⟩ := ten18 B2.out
  go_wp2_with fail
  clear d0 d1 d2 d3 d4 d5 d6 d7 d8 d9
  obtain ⟨d0, d1, d2, d3, d4, d5, d6, d7, d8, d9⟩ := ten18 B2.out
  refine wp_region_held_drew (S := (fun w' => w'.cell? ⟨w.heap.size, 0, none⟩ = some (.int .u8 v.ctl) ∧ w'.cell? ⟨w.heap.size, 1, none⟩ = some (.int .u8 v.scy) ∧ w'.cell? ⟨w.heap.size, 2, none⟩ = some (.int .u8 v.scx) ∧ w'.cell? ⟨w.heap.size, 3, none⟩ = some (.int .u8 v.wy) ∧ w'.cell? ⟨w.heap.size, 4, none⟩ = some (.int .u8 v.wx) ∧ w'.cell? ⟨w.heap.size, 5, none⟩ = some (.int .u8 v.bgp) ∧ w'.cell? ⟨w.heap.size, 6, none⟩ = some (.int .u8 v.o0) ∧ w'.cell? ⟨w.heap.size, 7, none⟩ = some (.int .u8 v.o1) ∧ w'.cell? ⟨w.heap.size, 8, none⟩ = some (.slice v.va vn v.vc) ∧ w'.cell? ⟨w.heap.size, 9, none⟩ = some (.slice v.oa on v.oc))) (by kernel_rfl) (by go_keep) (fun hHeld => ?_)
  clear d0 d1 d2 d3 d4 d5 d6 d7 d8 d9
  have K3 := hid K2.out.drew
  have B3 := hid (blk_drew B2.out)
  clear K2 B2
  obtain ⟨d0, d1, d2, d3, d4, d5, d6, d7, d8, d9⟩ := ten18 B3.out
  refine wpAnyH_take (i := 0) (v := ?_) rfl (by kernel_rfl) (by kernel_rfl) (by kernel_rfl) (fun _ _ _ h => h) (Or.inl ⟨by rfl, ?_⟩) (by assumption) ?_
  rotate_left
  · intro w hSw
    (try dsimp only at hSw)
    obtain ⟨s0, s1, s2, s3, s4, s5, s6, s7, s8, s9⟩ := hSw
    go_simp
    try with_reducible rfl
  simp only [Act.put, List.getElem_toArray, List.getElem_cons_succ, List.getElem_cons_zero, List.setIfInBounds_toArray, List.set_cons_zero, List.set_cons_succ]
  refine wpAnyH_take (i := 1) (v := ?_) rfl (by kernel_rfl) (by kernel_rfl) (by kernel_rfl) (fun _ _ _ h => h) (Or.inl ⟨by rfl, ?_⟩) (by assumption) ?_
  rotate_left
  · intro w hSw
    (try dsimp only at hSw)
    obtain ⟨s0, s1, s2, s3, s4, s5, s6, s7, s8, s9⟩ := hSw
    go_simp
    try with_reducible rfl
  simp only [Act.put, List.getElem_toArray, List.getElem_cons_succ, List.getElem_cons_zero, List.setIfInBounds_toArray, List.set_cons_zero, List.set_cons_succ]
  refine wpAnyH_take (i := 2) (v := ?_) rfl (by kernel_rfl) (by kernel_rfl) (by kernel_rfl) (fun _ _ _ h => h) (Or.inl ⟨by rfl, ?_⟩) (by assumption) ?_
  rotate_left
  · intro w hSw
    (try dsimp only at hSw)
    obtain ⟨s0, s1, s2, s3, s4, s5, s6, s7, s8, s9⟩ := hSw
    go_simp
    try with_reducible rfl
  simp only [Act.put, List.getElem_toArray, List.getElem_cons_succ, List.getElem_cons_zero, List.setIfInBounds_toArray, List.set_cons_zero, List.set_cons_succ]
  refine wpAnyH_take (i := 3) (v := ?_) rfl (by kernel_rfl) (by kernel_rfl) (by kernel_rfl) (fun _ _ _ h => h) (Or.inl ⟨by rfl, ?_⟩) (by assumption) ?_
  rotate_left
  · intro w hSw
    (try dsimp only at hSw)
    obtain ⟨s0, s1, s2, s3, s4, s5, s6, s7, s8, s9⟩ := hSw
    go_simp
    try with_reducible rfl
  simp only [Act.put, List.getElem_toArray, List.getElem_cons_succ, List.getElem_cons_zero, List.setIfInBounds_toArray, List.set_cons_zero, List.set_cons_succ]
  refine wpAnyH_take (i := 5) (v := ?_) rfl (by kernel_rfl) (by kernel_rfl) (by kernel_rfl) (fun _ _ _ h => h) (Or.inl ⟨by rfl, ?_⟩) (by assumption) ?_
  rotate_left
  · intro w hSw
    (try dsimp only at hSw)
    obtain ⟨s0, s1, s2, s3, s4, s5, s6, s7, s8, s9⟩ := hSw
    go_simp
    try with_reducible rfl
  simp only [Act.put, List.getElem_toArray, List.getElem_cons_succ, List.getElem_cons_zero, List.setIfInBounds_toArray, List.set_cons_zero, List.set_cons_succ]
  refine wpAnyH_take (i := 6) (v := ?_) rfl (by kernel_rfl) (by kernel_rfl) (by kernel_rfl) (fun _ _ _ h => h) (Or.inl ⟨by rfl, ?_⟩) (by assumption) ?_
  rotate_left
  · intro w hSw
    (try dsimp only at hSw)
    obtain ⟨s0, s1, s2, s3, s4, s5, s6, s7, s8, s9⟩ := hSw
    go_simp
    try with_reducible rfl
  simp only [Act.put, List.getElem_toArray, List.getElem_cons_succ, List.getElem_cons_zero, List.setIfInBounds_toArray, List.set_cons_zero, List.set_cons_succ]
  refine wpAnyH_ready (rs := [4]) (by kernel_rfl) (by simp) ?_
  refine AllReadyH.cons rfl (fun K hK => ?_) AllReadyH.nil
  go_simp
  refine (A.out _ K3.out).mono ?_
  rintro e u2 ⟨rfl, k1⟩
  have K4 := hid (K3.out.trans k1)
  have B4 := hid (blk_kept k1 B3.out)
  clear k1 K3 B3 d0 d1 d2 d3 d4 d5 d6 d7 d8 d9
  obtain ⟨d0, d1, d2, d3, d4, d5, d6, d7, d8, d9⟩ := ten18 B4.out
  refine hK.out _ _ (by go_keep) (fun hHeld => ?_)
  clear hK K
  try simp only [Act.put, List.getElem_toArray, List.getElem_cons_succ, List.getElem_cons_zero, List.setIfInBounds_toArray, List.set_cons_zero, List.set_cons_succ]
  refine wpAnyH_ready (rs := [7]) (by kernel_rfl) (by simp) ?_
  refine AllReadyH.cons rfl (fun K hK => ?_) AllReadyH.nil
  go_simp
  refine (B.out _ K4.out).mono ?_
  rintro e u3 ⟨rfl, k1⟩
  have K5 := hid (K4.out.trans k1)
  have B5 := hid (blk_kept k1 B4.out)
  clear k1 K4 B4 d0 d1 d2 d3 d4 d5 d6 d7 d8 d9
  obtain ⟨d0, d1, d2, d3, d4, d5, d6, d7, d8, d9⟩ := ten18 B5.out
  refine hK.out _ _ (by go_keep) (fun hHeld => ?_)
  clear hK K
  try simp only [Act.put, List.getElem_toArray, List.getElem_cons_succ, List.getElem_cons_zero, List.setIfInBounds_toArray, List.set_cons_zero, List.set_cons_succ]
  refine wpAnyH_take (i := 8) (v := ?_) rfl (by kernel_rfl) (by kernel_rfl) (by kernel_rfl) (fun _ _ _ h => h) (Or.inl ⟨by rfl, ?_⟩) (by assumption) ?_
  rotate_left
  · intro w hSw
    (try dsimp only at hSw)
    obtain ⟨s0, s1, s2, s3, s4, s5, s6, s7, s8, s9⟩ := hSw
    go_simp
    try with_reducible rfl
  simp only [Act.put, List.getElem_toArray, List.getElem_cons_succ, List.getElem_cons_zero, List.setIfInBounds_toArray, List.set_cons_zero, List.set_cons_succ]
  refine wpAnyH_take (i := 9) (v := ?_) rfl (by kernel_rfl) (by kernel_rfl) (by kernel_rfl) (fun _ _ _ h => h) (Or.inl ⟨by rfl, ?_⟩) (by assumption) ?_
  rotate_left
  · intro w hSw
    (try dsimp only at hSw)
    obtain ⟨s0, s1, s2, s3, s4, s5, s6, s7, s8, s9⟩ := hSw
    go_simp
    try with_reducible rfl
  simp only [Act.put, List.getElem_toArray, List.getElem_cons_succ, List.getElem_cons_zero, List.setIfInBounds_toArray, List.set_cons_zero, List.set_cons_succ]
  refine wpAnyH_take (i := 10) (v := ?_) rfl (by kernel_rfl) (by kernel_rfl) (by kernel_rfl) (fun _ _ _ h => h) (Or.inl ⟨by rfl, ?_⟩) (by assumption) ?_
  rotate_left
  · intro w hSw
    (try dsimp only at hSw)
    obtain ⟨s0, s1, s2, s3, s4, s5, s6, s7, s8, s9⟩ := hSw
    go_simp
    try with_reducible rfl
  simp only [Act.put, List.getElem_toArray, List.getElem_cons_succ, List.getElem_cons_zero, List.setIfInBounds_toArray, List.set_cons_zero, List.set_cons_succ]
  refine wpAnyH_done (by kernel_rfl) ?_ _
  clear hHeld
  go_wp2
  go_ret
  exact ⟨rfl, K5.out⟩
set_option maxRecDepth 100000 in
set_option maxHeartbeats 4000000 in
theorem lines18 (v : Vd) (y win : Int) (w : World) (hv : VdIn w v) (y0 : 0 ≤ y) (y1 : y ≤ 255) (w0 : 0 ≤ win) (w1 : win ≤ 255) : Calls Try.prog 4 #[vdV v, .int .u8 y, .int .u8 win] w fun e w' => e = .returned (.bool true) ∧ Kept w w' := by
  have S := hid (fun u => kshown18 u)
  have A := hid (fun u k => pline18 v y win u (vdIn_kept k hv) y0 y1 w0 w1)
  have B := hid (fun u k => rline18 v y win u (vdIn_kept k hv) y0 y1 w0 w1)
  clear hv
  obtain ⟨vn, hvn⟩ : ∃ n, v.vz.length = n := ⟨_, rfl⟩
  obtain ⟨on, hon⟩ : ∃ n, v.oz.length = n := ⟨_, rfl⟩
  have VV : vdV v = .agg #[.int .u8 v.ctl, .int .u8 v.scy, .int .u8 v.scx, .int .u8 v.wy, .int .u8 v.wx, .int .u8 v.bgp, .int .u8 v.o0, .int .u8 v.o1, .slice v.va vn v.vc, .slice v.oa on v.oc] := by unfold vdV; rw [hvn, hon]
  rw [VV] at A B ⊢
  clear hvn hon VV
  have K1 : Hid (Kept w (w.alloc (.cells #[.int .u8 v.ctl, .int .u8 v.scy, .int .u8 v.scx, .int .u8 v.wy, .int .u8 v.wx, .int .u8 v.bgp, .int .u8 v.o0, .int .u8 v.o1, .slice v.va vn v.vc, .slice v.oa on v.oc] 24))) := (Kept.refl w).alloc _
  have B1 : Hid (Blk (w.alloc (.cells #[.int .u8 v.ctl, .int .u8 v.scy, .int .u8 v.scx, .int .u8 v.wy, .int .u8 v.wx, .int .u8 v.bgp, .int .u8 v.o0, .int .u8 v.o1, .slice v.va vn v.vc, .slice v.oa on v.oc] 24)) w.heap.size 24 [.int .u8 v.ctl, .int .u8 v.scy, .int .u8 v.scx, .int .u8 v.wy, .int .u8 v.wx, .int .u8 v.bgp, .int .u8 v.o0, .int .u8 v.o1, .slice v.va vn v.vc, .slice v.oa on v.oc]) := blk_new w _ _
  go_enter Try.func4, Try.ntmps4
  obtain ⟨d0, d1, d2, d3, d4, d5, d6, d7, d8, d9⟩ := ten18 B1.out
  go_wp2_with fail
  refine (S.out _).mono ?_
  rintro e u1 ⟨rfl, k1⟩
  have K2 := hid (K1.out.trans k1)
  have B2 := hid (blk_kept k1 B1.out)
  clear k1 K1 B1 d0 d1 d2 d3 d4 d5 d6 d7 d8 d9
  obtain ⟨d0, d1, d2, d3, d4, d5, d6, d7, d8, d9⟩ := ten18 B2.out
  go_wp2_with fail
  refine (A.out _ K2.out).mono ?_
  rintro e u2 ⟨⟨b, rfl, z2, x2⟩, k1⟩
  have X2 := hid x2
  clear x2 z2
  have K3 := hid (K2.out.trans k1)
  have B3 := hid (blk_kept k1 B2.out)
  clear k1 K2 B2 d0 d1 d2 d3 d4 d5 d6 d7 d8 d9
  obtain ⟨d0, d1, d2, d3, d4, d5, d6, d7, d8, d9⟩ := ten18 B3.out
  go_wp2_with fail
  refine (B.out _ K3.out).mono ?_
  rintro e u3 ⟨⟨a, cap, rfl, n3, s3⟩, k1⟩
  have K4 := hid (K3.out.trans k1)
  have CA := conv_line18 (blk_kept k1 X2.out)
  have CB := conv_sl18 s3
  rw [line_len] at CB
  clear k1 s3 n3 X2 K3 B3 d0 d1 d2 d3 d4 d5 d6 d7 d8 d9
  generalize strB (lineP v y win) = sv at *
  generalize nxP v y win = nv at *
  go_wp2
  go_ret
  exact ⟨rfl, K4.out⟩
set_option maxRecDepth 100000 in
set_option maxHeartbeats 4000000 in
theorem texts18 (a : Option Addr) (cap : Nat) (z : List Int) (w : World) (hr : Row w a z) (hl : z.length ≤ 140737488355328) : Calls Try.prog 6 #[.slice a z.length cap] w fun e w' => e = .returned (.bool true) ∧ Kept w w' := by
  have S := hid (fun u => kshown18 u)
  have A := hid (fun u k => ptext18 a cap z u (row_kept k hr) hl)
  have B := hid (fun u k => rtext18 a cap z u (row_kept k hr) hl)
  clear hr
  generalize strB (digL z) = sv at *
  generalize z.length = n at *
  go_enter Try.func6, Try.ntmps6
  go_wp2_with fail
  refine (S.out _).mono ?_
  rintro e u1 ⟨rfl, k1⟩
  have K1 := hid k1
  clear k1
  go_wp2_with fail
  refine (A.out _ K1.out).mono ?_
  rintro e u2 ⟨rfl, k2⟩
  have K2 := hid (K1.out.trans k2)
  clear k2
  go_wp2_with fail
  refine (B.out _ K2.out).mono ?_
  rintro e u3 ⟨rfl, k3⟩
  have K3 := hid (K2.out.trans k3)
  clear k3
  go_wp2
  go_ret
  exact ⟨rfl, K3.out⟩
set_option maxRecDepth 100000 in
set_option maxHeartbeats 4000000 in
theorem shades18 (v : Vd) (y win : Int) (w : World) (hv : VdIn w v) (y0 : 0 ≤ y) (y1 : y ≤ 255) (w0 : 0 ≤ win) (w1 : win ≤ 255) : Calls Try.prog 7 #[vdV v, .int .u8 y, .int .u8 win] w fun e w' => e = .returned (.bool true) ∧ Kept w w' := by
  have S := hid (fun u => kshown18 u)
  have A := hid (fun u k => pline18 v y win u (vdIn_kept k hv) y0 y1 w0 w1)
  have WI := hid (fun u k => pwin18 v y u (vdIn_kept k hv) y0 y1)
  have NO : Hid ((bits .and .u8 v.ctl 3 == 0) = true → ∀ x, dotL v y win x = 0) := fun q x => by
    have c0 := hv.c0
    have c1 := hv.c1
    have e := fin8 (p := fun c => (bits .and .u8 c 3 == 0) = true → bitOf c 0 = false ∧ bitOf c 1 = false) and3_bits v.ctl c0 c1 q
    exact dot_none y win x e.1 e.2
  have ew : IntKind.u8.wrap (win + 1) = (win + 1) % 256 := by rw [IntKind.wrap_u8]
  clear hv
  obtain ⟨vn, hvn⟩ : ∃ n, v.vz.length = n := ⟨_, rfl⟩
  obtain ⟨on, hon⟩ : ∃ n, v.oz.length = n := ⟨_, rfl⟩
  have VV : vdV v = .agg #[.int .u8 v.ctl, .int .u8 v.scy, .int .u8 v.scx, .int .u8 v.wy, .int .u8 v.wx, .int .u8 v.bgp, .int .u8 v.o0, .int .u8 v.o1, .slice v.va vn v.vc, .slice v.oa on v.oc] := by unfold vdV; rw [hvn, hon]
  rw [VV] at A WI ⊢
  clear hvn hon VV
  have K1 : Hid (Kept w (w.alloc (.cells #[.int .u8 v.ctl, .int .u8 v.scy, .int .u8 v.scx, .int .u8 v.wy, .int .u8 v.wx, .int .u8 v.bgp, .int .u8 v.o0, .int .u8 v.o1, .slice v.va vn v.vc, .slice v.oa on v.oc] 24))) := (Kept.refl w).alloc _
  have B1 : Hid (Blk (w.alloc (.cells #[.int .u8 v.ctl, .int .u8 v.scy, .int .u8 v.scx, .int .u8 v.wy, .int .u8 v.wx, .int .u8 v.bgp, .int .u8 v.o0, .int .u8 v.o1, .slice v.va vn v.vc, .slice v.oa on v.oc] 24)) w.heap.size 24 [.int .u8 v.ctl, .int .u8 v.scy, .int .u8 v.scx, .int .u8 v.wy, .int .u8 v.wx, .int .u8 v.bgp, .int .u8 v.o0, .int .u8 v.o1, .slice v.va vn v.vc, .slice v.oa on v.oc]) := blk_new w _ _
  cases qw : winP v y
  · have NXW : nxP v y win = win := by unfold nxP; rw [qw]; rfl
    rw [qw] at WI
    rw [NXW] at A
    clear qw NXW
    go_enter Try.func7, Try.ntmps7
    obtain ⟨d0, d1, d2, d3, d4, d5, d6, d7, d8, d9⟩ := ten18 B1.out
    go_wp2_with fail
    refine (S.out _).mono ?_
    rintro e u1 ⟨rfl, k1⟩
    have K2 := hid (K1.out.trans k1)
    have B2 := hid (blk_kept k1 B1.out)
    clear k1 K1 B1 d0 d1 d2 d3 d4 d5 d6 d7 d8 d9
    obtain ⟨d0, d1, d2, d3, d4, d5, d6, d7, d8, d9⟩ := ten18 B2.out
    go_wp2_with fail
    refine (A.out _ K2.out).mono ?_
    rintro e u2 ⟨⟨b, rfl, z2, x2⟩, k1⟩
    have X2 := hid x2
    clear x2 z2
    have K3 := hid (K2.out.trans k1)
    have B3 := hid (blk_kept k1 B2.out)
    clear k1 K2 B2 d0 d1 d2 d3 d4 d5 d6 d7 d8 d9
    obtain ⟨d0, d1, d2, d3, d4, d5, d6, d7, d8, d9⟩ := ten18 B3.out
    go_wp2_with fail
    refine (WI.out _ K3.out).mono ?_
    rintro e u3 ⟨rfl, k1⟩
    have K4 := hid (K3.out.trans k1)
    have B4 := hid (blk_kept k1 B3.out)
    have X4 := hid (blk_kept k1 X2.out)
    clear k1 K3 B3 X2 d0 d1 d2 d3 d4 d5 d6 d7 d8 d9
    go_wp2_with fail
    go_loopw [11] (fun s11 wr => ∃ j : Nat, j ≤ 160 ∧ s11 = .int .i64 (j : Int) ∧ wr = u3) (fun s11 _ => 160 - (intOf s11).toNat)
    case atStart => exact ⟨0, Nat.zero_le _, rfl, rfl⟩
    case round =>
      obtain ⟨j, hj, rfl, rfl⟩ := hrel
      by_cases hlt : j < 160
      · have g1 : decide ((j : Int) < 160) = true := decide_eq_true (by omega)
        have g2 : (j : Int) < 160 := by omega
        have e1 : IntKind.i64.wrap ((j : Int) + 1) = (j : Int) + 1 := by rw [IntKind.wrap_i64]; omega
        have db := dot_bd v (objsP v y) (j : Int) y win
        have dc : wr.cell? ⟨b, j, none⟩ = some (.int .u8 (dotL v y win j)) := (blk_cell X4.out j).trans (cols_at _ hlt)
        have DZ := hid (fun q => NO.out q j)
        change 0 ≤ dotL v y win j ∧ dotL v y win j ≤ 3 at db
        obtain ⟨d, hd⟩ : ∃ d, dotL v y win j = d := ⟨_, rfl⟩
        rw [hd] at db dc DZ
        obtain ⟨dl, dh⟩ := db
        have g3 : ¬ (3 : Int) < d := by omega
        have g4 : decide ((3 : Int) < d) = false := decide_eq_false g3
        have cc : wr.cell? ⟨w.heap.size, 0, none⟩ = some (.int .u8 v.ctl) := blk_cell B4.out 0
        clear hd
        by_cases hz : (bits .and .u8 v.ctl 3 == 0) = true
        · have d0 : d = 0 := DZ.out hz
          subst d0
          have hz2 : bits .and .u8 v.ctl 3 = 0 := by simpa using hz
          go_wp2
          go_roundw
          case rel => exact ⟨j + 1, by omega, by first | go_num | rfl, by first | trivial | rfl⟩
          case measure => first | omega | (simp; omega) | (simp [intOf]; omega)
        · have hz2 : ¬ bits .and .u8 v.ctl 3 = 0 := by simpa using hz
          go_wp2
          go_roundw
          case rel => exact ⟨j + 1, by omega, by first | go_num | rfl, by first | trivial | rfl⟩
          case measure => first | omega | (simp; omega) | (simp [intOf]; omega)
      · have je : j = 160 := by omega
        subst je
        have g1 : decide (((160 : Nat) : Int) < 160) = false := by decide
        go_wp2
        go_ret
        exact ⟨rfl, K4.out⟩
  · have NXW : nxP v y win = (win + 1) % 256 := by unfold nxP; rw [qw]; rfl
    rw [qw] at WI
    rw [NXW] at A
    clear qw NXW
    go_enter Try.func7, Try.ntmps7
    obtain ⟨d0, d1, d2, d3, d4, d5, d6, d7, d8, d9⟩ := ten18 B1.out
    go_wp2_with fail
    refine (S.out _).mono ?_
    rintro e u1 ⟨rfl, k1⟩
    have K2 := hid (K1.out.trans k1)
    have B2 := hid (blk_kept k1 B1.out)
    clear k1 K1 B1 d0 d1 d2 d3 d4 d5 d6 d7 d8 d9
    obtain ⟨d0, d1, d2, d3, d4, d5, d6, d7, d8, d9⟩ := ten18 B2.out
    go_wp2_with fail
    refine (A.out _ K2.out).mono ?_
    rintro e u2 ⟨⟨b, rfl, z2, x2⟩, k1⟩
    have X2 := hid x2
    clear x2 z2
    have K3 := hid (K2.out.trans k1)
    have B3 := hid (blk_kept k1 B2.out)
    clear k1 K2 B2 d0 d1 d2 d3 d4 d5 d6 d7 d8 d9
    obtain ⟨d0, d1, d2, d3, d4, d5, d6, d7, d8, d9⟩ := ten18 B3.out
    go_wp2_with fail
    refine (WI.out _ K3.out).mono ?_
    rintro e u3 ⟨rfl, k1⟩
    have K4 := hid (K3.out.trans k1)
    have B4 := hid (blk_kept k1 B3.out)
    have X4 := hid (blk_kept k1 X2.out)
    clear k1 K3 B3 X2 d0 d1 d2 d3 d4 d5 d6 d7 d8 d9
    go_wp2_with fail
    go_loopw [11] (fun s11 wr => ∃ j : Nat, j ≤ 160 ∧ s11 = .int .i64 (j : Int) ∧ wr = u3) (fun s11 _ => 160 - (intOf s11).toNat)
    case atStart => exact ⟨0, Nat.zero_le _, rfl, rfl⟩
    case round =>
      obtain ⟨j, hj, rfl, rfl⟩ := hrel
      by_cases hlt : j < 160
      · have g1 : decide ((j : Int) < 160) = true := decide_eq_true (by omega)
        have g2 : (j : Int) < 160 := by omega
        have e1 : IntKind.i64.wrap ((j : Int) + 1) = (j : Int) + 1 := by rw [IntKind.wrap_i64]; omega
        have db := dot_bd v (objsP v y) (j : Int) y win
        have dc : wr.cell? ⟨b, j, none⟩ = some (.int .u8 (dotL v y win j)) := (blk_cell X4.out j).trans (cols_at _ hlt)
        have DZ := hid (fun q => NO.out q j)
        change 0 ≤ dotL v y win j ∧ dotL v y win j ≤ 3 at db
        obtain ⟨d, hd⟩ : ∃ d, dotL v y win j = d := ⟨_, rfl⟩
        rw [hd] at db dc DZ
        obtain ⟨dl, dh⟩ := db
        have g3 : ¬ (3 : Int) < d := by omega
        have g4 : decide ((3 : Int) < d) = false := decide_eq_false g3
        have cc : wr.cell? ⟨w.heap.size, 0, none⟩ = some (.int .u8 v.ctl) := blk_cell B4.out 0
        clear hd
        by_cases hz : (bits .and .u8 v.ctl 3 == 0) = true
        · have d0 : d = 0 := DZ.out hz
          subst d0
          have hz2 : bits .and .u8 v.ctl 3 = 0 := by simpa using hz
          go_wp2
          go_roundw
          case rel => exact ⟨j + 1, by omega, by first | go_num | rfl, by first | trivial | rfl⟩
          case measure => first | omega | (simp; omega) | (simp [intOf]; omega)
        · have hz2 : ¬ bits .and .u8 v.ctl 3 = 0 := by simpa using hz
          go_wp2
          go_roundw
          case rel => exact ⟨j + 1, by omega, by first | go_num | rfl, by first | trivial | rfl⟩
          case measure => first | omega | (simp; omega) | (simp [intOf]; omega)
      · have je : j = 160 := by omega
        subst je
        have g1 : decide (((160 : Nat) : Int) < 160) = false := by decide
        go_wp2
        go_ret
        exact ⟨rfl, K4.out⟩
end Go.Proofs.Ytecgpdjgbdobbaa
namespace Go.Proofs.Ytecgpdjgbdobbaa
open Go.RowKit
set_option linter.unusedVariables false
set_option linter.unusedSimpArgs false

def scC (c : Int) : Int := bits .or .u8 (bits .andNot .u8 c 34) 1
theorem sc_bits : ∀ c : Fin 256, 0 ≤ scC (c.val : Int) ∧ scC (c.val : Int) ≤ 255 ∧ bitOf (scC (c.val : Int)) 0 = true ∧ bitOf (scC (c.val : Int)) 1 = false ∧ bitOf (scC (c.val : Int)) 5 = false := by decide +kernel
theorem dot_gro {v : Vd} (h0 : bitOf v.ctl 0 = true) (h1 : bitOf v.ctl 1 = false) (h5 : bitOf v.ctl 5 = false) (y win : Int) (x : Nat) :
    dotL v y win x = shadeP v.bgp (celP v (bitOf v.ctl 3) (((x : Int) + v.scx) % 256) ((y + v.scy) % 256)) := by
  unfold dotL objsP
  rw [h1, if_neg (by simp)]
  unfold dotP groP winP
  rw [h0, h5]
  rfl
theorem scroll_x {v : Vd} (h0 : bitOf v.ctl 0 = true) (h1 : bitOf v.ctl 1 = false) (h5 : bitOf v.ctl 5 = false) (y win : Int) (x n : Nat) :
    dotL { v with scx := (v.scx + (n : Int)) % 256 } y win x = dotL v y win (x + n) := by
  rw [dot_gro h0 h1 h5, dot_gro (v := { v with scx := (v.scx + (n : Int)) % 256 }) h0 h1 h5]
  have e : ((x : Int) + (v.scx + (n : Int)) % 256) % 256 = (((x + n : Nat) : Int) + v.scx) % 256 := by omega
  show shadeP v.bgp (celP v (bitOf v.ctl 3) (((x : Int) + (v.scx + (n : Int)) % 256) % 256) ((y + v.scy) % 256)) = _
  rw [e]
theorem scroll_y {v : Vd} (h0 : bitOf v.ctl 0 = true) (h1 : bitOf v.ctl 1 = false) (h5 : bitOf v.ctl 5 = false) (y win dn : Int) :
    lineP { v with scy := (v.scy + dn) % 256 } y win = lineP v ((y + dn) % 256) win := by
  unfold lineP
  refine List.map_congr_left fun x _ => ?_
  rw [dot_gro h0 h1 h5, dot_gro (v := { v with scy := (v.scy + dn) % 256 }) h0 h1 h5]
  have e : (y + (v.scy + dn) % 256) % 256 = ((y + dn) % 256 + v.scy) % 256 := by omega
  show shadeP v.bgp (celP v (bitOf v.ctl 3) (((x : Int) + v.scx) % 256) ((y + (v.scy + dn) % 256) % 256)) = _
  rw [e]
set_option maxRecDepth 100000 in
set_option maxHeartbeats 4000000 in
theorem scrolls18 (v : Vd) (y by_ dn : Int) (w : World) (hv : VdIn w v) (y0 : 0 ≤ y) (y1 : y ≤ 255) (n0 : 0 ≤ by_) (n1 : by_ ≤ 255) (m0 : 0 ≤ dn) (m1 : dn ≤ 255) : Calls Try.prog 8 #[vdV v, .int .u8 y, .int .u8 by_, .int .u8 dn] w fun e w' => e = .returned (.bool true) ∧ Kept w w' := by
  have S := hid (fun u => kshown18 u)
  obtain ⟨n, rfl⟩ := Int.eq_ofNat_of_zero_le n0
  obtain ⟨b0, b1, c0, c1, c5⟩ := fin8 (p := fun c => 0 ≤ scC c ∧ scC c ≤ 255 ∧ bitOf (scC c) 0 = true ∧ bitOf (scC c) 1 = false ∧ bitOf (scC c) 5 = false) sc_bits v.ctl hv.c0 hv.c1
  obtain ⟨v1, hv1⟩ : ∃ q : Vd, { v with ctl := scC v.ctl } = q := ⟨_, rfl⟩
  have i1 : VdIn w v1 := by rw [← hv1]; exact { hv with c0 := b0, c1 := b1 }
  have i2 : VdIn w { v1 with scx := (v1.scx + (n : Int)) % 256 } := { i1 with x0 := by show 0 ≤ (v1.scx + (n : Int)) % 256; omega, x1 := by show (v1.scx + (n : Int)) % 256 ≤ 255; omega }
  have i3 : VdIn w { v1 with scy := (v1.scy + dn) % 256 } := { i1 with y0 := by show 0 ≤ (v1.scy + dn) % 256; omega, y1 := by show (v1.scy + dn) % 256 ≤ 255; omega }
  have A := hid (fun u k => pline18 v1 y 0 u (vdIn_kept k i1) y0 y1 (by decide) (by decide))
  have B := hid (fun u k => pline18 { v1 with scx := (v1.scx + (n : Int)) % 256 } y 0 u (vdIn_kept k i2) y0 y1 (by decide) (by decide))
  have C := hid (fun u k => pline18 { v1 with scy := (v1.scy + dn) % 256 } y 0 u (vdIn_kept k i3) y0 y1 (by decide) (by decide))
  have D := hid (fun u k => pline18 v1 ((y + dn) % 256) 0 u (vdIn_kept k i1) (by omega) (by omega) (by decide) (by decide))
  have H0 : bitOf v1.ctl 0 = true := by rw [← hv1]; exact c0
  have H1 : bitOf v1.ctl 1 = false := by rw [← hv1]; exact c1
  have H5 : bitOf v1.ctl 5 = false := by rw [← hv1]; exact c5
  have SX := hid (fun x => scroll_x H0 H1 H5 y 0 x n)
  have SY := hid (scroll_y H0 H1 H5 y 0 dn)
  have ex : IntKind.u8.wrap (v.scx + (n : Int)) = (v.scx + (n : Int)) % 256 := by rw [IntKind.wrap_u8]
  have ey : IntKind.u8.wrap (v.scy + dn) = (v.scy + dn) % 256 := by rw [IntKind.wrap_u8]
  have ed : IntKind.u8.wrap (y + dn) = (y + dn) % 256 := by rw [IntKind.wrap_u8]
  obtain ⟨vn, hvn⟩ : ∃ n, v.vz.length = n := ⟨_, rfl⟩
  obtain ⟨on, hon⟩ : ∃ n, v.oz.length = n := ⟨_, rfl⟩
  have VV : vdV v = .agg #[.int .u8 v.ctl, .int .u8 v.scy, .int .u8 v.scx, .int .u8 v.wy, .int .u8 v.wx, .int .u8 v.bgp, .int .u8 v.o0, .int .u8 v.o1, .slice v.va vn v.vc, .slice v.oa on v.oc] := by unfold vdV; rw [hvn, hon]
  have V1 : vdV v1 = .agg #[.int .u8 (bits .or .u8 (bits .andNot .u8 v.ctl 34) 1), .int .u8 v.scy, .int .u8 v.scx, .int .u8 v.wy, .int .u8 v.wx, .int .u8 v.bgp, .int .u8 v.o0, .int .u8 v.o1, .slice v.va vn v.vc, .slice v.oa on v.oc] := by rw [← hv1]; unfold vdV; simp only [hvn, hon]; rfl
  have V2 : vdV { v1 with scx := (v1.scx + (n : Int)) % 256 } = .agg #[.int .u8 (bits .or .u8 (bits .andNot .u8 v.ctl 34) 1), .int .u8 v.scy, .int .u8 ((v.scx + (n : Int)) % 256), .int .u8 v.wy, .int .u8 v.wx, .int .u8 v.bgp, .int .u8 v.o0, .int .u8 v.o1, .slice v.va vn v.vc, .slice v.oa on v.oc] := by rw [← hv1]; unfold vdV; simp only [hvn, hon]; rfl
  have V3 : vdV { v1 with scy := (v1.scy + dn) % 256 } = .agg #[.int .u8 (bits .or .u8 (bits .andNot .u8 v.ctl 34) 1), .int .u8 ((v.scy + dn) % 256), .int .u8 v.scx, .int .u8 v.wy, .int .u8 v.wx, .int .u8 v.bgp, .int .u8 v.o0, .int .u8 v.o1, .slice v.va vn v.vc, .slice v.oa on v.oc] := by rw [← hv1]; unfold vdV; simp only [hvn, hon]; rfl
  rw [V1] at A D
  rw [V2] at B
  rw [V3] at C
  rw [VV]
  clear VV V1 V2 V3 hvn hon i1 i2 i3 hv H0 H1 H5 hv1 c0 c1 c5 b0 b1
  have K1 : Hid (Kept w (w.alloc (.cells #[.int .u8 v.ctl, .int .u8 v.scy, .int .u8 v.scx, .int .u8 v.wy, .int .u8 v.wx, .int .u8 v.bgp, .int .u8 v.o0, .int .u8 v.o1, .slice v.va vn v.vc, .slice v.oa on v.oc] 24))) := (Kept.refl w).alloc _
  have B1 : Hid (Blk (w.alloc (.cells #[.int .u8 v.ctl, .int .u8 v.scy, .int .u8 v.scx, .int .u8 v.wy, .int .u8 v.wx, .int .u8 v.bgp, .int .u8 v.o0, .int .u8 v.o1, .slice v.va vn v.vc, .slice v.oa on v.oc] 24)) w.heap.size 24 [.int .u8 v.ctl, .int .u8 v.scy, .int .u8 v.scx, .int .u8 v.wy, .int .u8 v.wx, .int .u8 v.bgp, .int .u8 v.o0, .int .u8 v.o1, .slice v.va vn v.vc, .slice v.oa on v.oc]) := blk_new w _ _
  go_enter Try.func8, Try.ntmps8
  obtain ⟨d0, d1, d2, d3, d4, d5, d6, d7, d8, d9⟩ := ten18 B1.out
  go_wp2_with fail
  refine (S.out _).mono ?_
  rintro e u1 ⟨rfl, k1⟩
  have K2 := hid (K1.out.trans k1)
  have B2 := hid (blk_kept k1 B1.out)
  clear k1 K1 B1 d0 d1 d2 d3 d4 d5 d6 d7 d8 d9
  obtain ⟨d0, d1, d2, d3, d4, d5, d6, d7, d8, d9⟩ := ten18 B2.out
  have BV := B2.out
  clear B2
  go_wp2_with ((with_reducible refine at_st 5 ?_); refine wl_store rfl rfl rfl rfl BV (by kernel_rfl) rfl (Nat.le_of_ble_eq_true rfl) (fun u2 p2 => ?_); have B3 := hid (show Blk u2 w.heap.size 24 [.int .u8 (bits .or .u8 (bits .andNot .u8 v.ctl 34) 1), .int .u8 v.scy, .int .u8 v.scx, .int .u8 v.wy, .int .u8 v.wx, .int .u8 v.bgp, .int .u8 v.o0, .int .u8 v.o1, .slice v.va vn v.vc, .slice v.oa on v.oc] from p2.blk); have K3 := hid (p2.kept _ K2.out (Nat.le_refl _)); clear p2 BV; refine Hid.out ?_)
  refine hid ?_
  clear d0 d1 d2 d3 d4 d5 d6 d7 d8 d9 K2
  obtain ⟨d0, d1, d2, d3, d4, d5, d6, d7, d8, d9⟩ := ten18 B3.out
  go_wp2_with fail
  refine (A.out _ K3.out).mono ?_
  rintro e u3 ⟨⟨ba, rfl, za, xa⟩, k1⟩
  have XA3 := hid xa
  have K4 := hid (K3.out.trans k1)
  have B4 := hid (blk_kept k1 B3.out)
  clear xa za k1 K3 B3 d0 d1 d2 d3 d4 d5 d6 d7 d8 d9
  have A4 := hid ((Kept.refl u3).alloc (.cells #[.int .u8 (bits .or .u8 (bits .andNot .u8 v.ctl 34) 1), .int .u8 v.scy, .int .u8 v.scx, .int .u8 v.wy, .int .u8 v.wx, .int .u8 v.bgp, .int .u8 v.o0, .int .u8 v.o1, .slice v.va vn v.vc, .slice v.oa on v.oc] 24))
  have N4 : Hid (Blk (u3.alloc (.cells #[.int .u8 (bits .or .u8 (bits .andNot .u8 v.ctl 34) 1), .int .u8 v.scy, .int .u8 v.scx, .int .u8 v.wy, .int .u8 v.wx, .int .u8 v.bgp, .int .u8 v.o0, .int .u8 v.o1, .slice v.va vn v.vc, .slice v.oa on v.oc] 24)) u3.heap.size 24 [.int .u8 (bits .or .u8 (bits .andNot .u8 v.ctl 34) 1), .int .u8 v.scy, .int .u8 v.scx, .int .u8 v.wy, .int .u8 v.wx, .int .u8 v.bgp, .int .u8 v.o0, .int .u8 v.o1, .slice v.va vn v.vc, .slice v.oa on v.oc]) := blk_new u3 _ _
  have XA4 := hid (blk_kept A4.out XA3.out)
  have zb4 := blk_lt B4.out
  have za4 := blk_lt XA3.out
  obtain ⟨d0, d1, d2, d3, d4, d5, d6, d7, d8, d9⟩ := ten18 B4.out
  obtain ⟨f0, f1, f2, f3, f4, f5, f6, f7, f8, f9⟩ := ten18 (blk_kept A4.out B4.out)
  have NV := N4.out
  clear N4
  go_wp2_with ((with_reducible refine at_st 5 ?_); refine wl_store rfl rfl rfl rfl NV (by kernel_rfl) rfl (Nat.le_of_ble_eq_true rfl) (fun u4 p4 => ?_); have X5 := hid (show Blk u4 u3.heap.size 24 [.int .u8 (bits .or .u8 (bits .andNot .u8 v.ctl 34) 1), .int .u8 v.scy, .int .u8 ((v.scx + (n : Int)) % 256), .int .u8 v.wy, .int .u8 v.wx, .int .u8 v.bgp, .int .u8 v.o0, .int .u8 v.o1, .slice v.va vn v.vc, .slice v.oa on v.oc] from p4.blk); have K5 := hid (p4.kept _ (K4.out.trans A4.out) (by omega)); have B5 := hid (p4.other _ _ _ (by omega) (blk_kept A4.out B4.out)); have XA5 := hid (p4.other _ _ _ (by omega) XA4.out); clear p4 NV; refine Hid.out ?_)
  refine hid ?_
  clear d0 d1 d2 d3 d4 d5 d6 d7 d8 d9 f0 f1 f2 f3 f4 f5 f6 f7 f8 f9 K4 B4 A4 XA3 XA4 zb4 za4
  obtain ⟨f0, f1, f2, f3, f4, f5, f6, f7, f8, f9⟩ := ten18 X5.out
  go_wp2_with fail
  refine (B.out _ K5.out).mono ?_
  rintro e u5 ⟨⟨bb, rfl, zz, xb⟩, k1⟩
  have XB6 := hid xb
  have K6 := hid (K5.out.trans k1)
  have B6 := hid (blk_kept k1 B5.out)
  have XA6 := hid (blk_kept k1 XA5.out)
  clear xb zz k1 K5 B5 XA5 X5 f0 f1 f2 f3 f4 f5 f6 f7 f8 f9
  have A6 := hid ((Kept.refl u5).alloc (.cells #[.int .u8 (bits .or .u8 (bits .andNot .u8 v.ctl 34) 1), .int .u8 v.scy, .int .u8 v.scx, .int .u8 v.wy, .int .u8 v.wx, .int .u8 v.bgp, .int .u8 v.o0, .int .u8 v.o1, .slice v.va vn v.vc, .slice v.oa on v.oc] 24))
  have N6 : Hid (Blk (u5.alloc (.cells #[.int .u8 (bits .or .u8 (bits .andNot .u8 v.ctl 34) 1), .int .u8 v.scy, .int .u8 v.scx, .int .u8 v.wy, .int .u8 v.wx, .int .u8 v.bgp, .int .u8 v.o0, .int .u8 v.o1, .slice v.va vn v.vc, .slice v.oa on v.oc] 24)) u5.heap.size 24 [.int .u8 (bits .or .u8 (bits .andNot .u8 v.ctl 34) 1), .int .u8 v.scy, .int .u8 v.scx, .int .u8 v.wy, .int .u8 v.wx, .int .u8 v.bgp, .int .u8 v.o0, .int .u8 v.o1, .slice v.va vn v.vc, .slice v.oa on v.oc]) := blk_new u5 _ _
  have zb6 := blk_lt B6.out
  have za6 := blk_lt XA6.out
  have zc6 := blk_lt XB6.out
  have XA7 := hid (blk_kept A6.out XA6.out)
  have XB7 := hid (blk_kept A6.out XB6.out)
  obtain ⟨d0, d1, d2, d3, d4, d5, d6, d7, d8, d9⟩ := ten18 B6.out
  obtain ⟨f0, f1, f2, f3, f4, f5, f6, f7, f8, f9⟩ := ten18 (blk_kept A6.out B6.out)
  have NV := N6.out
  clear N6
  go_wp2_with ((with_reducible refine at_st 5 ?_); refine wl_store rfl rfl rfl rfl NV (by kernel_rfl) rfl (Nat.le_of_ble_eq_true rfl) (fun u6 p6 => ?_); have X8 := hid (show Blk u6 u5.heap.size 24 [.int .u8 (bits .or .u8 (bits .andNot .u8 v.ctl 34) 1), .int .u8 ((v.scy + dn) % 256), .int .u8 v.scx, .int .u8 v.wy, .int .u8 v.wx, .int .u8 v.bgp, .int .u8 v.o0, .int .u8 v.o1, .slice v.va vn v.vc, .slice v.oa on v.oc] from p6.blk); have K8 := hid (p6.kept _ (K6.out.trans A6.out) (by omega)); have B8 := hid (p6.other _ _ _ (by omega) (blk_kept A6.out B6.out)); have XA8 := hid (p6.other _ _ _ (by omega) XA7.out); have XB8 := hid (p6.other _ _ _ (by omega) XB7.out); clear p6 NV; refine Hid.out ?_)
  refine hid ?_
  clear d0 d1 d2 d3 d4 d5 d6 d7 d8 d9 f0 f1 f2 f3 f4 f5 f6 f7 f8 f9 K6 B6 A6 XA6 XB6 XA7 XB7 zb6 za6 zc6
  obtain ⟨f0, f1, f2, f3, f4, f5, f6, f7, f8, f9⟩ := ten18 X8.out
  go_wp2_with fail
  refine (C.out _ K8.out).mono ?_
  rintro e u7 ⟨⟨bc, rfl, zz, xc⟩, k1⟩
  have XC9 := hid xc
  have K9 := hid (K8.out.trans k1)
  have B9 := hid (blk_kept k1 B8.out)
  have XA9 := hid (blk_kept k1 XA8.out)
  have XB9 := hid (blk_kept k1 XB8.out)
  clear xc zz k1 K8 B8 XA8 XB8 X8 f0 f1 f2 f3 f4 f5 f6 f7 f8 f9
  obtain ⟨d0, d1, d2, d3, d4, d5, d6, d7, d8, d9⟩ := ten18 B9.out
  go_wp2_with fail
  refine (D.out _ K9.out).mono ?_
  rintro e u8 ⟨⟨bd, rfl, zz, xd⟩, k1⟩
  have XD := hid xd
  have KD := hid (K9.out.trans k1)
  have XA := hid (blk_kept k1 XA9.out)
  have XB := hid (blk_kept k1 XB9.out)
  have XC := hid (blk_kept k1 XC9.out)
  clear xd zz k1 K9 B9 XA9 XB9 XC9 d0 d1 d2 d3 d4 d5 d6 d7 d8 d9
  go_wp2_with fail
  go_loopw [20] (fun s20 wr => ∃ j : Nat, j ≤ 160 ∧ s20 = .int .i64 (j : Int) ∧ Kept u8 wr) (fun s20 _ => 160 - (intOf s20).toNat)
  case atStart => exact ⟨0, Nat.zero_le _, rfl, Kept.refl _⟩
  case round =>
    obtain ⟨j, hj, rfl, hk⟩ := hrel
    have KK := hid hk
    have zz : IntKind.i64.wrap (n : Int) = (n : Int) := by rw [IntKind.wrap_i64]; omega
    have e2 : IntKind.i64.wrap ((j : Int) + (n : Int)) = (j : Int) + (n : Int) := by rw [IntKind.wrap_i64]; omega
    by_cases hlt : j + n < 160
    · have g1 : decide ((j : Int) + (n : Int) < 160) = true := decide_eq_true (by omega)
      have g2 : (j : Int) + (n : Int) < 160 := by omega
      have g3 : (0 : Int) ≤ (j : Int) + (n : Int) := by omega
      have g4 : (j : Int) < 160 := by omega
      have ej : ((j : Int) + (n : Int)).toNat = j + n := by omega
      have e1 : IntKind.i64.wrap ((j : Int) + 1) = (j : Int) + 1 := by rw [IntKind.wrap_i64]; omega
      have cb : wr.cell? ⟨bb, j, none⟩ = some (.int .u8 (dotL v1 y 0 (j + n))) := (blk_cell (blk_kept hk XB.out) j).trans ((cols_at _ (by omega)).trans (by rw [SX.out]))
      have ca : wr.cell? ⟨ba, j + n, none⟩ = some (.int .u8 (dotL v1 y 0 (j + n))) := (blk_cell (blk_kept hk XA.out) (j + n)).trans (cols_at _ hlt)
      generalize dotL v1 y 0 (j + n) = dv at *
      clear hk
      go_wp2_with fail
      go_quiet (fail)
      go_wp2
      go_roundw
      case rel => exact ⟨j + 1, by omega, by first | go_num | rfl, KK.out.drewN⟩
      case measure => first | omega | (simp; omega) | (simp [intOf]; omega)
    · have g1 : decide ((j : Int) + (n : Int) < 160) = false := decide_eq_false (by omega)
      have g2 : ¬ (j : Int) + (n : Int) < 160 := by omega
      have CC := conv_line18 (blk_kept hk XC.out)
      have CD := conv_line18 (blk_kept hk XD.out)
      rw [SY.out] at CC
      generalize strB (lineP v1 ((y + dn) % 256) 0) = sv at *
      clear hk
      go_wp2
      go_ret
      exact ⟨rfl, KD.out.trans KK.out⟩
end Go.Proofs.Ytecgpdjgbdobbaa
namespace Go.Proofs.Ytecgpdjgbdobbaa
open Go.RowKit
set_option linter.unusedVariables false
set_option linter.unusedSimpArgs false

/-- The window's line ahead of a line. -/
def fwin (l : List Vd) : Nat → Int
  | 0 => 0
  | j + 1 => if j < l.length then nxP (l.getD j vd0) (j : Int) (fwin l j) else fwin l j
def frow (l : List Vd) (j : Nat) : List Int := if j < l.length then lineP (l.getD j vd0) (j : Int) (fwin l j) else List.replicate 160 0
def ftake (l : List Vd) : Nat → List Int
  | 0 => []
  | j + 1 => ftake l j ++ frow l j
def frameP (l : List Vd) : List Int := ftake l 144
theorem fwin_bd (l : List Vd) : ∀ j, 0 ≤ fwin l j ∧ fwin l j ≤ 255
  | 0 => ⟨Int.le_refl 0, show (0 : Int) ≤ 255 by decide⟩
  | j + 1 => by
    have h := fwin_bd l j
    show 0 ≤ (if _ then _ else _ : Int) ∧ (if _ then _ else _ : Int) ≤ 255
    split
    · exact nx_bd h.1 h.2
    · exact h
theorem fwin_yes {l : List Vd} {j : Nat} (h : j < l.length) : fwin l (j + 1) = nxP (l.getD j vd0) (j : Int) (fwin l j) := if_pos h
theorem fwin_no {l : List Vd} {j : Nat} (h : ¬ j < l.length) : fwin l (j + 1) = fwin l j := if_neg h
theorem frow_yes {l : List Vd} {j : Nat} (h : j < l.length) : frow l j = lineP (l.getD j vd0) (j : Int) (fwin l j) := if_pos h
theorem frow_no {l : List Vd} {j : Nat} (h : ¬ j < l.length) : frow l j = List.replicate 160 0 := if_neg h
theorem frow_len (l : List Vd) (j : Nat) : (frow l j).length = 160 := by
  unfold frow
  split
  · exact line_len _ _ _
  · exact List.length_replicate
theorem zeros_in (n : Nat) : ∀ x ∈ List.replicate n (0 : Int), InByte x := fun x hx => by rw [(List.mem_replicate.1 hx).2]; exact ⟨by decide, by decide⟩
theorem frow_in (l : List Vd) (j : Nat) : ∀ x ∈ frow l j, InByte x := by
  unfold frow
  split
  · exact line_in _ _ _
  · exact zeros_in _
theorem ftake_len (l : List Vd) : ∀ j, (ftake l j).length = 160 * j
  | 0 => rfl
  | j + 1 => by
    show (ftake l j ++ frow l j).length = _
    rw [List.length_append, ftake_len l j, frow_len]; omega
theorem ftake_in (l : List Vd) : ∀ j, ∀ x ∈ ftake l j, InByte x
  | 0 => fun x hx => by cases hx
  | j + 1 => fun x hx => by
    rcases List.mem_append.1 hx with q | q
    · exact ftake_in l j x q
    · exact frow_in l j x q
/-- A picture of which j lines are drawn. -/
def picL (l : List Vd) (j : Nat) : List Int := ftake l j ++ List.replicate (23040 - 160 * j) 0
theorem pic_len (l : List Vd) {j : Nat} (h : j ≤ 144) : (picL l j).length = 23040 := by
  unfold picL
  rw [List.length_append, ftake_len, List.length_replicate]; omega
theorem pic_0 (l : List Vd) : picL l 0 = List.replicate 23040 0 := rfl
theorem pic_in (l : List Vd) (j : Nat) : ∀ x ∈ picL l j, InByte x := fun x hx => by
  rcases List.mem_append.1 hx with q | q
  · exact ftake_in l j x q
  · exact zeros_in _ x q
def spl18 (L : List Int) (o : Nat) (C : List Int) : List Int := L.take o ++ C ++ L.drop (o + C.length)
theorem pic_next (l : List Vd) {j : Nat} (h : j < 144) : spl18 (picL l j) (j * 160) (frow l j) = picL l (j + 1) := by
  unfold spl18 picL
  rw [frow_len, List.take_append_of_le_length (by rw [ftake_len]; omega), List.take_of_length_le (by rw [ftake_len]; omega), List.drop_append, List.drop_of_length_le (by rw [ftake_len]; omega), List.nil_append, ftake_len, List.drop_replicate, show ftake l (j + 1) = ftake l j ++ frow l j from rfl, show 23040 - 160 * j - (j * 160 + 160 - 160 * j) = 23040 - 160 * (j + 1) by omega]
theorem ftake_past (l : List Vd) {m : Nat} (h : l.length ≤ m) : ∀ k, ftake l (m + k) = ftake l m ++ List.replicate (160 * k) 0
  | 0 => by simp
  | k + 1 => by
    show ftake l (m + k) ++ frow l (m + k) = _
    rw [ftake_past l h k, frow_no (by omega), List.append_assoc, List.replicate_append_replicate]
    congr 2
theorem pic_144 (l : List Vd) : picL l 144 = frameP l := by
  unfold picL frameP
  simp
theorem pic_end (l : List Vd) {m : Nat} (h : l.length ≤ m) (h2 : m ≤ 144) : picL l m = frameP l := by
  unfold picL frameP
  have e := ftake_past l h (144 - m)
  rw [show m + (144 - m) = 144 by omega] at e
  rw [e, show 23040 - 160 * m = 160 * (144 - m) by omega]
/-- Registers and memories lie at an address. -/
structure VAt (u : World) (y : Addr) (v : Vd) : Prop where
  c0 : u.cell? y = some (.int .u8 v.ctl)
  c1 : u.cell? ⟨y.block, y.off + 1, none⟩ = some (.int .u8 v.scy)
  c2 : u.cell? ⟨y.block, y.off + 2, none⟩ = some (.int .u8 v.scx)
  c3 : u.cell? ⟨y.block, y.off + 3, none⟩ = some (.int .u8 v.wy)
  c4 : u.cell? ⟨y.block, y.off + 4, none⟩ = some (.int .u8 v.wx)
  c5 : u.cell? ⟨y.block, y.off + 5, none⟩ = some (.int .u8 v.bgp)
  c6 : u.cell? ⟨y.block, y.off + 6, none⟩ = some (.int .u8 v.o0)
  c7 : u.cell? ⟨y.block, y.off + 7, none⟩ = some (.int .u8 v.o1)
  c8 : u.cell? ⟨y.block, y.off + 8, none⟩ = some (.slice v.va v.vz.length v.vc)
  c9 : u.cell? ⟨y.block, y.off + 9, none⟩ = some (.slice v.oa v.oz.length v.oc)
theorem vat_kept {W w : World} (k : Kept W w) {y : Addr} {v : Vd} (hy : y.block < W.heap.size) (h : VAt W y v) : VAt w y v :=
  ⟨(k.cell hy).trans h.c0, (k.cell (x := ⟨y.block, y.off + 1, none⟩) hy).trans h.c1, (k.cell (x := ⟨y.block, y.off + 2, none⟩) hy).trans h.c2, (k.cell (x := ⟨y.block, y.off + 3, none⟩) hy).trans h.c3, (k.cell (x := ⟨y.block, y.off + 4, none⟩) hy).trans h.c4, (k.cell (x := ⟨y.block, y.off + 5, none⟩) hy).trans h.c5, (k.cell (x := ⟨y.block, y.off + 6, none⟩) hy).trans h.c6, (k.cell (x := ⟨y.block, y.off + 7, none⟩) hy).trans h.c7, (k.cell (x := ⟨y.block, y.off + 8, none⟩) hy).trans h.c8, (k.cell (x := ⟨y.block, y.off + 9, none⟩) hy).trans h.c9⟩
theorem vat_at {w : World} {a : Option Addr} {L : List Vd} (h : FRow w a 10 (L.map vdC)) (hl : 0 < L.length) : ∃ x : Addr, a = some x ∧ x.block < w.heap.size ∧ ∀ j, j < L.length → VAt w (x.add (j * 10)) (L.getD j vd0) := by
  obtain ⟨x, e, hx, hc⟩ := frow_getD vd0 h hl
  have off : ∀ (j i : Nat), 0 < i → x.add (j * 10 + i) = ⟨(x.add (j * 10)).block, (x.add (j * 10)).off + i, none⟩ := fun j i hi => by rw [← addF]; unfold Addr.add; rw [if_neg (by omega)]
  refine ⟨x, e, hx, fun j hj => ⟨?_, ?_, ?_, ?_, ?_, ?_, ?_, ?_, ?_, ?_⟩⟩
  · exact (hc j hj 0 (by decide))
  · rw [← off j 1 (by decide)]; exact (hc j hj 1 (by decide))
  · rw [← off j 2 (by decide)]; exact (hc j hj 2 (by decide))
  · rw [← off j 3 (by decide)]; exact (hc j hj 3 (by decide))
  · rw [← off j 4 (by decide)]; exact (hc j hj 4 (by decide))
  · rw [← off j 5 (by decide)]; exact (hc j hj 5 (by decide))
  · rw [← off j 6 (by decide)]; exact (hc j hj 6 (by decide))
  · rw [← off j 7 (by decide)]; exact (hc j hj 7 (by decide))
  · rw [← off j 8 (by decide)]; exact (hc j hj 8 (by decide))
  · rw [← off j 9 (by decide)]; exact (hc j hj 9 (by decide))
/-- A copy into a row of bytes, out of cells that can be read. -/
theorem copyB18 {w : World} {g : Nat} {L : List Int} (hh : BB w g L) (off dLen dCap : Nat) (ad : Addr) (sCap : Nat) (C : List Int) (hl : C.length ≤ dLen) (hf : off + C.length ≤ L.length)
    (hs : ∀ j u, (C.map (Value.int .u8))[j]? = some u → w.cell? (ad.add j) = some u) (W : World) (k : Kept W w) (hW : W.heap.size ≤ g) :
    ∃ w2, (∀ ty, (Builtin.copy_ #[22, 22] ty #[.slice (some ⟨g, off, none⟩) dLen dCap, .slice (some ad) C.length sCap]).run Try.prog w = .ok (.int .i64 (C.length : Int)) w2) ∧ BB w2 g (spl18 L off C) ∧ Kept W w2 := by
  have e : ((L.map (Value.int .u8)).take off ++ C.map (Value.int .u8) ++ (L.map (Value.int .u8)).drop (off + (C.map (Value.int .u8)).length)) = (spl18 L off C).map (Value.int .u8) := by
    unfold spl18
    rw [List.length_map, List.map_append, List.map_append, List.map_take, List.map_drop]
  refine ⟨w.setRow g ((spl18 L off C).map (Value.int .u8)).toArray, fun ty => ?_, ?_, ?_⟩
  · have := run_copy_row Try.prog w 22 22 ty 5 g off dLen dCap ad C.length sCap _ 5 (C.map (Value.int .u8)) Try.underlying22 (by kernel_rfl) hh (by rw [List.length_map]; exact (Nat.min_eq_left hl).symm) hs (by simpa using hf) (fun v hv => by obtain ⟨q, _, rfl⟩ := List.mem_map.1 hv; rfl)
    rw [List.toList_toArray, e, List.length_map] at this
    exact this
  · exact setRow_heap w g _ _ _ _ hh
  · exact ⟨k.os, k.output, by simpa using k.size, fun i hi => (setRow_other w g i _ (by omega)).trans (k.block i hi)⟩
set_option maxRecDepth 100000 in
set_option maxHeartbeats 4000000 in
theorem pframe18 (l : List Vd) (a : Option Addr) (cap : Nat) (w : World) (hr : FRow w a 10 (l.map vdC)) (hq : ∀ x ∈ l, VdIn w x) (hl : l.length ≤ maxLen) :
    Calls Try.prog 14 #[.slice a l.length cap] w fun e w' => (∃ g, e = .returned (.slice (some ⟨g, 0, none⟩) 23040 23040) ∧ w.heap.size ≤ g ∧ BB w' g (frameP l)) ∧ Kept w w' := by
  obtain ⟨Z, hZ⟩ : ∃ Z, ((List.replicate 23040 (0 : Int)).map (Value.int .u8)).toArray = Z := ⟨_, rfl⟩
  have MR : ∀ u : World, (Instr.makeSlice 22 (.int .i64 23040) (.int .i64 23040)).run Try.prog u = .ok (.slice (some ⟨u.heap.size, 0, none⟩) 23040 23040) (u.alloc (.cells Z 5)) := fun u => by rw [← hZ]; exact make18 23040 (by decide) u
  have X0 : Hid (BB (w.alloc (.cells Z 5)) w.heap.size (picL l 0)) := by
    show Blk _ _ _ _
    rw [← hZ, pic_0]
    exact blk_new w _ _
  have FG := hid (fun q => vat_at hr q)
  have QI := hid hq
  obtain ⟨n, hn⟩ : ∃ n, l.length = n := ⟨_, rfl⟩
  have HN := hid hn
  have nm : n ≤ 9223372036854775807 := by rw [← hn]; exact hl
  rw [hn] at FG ⊢
  clear hr hq hn hZ hl
  by_cases hb : 144 < n
  · have g0 : (144 : Int) < (n : Int) := by omega
    have g00 : decide ((144 : Int) < (n : Int)) = true := decide_eq_true g0
    go_enter Try.func14, Try.ntmps14
    go_wp2_with fail
    go_loopw [4, 11] (fun s4 s11 wr => ∃ j : Nat, j ≤ 144 ∧ s4 = .int .u8 (fwin l j) ∧ s11 = .int .i64 (j : Int) ∧ BB wr w.heap.size (picL l j) ∧ Kept w wr) (fun _ s11 _ => 144 - (intOf s11).toNat)
    case atStart => exact ⟨0, Nat.zero_le _, rfl, rfl, X0.out, (Kept.refl w).alloc _⟩
    case round =>
      obtain ⟨j, hj, rfl, rfl, hb, hk⟩ := hrel
      have KK := hid hk
      have BQ := hid hb
      clear hb X0
      by_cases hlm : j < 144
      · have hlt : j < n := by omega
        have g1 : decide ((j : Int) < 144) = true := decide_eq_true (by omega)
        have g2 : (j : Int) < 144 := by omega
        have g3 : (j : Int) < (n : Int) := by omega
        have e1 : IntKind.i64.wrap ((j : Int) + 1) = (j : Int) + 1 := by rw [IntKind.wrap_i64]; omega
        obtain ⟨q, hq⟩ : ∃ q, j * 160 = q := ⟨_, rfl⟩
        have e2 : IntKind.i64.wrap ((j : Int) * 160) = (q : Int) := by rw [IntKind.wrap_i64]; omega
        have q1 : q + 160 ≤ 23040 := by omega
        have q2 : (q : Int) ≤ 23040 := by omega
        have q3 : (0 : Int) ≤ (q : Int) := by omega
        have q4 : ¬ 23040 = q := by omega
        have PN := hid (pic_next l (j := j) (by omega))
        have PLN := hid (pic_len l (j := j) (by omega))
        rw [hq] at PN
        clear hq
        obtain ⟨x, rfl, hx, hc⟩ := FG.out (by omega)
        have VC := vat_kept hk (by rw [addFB]; exact hx) (hc j hlt)
        have NXW := hid (fwin_yes (l := l) (j := j) (by rw [HN.out]; exact hlt))
        have FRW := hid (frow_yes (l := l) (j := j) (by rw [HN.out]; exact hlt))
        have VI := hid (vdIn_kept hk (getD_mem vd0 QI.out j (by rw [HN.out]; exact hlt)))
        have fb := fwin_bd l j
        obtain ⟨v, hv⟩ : ∃ v, l.getD j vd0 = v := ⟨_, rfl⟩
        rw [hv] at VC NXW FRW VI
        have LI := hid (pline18 v (j : Int) (fwin l j) wr VI.out (by omega) (by omega) fb.1 fb.2)
        obtain ⟨vn, hvn⟩ : ∃ n, v.vz.length = n := ⟨_, rfl⟩
        obtain ⟨on, hon⟩ : ∃ n, v.oz.length = n := ⟨_, rfl⟩
        have VV : vdV v = .agg #[.int .u8 v.ctl, .int .u8 v.scy, .int .u8 v.scx, .int .u8 v.wy, .int .u8 v.wx, .int .u8 v.bgp, .int .u8 v.o0, .int .u8 v.o1, .slice v.va vn v.vc, .slice v.oa on v.oc] := by unfold vdV; rw [hvn, hon]
        rw [VV] at LI
        obtain ⟨d0, d1, d2, d3, d4, d5, d6, d7, d8, d9⟩ := VC
        rw [hvn] at d8
        rw [hon] at d9
        have ej : IntKind.u8.wrap (j : Int) = (j : Int) := by rw [IntKind.wrap_u8]; omega
        clear hv hvn hon VV hc VI fb
        go_wp2_with fail
        refine LI.out.mono ?_
        rintro e u1 ⟨⟨b, rfl, zb, xb⟩, k1⟩
        have HS : Hid (∀ j' u, ((frow l j).map (Value.int .u8))[j']? = some u → u1.cell? ((⟨b, 0, none⟩ : Addr).add j') = some u) := fun j' u hu => by
          rw [FRW.out] at hu
          rw [ownB_add, blk_cell xb, cols_line]; exact hu
        obtain ⟨u2, hrun, b2, k2⟩ := copyB18 (blk_kept k1 BQ.out) q (23040 - q) (23040 - q) ⟨b, 0, none⟩ 160 (frow l j) (by rw [frow_len]; omega) (by rw [frow_len, PLN.out]; omega) HS.out w (KK.out.trans k1) (Nat.le_refl _)
        rw [frow_len] at hrun
        rw [PN.out] at b2
        have B2 := hid b2
        have K2 := hid k2
        clear k1 xb zb b2 k2 HS d0 d1 d2 d3 d4 d5 d6 d7 d8 d9
        go_wp2_with fail
        go_roundw
        case rel => exact ⟨j + 1, by omega, by rw [NXW.out], by first | go_num | rfl, B2.out, K2.out⟩
        case measure => first | omega | (simp; omega) | (simp [intOf]; omega)
      · have je : j = 144 := by omega
        subst je
        have g1 : decide (((144 : Nat) : Int) < 144) = false := by decide
        have BE := hid (show BB wr w.heap.size (frameP l) by have z := BQ.out; rw [pic_144] at z; exact z)
        go_wp2_with fail
        go_ret
        exact ⟨⟨w.heap.size, rfl, Nat.le_refl _, BE.out⟩, KK.out⟩
  · have g0 : ¬ (144 : Int) < (n : Int) := by omega
    have g00 : decide ((144 : Int) < (n : Int)) = false := decide_eq_false g0
    have n144 : n ≤ 144 := by omega
    go_enter Try.func14, Try.ntmps14
    go_wp2_with fail
    go_loopw [4, 11] (fun s4 s11 wr => ∃ j : Nat, j ≤ n ∧ s4 = .int .u8 (fwin l j) ∧ s11 = .int .i64 (j : Int) ∧ BB wr w.heap.size (picL l j) ∧ Kept w wr) (fun _ s11 _ => n - (intOf s11).toNat)
    case atStart => exact ⟨0, Nat.zero_le _, rfl, rfl, X0.out, (Kept.refl w).alloc _⟩
    case round =>
      obtain ⟨j, hj, rfl, rfl, hb, hk⟩ := hrel
      have KK := hid hk
      have BQ := hid hb
      clear hb X0
      by_cases hlm : j < n
      · have hlt : j < n := by omega
        have g1 : decide ((j : Int) < n) = true := decide_eq_true (by omega)
        have g2 : (j : Int) < n := by omega
        have g3 : (j : Int) < (n : Int) := by omega
        have e1 : IntKind.i64.wrap ((j : Int) + 1) = (j : Int) + 1 := by rw [IntKind.wrap_i64]; omega
        obtain ⟨q, hq⟩ : ∃ q, j * 160 = q := ⟨_, rfl⟩
        have e2 : IntKind.i64.wrap ((j : Int) * 160) = (q : Int) := by rw [IntKind.wrap_i64]; omega
        have q1 : q + 160 ≤ 23040 := by omega
        have q2 : (q : Int) ≤ 23040 := by omega
        have q3 : (0 : Int) ≤ (q : Int) := by omega
        have q4 : ¬ 23040 = q := by omega
        have PN := hid (pic_next l (j := j) (by omega))
        have PLN := hid (pic_len l (j := j) (by omega))
        rw [hq] at PN
        clear hq
        obtain ⟨x, rfl, hx, hc⟩ := FG.out (by omega)
        have VC := vat_kept hk (by rw [addFB]; exact hx) (hc j hlt)
        have NXW := hid (fwin_yes (l := l) (j := j) (by rw [HN.out]; exact hlt))
        have FRW := hid (frow_yes (l := l) (j := j) (by rw [HN.out]; exact hlt))
        have VI := hid (vdIn_kept hk (getD_mem vd0 QI.out j (by rw [HN.out]; exact hlt)))
        have fb := fwin_bd l j
        obtain ⟨v, hv⟩ : ∃ v, l.getD j vd0 = v := ⟨_, rfl⟩
        rw [hv] at VC NXW FRW VI
        have LI := hid (pline18 v (j : Int) (fwin l j) wr VI.out (by omega) (by omega) fb.1 fb.2)
        obtain ⟨vn, hvn⟩ : ∃ n, v.vz.length = n := ⟨_, rfl⟩
        obtain ⟨on, hon⟩ : ∃ n, v.oz.length = n := ⟨_, rfl⟩
        have VV : vdV v = .agg #[.int .u8 v.ctl, .int .u8 v.scy, .int .u8 v.scx, .int .u8 v.wy, .int .u8 v.wx, .int .u8 v.bgp, .int .u8 v.o0, .int .u8 v.o1, .slice v.va vn v.vc, .slice v.oa on v.oc] := by unfold vdV; rw [hvn, hon]
        rw [VV] at LI
        obtain ⟨d0, d1, d2, d3, d4, d5, d6, d7, d8, d9⟩ := VC
        rw [hvn] at d8
        rw [hon] at d9
        have ej : IntKind.u8.wrap (j : Int) = (j : Int) := by rw [IntKind.wrap_u8]; omega
        clear hv hvn hon VV hc VI fb
        go_wp2_with fail
        refine LI.out.mono ?_
        rintro e u1 ⟨⟨b, rfl, zb, xb⟩, k1⟩
        have HS : Hid (∀ j' u, ((frow l j).map (Value.int .u8))[j']? = some u → u1.cell? ((⟨b, 0, none⟩ : Addr).add j') = some u) := fun j' u hu => by
          rw [FRW.out] at hu
          rw [ownB_add, blk_cell xb, cols_line]; exact hu
        obtain ⟨u2, hrun, b2, k2⟩ := copyB18 (blk_kept k1 BQ.out) q (23040 - q) (23040 - q) ⟨b, 0, none⟩ 160 (frow l j) (by rw [frow_len]; omega) (by rw [frow_len, PLN.out]; omega) HS.out w (KK.out.trans k1) (Nat.le_refl _)
        rw [frow_len] at hrun
        rw [PN.out] at b2
        have B2 := hid b2
        have K2 := hid k2
        clear k1 xb zb b2 k2 HS d0 d1 d2 d3 d4 d5 d6 d7 d8 d9
        go_wp2_with fail
        go_roundw
        case rel => exact ⟨j + 1, by omega, by rw [NXW.out], by first | go_num | rfl, B2.out, K2.out⟩
        case measure => first | omega | (simp; omega) | (simp [intOf]; omega)
      · have je : j = n := by omega
        subst je
        have g1 : decide ((j : Int) < (j : Int)) = false := by simp
        have BE := hid (show BB wr w.heap.size (frameP l) by have z := BQ.out; rw [pic_end l (by rw [HN.out]; omega) (by omega)] at z; exact z)
        go_wp2_with fail
        go_ret
        exact ⟨⟨w.heap.size, rfl, Nat.le_refl _, BE.out⟩, KK.out⟩
set_option maxRecDepth 100000 in
set_option maxHeartbeats 4000000 in
theorem rframe18 (l : List Vd) (a : Option Addr) (cap : Nat) (w : World) (hr : FRow w a 10 (l.map vdC)) (hq : ∀ x ∈ l, VdIn w x) (hl : l.length ≤ maxLen) :
    Calls Try.prog 15 #[.slice a l.length cap] w fun e w' => (∃ a2 cap2, e = .returned (.slice a2 23040 cap2) ∧ Sl w' a2 cap2 (frameP l)) ∧ Kept w w' := by
  obtain ⟨Z, hZ⟩ : ∃ Z, ((List.replicate 160 (0 : Int)).map (Value.int .u8)).toArray = Z := ⟨_, rfl⟩
  have MR : ∀ u : World, (Instr.makeSlice 22 (.int .i64 160) (.int .i64 160)).run Try.prog u = .ok (.slice (some ⟨u.heap.size, 0, none⟩) 160 160) (u.alloc (.cells Z 5)) := fun u => by rw [← hZ]; exact make18 160 (by decide) u
  have MS : Hid (∀ u : World, Sl (u.alloc (.cells Z 5)) (some ⟨u.heap.size, 0, none⟩) 160 (List.replicate 160 0)) := fun u => by
    rw [← hZ]
    exact ⟨bb_row (blk_new u _ _) (zeros_in _) (by simp [maxLen]), by simp, by simp [maxLen], fun e => by cases e⟩
  have FG := hid (fun q => vat_at hr q)
  have QI := hid hq
  obtain ⟨n, hn⟩ : ∃ n, l.length = n := ⟨_, rfl⟩
  have HN := hid hn
  have nm : n ≤ 9223372036854775807 := by rw [← hn]; exact hl
  rw [hn] at FG ⊢
  clear hr hq hn hZ hl
  go_enter Try.func15, Try.ntmps15
  go_wp2_with fail
  go_loopw [3, 4, 5] (fun s3 s4 s5 wr => ∃ (j m : Nat) (av : Option Addr) (cp : Nat), j ≤ 144 ∧ s3 = .slice av m cp ∧ s4 = .int .u8 (fwin l j) ∧ s5 = .int .i64 (j : Int) ∧ Hid ((ftake l j).length = m) ∧ Hid (wr.ownsRow w.heap.size 5 1 (.slice av m cp) (ftake l j).length ((ftake l j).map (Value.int .u8))) ∧ Kept w wr) (fun _ _ s5 _ => 144 - (intOf s5).toNat)
  case atStart => exact ⟨0, 0, none, 0, Nat.zero_le _, rfl, rfl, rfl, rfl, own_nil18 _ _, Kept.refl _⟩
  case round =>
    obtain ⟨j, m, av, cp, hj, rfl, rfl, rfl, HL, OO, hk⟩ := hrel
    have KK := hid hk
    by_cases hlm : j < 144
    · have g1 : decide ((j : Int) < 144) = true := decide_eq_true (by omega)
      have g2 : (j : Int) < 144 := by omega
      have e1 : IntKind.i64.wrap ((j : Int) + 1) = (j : Int) + 1 := by rw [IntKind.wrap_i64]; omega
      have LJ := ftake_len l j
      have PB : Hid (∀ x ∈ ftake l j ++ frow l j, InByte x) := ftake_in l (j + 1)
      obtain ⟨PL, hPL0⟩ : ∃ p, ftake l j = p := ⟨_, rfl⟩
      have hPL := hid hPL0
      rw [hPL0] at OO LJ HL PB
      have lb : PL.length ≤ 23040 := by omega
      have LE : Hid ((PL ++ frow l j).length = PL.length + 160) := by show _ = _; rw [List.length_append, frow_len]
      have hm := HL.out
      subst hm
      clear hPL0 LJ HL
      have AZ := hid ((Kept.refl wr).alloc (.cells Z 5))
      by_cases hlt : j < n
      · have g3 : (j : Int) < (n : Int) := by omega
        have g4 : decide ((j : Int) < (n : Int)) = true := decide_eq_true g3
        have hkz := hk.alloc (.cells Z 5)
        obtain ⟨x, rfl, hx, hc⟩ := FG.out (by omega)
        have VC := vat_kept hkz (by rw [addFB]; exact hx) (hc j hlt)
        have NXW := hid (fwin_yes (l := l) (j := j) (by rw [HN.out]; exact hlt))
        have FRW := hid (frow_yes (l := l) (j := j) (by rw [HN.out]; exact hlt))
        have VI := hid (vdIn_kept hkz (getD_mem vd0 QI.out j (by rw [HN.out]; exact hlt)))
        have fb := fwin_bd l j
        obtain ⟨v, hv⟩ : ∃ v, l.getD j vd0 = v := ⟨_, rfl⟩
        rw [hv] at VC NXW FRW VI
        have LI := hid (rline18 v (j : Int) (fwin l j) (wr.alloc (.cells Z 5)) VI.out (by omega) (by omega) fb.1 fb.2)
        obtain ⟨vn, hvn⟩ : ∃ n, v.vz.length = n := ⟨_, rfl⟩
        obtain ⟨on, hon⟩ : ∃ n, v.oz.length = n := ⟨_, rfl⟩
        have VV : vdV v = .agg #[.int .u8 v.ctl, .int .u8 v.scy, .int .u8 v.scx, .int .u8 v.wy, .int .u8 v.wx, .int .u8 v.bgp, .int .u8 v.o0, .int .u8 v.o1, .slice v.va vn v.vc, .slice v.oa on v.oc] := by unfold vdV; rw [hvn, hon]
        rw [VV] at LI
        obtain ⟨d0, d1, d2, d3, d4, d5, d6, d7, d8, d9⟩ := VC
        rw [hvn] at d8
        rw [hon] at d9
        have ej : IntKind.u8.wrap (j : Int) = (j : Int) := by rw [IntKind.wrap_u8]; omega
        clear hv hvn hon VV hc VI fb
        rw [FRW.out] at LE PB
        clear hk hkz
        go_wp2_with fail
        refine LI.out.mono ?_
        rintro e u1 ⟨⟨a1, c1, rfl, n1, s1⟩, k1⟩
        have K6 := hid ((KK.out.trans AZ.out).trans k1)
        have O6 := hid (owns_kept (AZ.out.trans k1) OO.out)
        have S1 := hid s1
        have FL := hid (line_len v (j : Int) (fwin l j))
        clear k1 s1 n1 OO AZ KK d0 d1 d2 d3 d4 d5 d6 d7 d8 d9
        have hb2 : ∀ q, w.heap.size ≤ (u1.alloc q).heap.size := fun q => by rw [World.size_alloc]; have := K6.out.size; omega
        have hb3 : w.heap.size ≤ u1.heap.size := K6.out.size
        go_wp2_with (at_builtin; (refine wl_append (L := PL) (z := lineP v (j : Int) (fwin l j)) O6.out S1.out rfl rfl rfl rfl FL.out.symm hb3 (by have := FL.out; omega) (fun v' u7 o7 g7 => ?_); obtain ⟨a7, c7, e7, o8⟩ := own_form18 o7 PB.out; subst e7; have K7 := hid (K6.out.by g7 (fun q hq => (O6.out.lt q hq).1)); have O7 := hid o8; clear g7 o7 o8))
        go_roundw
        case rel => exact ⟨j + 1, _, a7, c7, by omega, rfl, by rw [NXW.out], by go_num, (show _ = _ by show (ftake l j ++ frow l j).length = _; rw [hPL.out, FRW.out]; rw [List.length_append, FL.out]), (by show World.ownsRow _ _ _ _ _ ((ftake l j ++ frow l j).length) ((ftake l j ++ frow l j).map _); rw [hPL.out, FRW.out]; have q := O7.out; rw [LE.out] at q ⊢; exact q), K7.out⟩
        case measure => first | omega | (simp; omega) | (simp [intOf]; omega)
      · have g3 : ¬ (j : Int) < (n : Int) := by omega
        have g4 : decide ((j : Int) < (n : Int)) = false := decide_eq_false g3
        have NXW := hid (fwin_no (l := l) (j := j) (by rw [HN.out]; exact hlt))
        have FRW := hid (frow_no (l := l) (j := j) (by rw [HN.out]; exact hlt))
        rw [FRW.out] at LE PB
        have K6 := hid (KK.out.trans AZ.out)
        have O6 := hid (owns_kept AZ.out OO.out)
        clear hk OO AZ KK
        have hb2 : ∀ q, w.heap.size ≤ ((wr.alloc (.cells Z 5)).alloc q).heap.size := fun q => by rw [World.size_alloc]; have := K6.out.size; omega
        have hb3 : w.heap.size ≤ (wr.alloc (.cells Z 5)).heap.size := K6.out.size
        go_wp2_with (at_builtin; (refine wl_append (L := PL) (z := List.replicate 160 0) O6.out (MS.out wr) rfl rfl rfl rfl (by rw [List.length_replicate]) hb3 (by rw [List.length_replicate]; omega) (fun v' u7 o7 g7 => ?_); obtain ⟨a7, c7, e7, o8⟩ := own_form18 o7 PB.out; subst e7; have K7 := hid (K6.out.by g7 (fun q hq => (O6.out.lt q hq).1)); have O7 := hid o8; clear g7 o7 o8))
        go_roundw
        case rel => exact ⟨j + 1, _, a7, c7, by omega, rfl, by rw [NXW.out], by go_num, (show _ = _ by show (ftake l j ++ frow l j).length = _; rw [hPL.out, FRW.out]; rw [List.length_append, List.length_replicate]), (by show World.ownsRow _ _ _ _ _ ((ftake l j ++ frow l j).length) ((ftake l j ++ frow l j).map _); rw [hPL.out, FRW.out]; have q := O7.out; rw [LE.out] at q ⊢; exact q), K7.out⟩
        case measure => first | omega | (simp; omega) | (simp [intOf]; omega)
    · have je : j = 144 := by omega
      subst je
      have g1 : decide (((144 : Nat) : Int) < 144) = false := by decide
      have h9 := HL.out
      rw [ftake_len] at h9
      subst h9
      obtain ⟨a9, c9, e9, s9, w9⟩ := own_sl OO.out (ftake_in l 144)
      rw [ftake_len] at e9
      cases e9
      have S9 := hid s9
      clear s9 w9 OO HL hk
      go_wp2_with fail
      go_ret
      exact ⟨⟨av, cp, rfl, S9.out⟩, KK.out⟩
end Go.Proofs.Ytecgpdjgbdobbaa
namespace Go.Proofs.Ytecgpdjgbdobbaa
open Go.RowKit
set_option linter.unusedVariables false
set_option linter.unusedSimpArgs false

theorem frame_len (l : List Vd) : (frameP l).length = 23040 := ftake_len l 144
theorem conv_frame18 {w : World} {g : Nat} {l : List Vd} (h : BB w g (frameP l)) : (convert 22 9 (.slice (some ⟨g, 0, none⟩) 23040 23040)).run Try.prog w = .ok (.string (strB (frameP l))) w := by
  have q := conv_cells w ⟨g, 0, none⟩ 23040 (frameP l) (fun j u hu => by rw [ownB_add, blk_cell h]; exact hu)
  rw [frame_len] at q
  exact q
set_option maxRecDepth 100000 in
set_option maxHeartbeats 4000000 in
theorem frames18 (a : Option Addr) (cap : Nat) (l : List Vd) (w : World) (hr : FRow w a 10 (l.map vdC)) (hq : ∀ x ∈ l, VdIn w x) (hl : l.length ≤ cap) (hm : cap ≤ maxLen) (hn : a = none → cap = 0) :
    Calls Try.prog 5 #[.slice a l.length cap] w fun e w' => e = .returned (.bool true) ∧ Kept w w' := by
  have S := hid (fun u => kshown18 u)
  have A := hid (fun u k => pframe18 l a cap u (frow_kept k hr) (fun x hx => vdIn_kept k (hq x hx)) (Nat.le_trans hl hm))
  have B := hid (fun u k => rframe18 l a cap u (frow_kept k hr) (fun x hx => vdIn_kept k (hq x hx)) (Nat.le_trans hl hm))
  obtain ⟨sv, hs⟩ : ∃ q, strB (frameP l) = q := ⟨_, rfl⟩
  have SV := hid hs
  generalize l.length = n at *
  clear hr hq hl hm hn hs
  go_enter Try.func5, Try.ntmps5
  go_wp2_with fail
  refine (S.out _).mono ?_
  rintro e u1 ⟨rfl, k1⟩
  have K1 := hid k1
  clear k1
  go_wp2_with fail
  refine wp_region_held_drew (S := (fun _ => True)) (by kernel_rfl) trivial (fun hHeld => ?_)
  refine wpAnyH_take (i := 0) (v := ?_) rfl (by kernel_rfl) (by kernel_rfl) (by kernel_rfl) (fun _ _ _ h => h) (Or.inl ⟨by rfl, ?_⟩) (by assumption) ?_
  rotate_left
  · intro w hSw
    (try dsimp only at hSw)
    go_simp
    try with_reducible rfl
  simp only [Act.put, List.getElem_toArray, List.getElem_cons_succ, List.getElem_cons_zero, List.setIfInBounds_toArray, List.set_cons_zero, List.set_cons_succ]
  refine wpAnyH_take (i := 1) (v := ?_) rfl (by kernel_rfl) (by kernel_rfl) (by kernel_rfl) (fun _ _ _ h => h) (Or.inl ⟨by rfl, ?_⟩) (by assumption) ?_
  rotate_left
  · intro w hSw
    (try dsimp only at hSw)
    go_simp
    try with_reducible rfl
  simp only [Act.put, List.getElem_toArray, List.getElem_cons_succ, List.getElem_cons_zero, List.setIfInBounds_toArray, List.set_cons_zero, List.set_cons_succ]
  refine wpAnyH_take (i := 2) (v := ?_) rfl (by kernel_rfl) (by kernel_rfl) (by kernel_rfl) (fun _ _ _ h => h) (Or.inl ⟨by rfl, ?_⟩) (by assumption) ?_
  rotate_left
  · intro w hSw
    (try dsimp only at hSw)
    go_simp
    try with_reducible rfl
  simp only [Act.put, List.getElem_toArray, List.getElem_cons_succ, List.getElem_cons_zero, List.setIfInBounds_toArray, List.set_cons_zero, List.set_cons_succ]
  refine wpAnyH_take (i := 5) (v := ?_) rfl (by kernel_rfl) (by kernel_rfl) (by kernel_rfl) (fun _ _ _ h => h) (Or.inl ⟨by rfl, ?_⟩) (by assumption) ?_
  rotate_left
  · intro w hSw
    (try dsimp only at hSw)
    go_simp
    try with_reducible rfl
  simp only [Act.put, List.getElem_toArray, List.getElem_cons_succ, List.getElem_cons_zero, List.setIfInBounds_toArray, List.set_cons_zero, List.set_cons_succ]
  refine wpAnyH_ready (rs := [3]) (by kernel_rfl) (by simp) ?_
  refine AllReadyH.cons rfl (fun K hK => ?_) AllReadyH.nil
  go_simp
  refine (A.out _ K1.out.drew).mono ?_
  rintro e u2 ⟨⟨g, rfl, z2, x2⟩, k1⟩
  have K3 := hid (K1.out.drew.trans k1)
  have X2 := hid x2
  have CA := conv_frame18 x2
  rw [SV.out] at CA
  clear k1 x2 z2 K1
  refine hK.out _ _ trivial (fun hHeld => ?_)
  clear hK K
  try simp only [Act.put, List.getElem_toArray, List.getElem_cons_succ, List.getElem_cons_zero, List.setIfInBounds_toArray, List.set_cons_zero, List.set_cons_succ]
  refine wpAnyH_ready (rs := [4, 6]) (by kernel_rfl) (by simp) ?_
  refine AllReadyH.cons rfl (fun K hK => ?_) (AllReadyH.cons rfl (fun K hK => ?_) AllReadyH.nil)
  · go_simp
    refine hK.out _ _ trivial (fun hHeld => ?_)
    clear hK K
    try simp only [Act.put, List.getElem_toArray, List.getElem_cons_succ, List.getElem_cons_zero, List.setIfInBounds_toArray, List.set_cons_zero, List.set_cons_succ]
    refine wpAnyH_ready (rs := [6]) (by kernel_rfl) (by simp) ?_
    refine AllReadyH.cons rfl (fun K hK => ?_) AllReadyH.nil
    go_simp
    refine (B.out _ K3.out).mono ?_
    rintro e u3 ⟨⟨a2, c2, rfl, s3⟩, k1⟩
    have K4 := hid (K3.out.trans k1)
    have CB := conv_sl18 s3
    rw [frame_len] at CB
    have CA2 := conv_frame18 (blk_kept k1 X2.out)
    rw [SV.out] at CB CA2
    clear k1 s3
    refine hK.out _ _ trivial (fun hHeld => ?_)
    clear hK K
    try simp only [Act.put, List.getElem_toArray, List.getElem_cons_succ, List.getElem_cons_zero, List.setIfInBounds_toArray, List.set_cons_zero, List.set_cons_succ]
    refine wpAnyH_ready (rs := [7]) (by kernel_rfl) (by simp) ?_
    refine AllReadyH.cons rfl (fun K hK => ?_) AllReadyH.nil
    go_simp
    refine hK.out _ _ trivial (fun hHeld => ?_)
    clear hK K
    try simp only [Act.put, List.getElem_toArray, List.getElem_cons_succ, List.getElem_cons_zero, List.setIfInBounds_toArray, List.set_cons_zero, List.set_cons_succ]
    refine wpAnyH_take (i := 8) (v := ?_) rfl (by kernel_rfl) (by kernel_rfl) (by kernel_rfl) (fun _ _ _ h => h) (Or.inl ⟨by rfl, ?_⟩) (by assumption) ?_
    rotate_left
    · intro w hSw
      (try dsimp only at hSw)
      go_simp
      try with_reducible rfl
    simp only [Act.put, List.getElem_toArray, List.getElem_cons_succ, List.getElem_cons_zero, List.setIfInBounds_toArray, List.set_cons_zero, List.set_cons_succ]
    refine wpAnyH_take (i := 9) (v := ?_) rfl (by kernel_rfl) (by kernel_rfl) (by kernel_rfl) (fun _ _ _ h => h) (Or.inl ⟨by rfl, ?_⟩) (by assumption) ?_
    rotate_left
    · intro w hSw
      (try dsimp only at hSw)
      go_simp
      try with_reducible rfl
    simp only [Act.put, List.getElem_toArray, List.getElem_cons_succ, List.getElem_cons_zero, List.setIfInBounds_toArray, List.set_cons_zero, List.set_cons_succ]
    refine wpAnyH_take (i := 10) (v := ?_) rfl (by kernel_rfl) (by kernel_rfl) (by kernel_rfl) (fun _ _ _ h => h) (Or.inl ⟨by rfl, ?_⟩) (by assumption) ?_
    rotate_left
    · intro w hSw
      (try dsimp only at hSw)
      go_simp
      try with_reducible rfl
    simp only [Act.put, List.getElem_toArray, List.getElem_cons_succ, List.getElem_cons_zero, List.setIfInBounds_toArray, List.set_cons_zero, List.set_cons_succ]
    refine wpAnyH_done (by kernel_rfl) ?_ _
    clear hHeld
    go_wp2
    go_ret
    exact ⟨rfl, K4.out⟩
  · go_simp
    refine (B.out _ K3.out).mono ?_
    rintro e u3 ⟨⟨a2, c2, rfl, s3⟩, k1⟩
    have K4 := hid (K3.out.trans k1)
    have CB := conv_sl18 s3
    rw [frame_len] at CB
    have CA2 := conv_frame18 (blk_kept k1 X2.out)
    rw [SV.out] at CB CA2
    clear k1 s3
    refine hK.out _ _ trivial (fun hHeld => ?_)
    clear hK K
    try simp only [Act.put, List.getElem_toArray, List.getElem_cons_succ, List.getElem_cons_zero, List.setIfInBounds_toArray, List.set_cons_zero, List.set_cons_succ]
    refine wpAnyH_ready (rs := [4, 7]) (by kernel_rfl) (by simp) ?_
    refine AllReadyH.cons rfl (fun K hK => ?_) (AllReadyH.cons rfl (fun K hK => ?_) AllReadyH.nil)
    · go_simp
      refine hK.out _ _ trivial (fun hHeld => ?_)
      clear hK K
      try simp only [Act.put, List.getElem_toArray, List.getElem_cons_succ, List.getElem_cons_zero, List.setIfInBounds_toArray, List.set_cons_zero, List.set_cons_succ]
      refine wpAnyH_ready (rs := [7]) (by kernel_rfl) (by simp) ?_
      refine AllReadyH.cons rfl (fun K hK => ?_) AllReadyH.nil
      go_simp
      refine hK.out _ _ trivial (fun hHeld => ?_)
      clear hK K
      try simp only [Act.put, List.getElem_toArray, List.getElem_cons_succ, List.getElem_cons_zero, List.setIfInBounds_toArray, List.set_cons_zero, List.set_cons_succ]
      refine wpAnyH_take (i := 8) (v := ?_) rfl (by kernel_rfl) (by kernel_rfl) (by kernel_rfl) (fun _ _ _ h => h) (Or.inl ⟨by rfl, ?_⟩) (by assumption) ?_
      rotate_left
      · intro w hSw
        (try dsimp only at hSw)
        go_simp
        try with_reducible rfl
      simp only [Act.put, List.getElem_toArray, List.getElem_cons_succ, List.getElem_cons_zero, List.setIfInBounds_toArray, List.set_cons_zero, List.set_cons_succ]
      refine wpAnyH_take (i := 9) (v := ?_) rfl (by kernel_rfl) (by kernel_rfl) (by kernel_rfl) (fun _ _ _ h => h) (Or.inl ⟨by rfl, ?_⟩) (by assumption) ?_
      rotate_left
      · intro w hSw
        (try dsimp only at hSw)
        go_simp
        try with_reducible rfl
      simp only [Act.put, List.getElem_toArray, List.getElem_cons_succ, List.getElem_cons_zero, List.setIfInBounds_toArray, List.set_cons_zero, List.set_cons_succ]
      refine wpAnyH_take (i := 10) (v := ?_) rfl (by kernel_rfl) (by kernel_rfl) (by kernel_rfl) (fun _ _ _ h => h) (Or.inl ⟨by rfl, ?_⟩) (by assumption) ?_
      rotate_left
      · intro w hSw
        (try dsimp only at hSw)
        go_simp
        try with_reducible rfl
      simp only [Act.put, List.getElem_toArray, List.getElem_cons_succ, List.getElem_cons_zero, List.setIfInBounds_toArray, List.set_cons_zero, List.set_cons_succ]
      refine wpAnyH_done (by kernel_rfl) ?_ _
      clear hHeld
      go_wp2
      go_ret
      exact ⟨rfl, K4.out⟩
    · go_simp
      refine hK.out _ _ trivial (fun hHeld => ?_)
      clear hK K
      try simp only [Act.put, List.getElem_toArray, List.getElem_cons_succ, List.getElem_cons_zero, List.setIfInBounds_toArray, List.set_cons_zero, List.set_cons_succ]
      refine wpAnyH_ready (rs := [4]) (by kernel_rfl) (by simp) ?_
      refine AllReadyH.cons rfl (fun K hK => ?_) AllReadyH.nil
      go_simp
      refine hK.out _ _ trivial (fun hHeld => ?_)
      clear hK K
      try simp only [Act.put, List.getElem_toArray, List.getElem_cons_succ, List.getElem_cons_zero, List.setIfInBounds_toArray, List.set_cons_zero, List.set_cons_succ]
      refine wpAnyH_take (i := 8) (v := ?_) rfl (by kernel_rfl) (by kernel_rfl) (by kernel_rfl) (fun _ _ _ h => h) (Or.inl ⟨by rfl, ?_⟩) (by assumption) ?_
      rotate_left
      · intro w hSw
        (try dsimp only at hSw)
        go_simp
        try with_reducible rfl
      simp only [Act.put, List.getElem_toArray, List.getElem_cons_succ, List.getElem_cons_zero, List.setIfInBounds_toArray, List.set_cons_zero, List.set_cons_succ]
      refine wpAnyH_take (i := 9) (v := ?_) rfl (by kernel_rfl) (by kernel_rfl) (by kernel_rfl) (fun _ _ _ h => h) (Or.inl ⟨by rfl, ?_⟩) (by assumption) ?_
      rotate_left
      · intro w hSw
        (try dsimp only at hSw)
        go_simp
        try with_reducible rfl
      simp only [Act.put, List.getElem_toArray, List.getElem_cons_succ, List.getElem_cons_zero, List.setIfInBounds_toArray, List.set_cons_zero, List.set_cons_succ]
      refine wpAnyH_take (i := 10) (v := ?_) rfl (by kernel_rfl) (by kernel_rfl) (by kernel_rfl) (fun _ _ _ h => h) (Or.inl ⟨by rfl, ?_⟩) (by assumption) ?_
      rotate_left
      · intro w hSw
        (try dsimp only at hSw)
        go_simp
        try with_reducible rfl
      simp only [Act.put, List.getElem_toArray, List.getElem_cons_succ, List.getElem_cons_zero, List.setIfInBounds_toArray, List.set_cons_zero, List.set_cons_succ]
      refine wpAnyH_done (by kernel_rfl) ?_ _
      clear hHeld
      go_wp2
      go_ret
      exact ⟨rfl, K4.out⟩
end Go.Proofs.Ytecgpdjgbdobbaa
