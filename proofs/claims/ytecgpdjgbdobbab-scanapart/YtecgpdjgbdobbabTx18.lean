/- Shades as a text: the program's and the document's. -/
import Derived.Test.YtecgpdjgbdobbabLib18
import Derived.Test.YtecgpdjgbdobbabRs18c
import Derived.Test.YtecgpdjgbdobbabConv7
namespace Go.Proofs.Ytecgpdjgbdobbab
open Go.RowKit Go.Shelf
set_option linter.unusedVariables false
set_option linter.unusedSimpArgs false

theorem conv_own18 {w : World} {base : Nat} {v : Value} {L : List Int} (o : w.ownsRow base 5 1 v L.length (L.map (Value.int .u8))) : (convert 22 9 v).run Try.prog w = .ok (.string (strB L)) w := by
  rcases id o.2 with ⟨e, hl⟩ | ⟨g, cap, cur, e1, _⟩
  · obtain rfl := List.eq_nil_of_length_eq_zero hl
    rw [e]
    kernel_rfl
  · rw [e1]
    refine conv_cells w ⟨g, 0, none⟩ cap L (fun j u hu => ?_)
    exact o.cells (by rw [e1]; rfl) j u hu
def digI (s : Int) : Int := 48 + s % 4
def digL (z : List Int) : List Int := z.map digI
theorem dig_in (z : List Int) : ∀ x ∈ digL z, InByte x := by
  intro x hx
  obtain ⟨i, _, rfl⟩ := List.mem_map.1 hx
  unfold digI
  exact ⟨by show 0 ≤ 48 + i % 4; omega, by show 48 + i % 4 ≤ 255; omega⟩
theorem dig_next (z : List Int) {j : Nat} (h : j < z.length) : digL (z.take (j + 1)) = digL (z.take j) ++ [digI (z.getD j 0)] := by
  unfold digL
  rw [List.take_add_one, List.map_append, List.getD_eq_getElem?_getD, List.getElem?_eq_getElem h]
  rfl
theorem cells18 {z : List Int} (h : ∀ x ∈ z, InByte x) : z.map (Value.int .u8) = Lib.byteCells (z.map (fun n => UInt8.ofNat n.toNat)) := by
  unfold Lib.byteCells
  rw [List.map_map]
  refine List.map_congr_left fun x hx => ?_
  obtain ⟨a, b⟩ := h x hx
  have e : ((UInt8.ofNat x.toNat).toNat : Int) = x := by
    rw [UInt8.toNat_ofNat']
    omega
  show Value.int .u8 x = Value.int .u8 ((UInt8.ofNat x.toNat).toNat : Int)
  rw [e]
theorem Kept.under {W w u : World} (k : Kept W w) (h : Below W.heap.size w u) : Kept W u := ⟨h.os.trans k.os, h.output.trans k.output, Nat.le_trans k.size h.size, fun i hi => (h.block i hi).trans (k.block i hi)⟩
theorem to_raw18 {P : Program} (w : World) {src dst t e : TypeId} {j : TypeInfo} {cells : Nat} (a : Addr) (hs : P.underlying src = some (.pointer t)) (hd : P.underlying dst = some .unsafePointer) (ht : P.info? t = some j) (hj : j.size ≠ 0)
    (hsh : w.shape? a.block = some (e, cells)) (hoff : a.off < cells) : (convert src dst (.pointer (some a))).run P w = .ok (.pointer (some a)) w := by
  simp [convert, run_underlying hs, run_underlying hd, Conv.unsafePointer, Conv.seenAt, viewAt, cellsIn, hsh, sizeOf, typeInfo, ht, hj]
  omega
theorem from_raw18 {P : Program} (w : World) {src dst u e : TypeId} {j : TypeInfo} {cells : Nat} (a : Addr) (hs : P.underlying src = some .unsafePointer) (hd : P.underlying dst = some (.pointer u)) (hu : P.info? u = some j)
    (hsh : w.shape? a.block = some (e, cells)) (hlies : liesAt P P.depth e (cells / P.cellsOf e) a.off u 1 = true) : (convert src dst (.pointer (some a))).run P w = .ok (.pointer (some a)) w := by
  simp [convert, run_underlying hs, run_underlying hd, Conv.unsafePointer, Conv.seenAt, viewAt, hsh, variablesAt, hlies, sizeOf, typeInfo, hu]
set_option maxRecDepth 100000 in
set_option maxHeartbeats 4000000 in
theorem pchk18u (b : Nat) (w : World) (h0 : w.cell? ⟨b, 0, none⟩ = some (.pointer (some ⟨b, 0, none⟩))) :
    Calls Try.prog 25 #[.pointer (some ⟨b, 0, none⟩)] w fun e w' => e = .returned (.tuple #[]) ∧ w' = w := by
  have hs : (Try.prog.info? 41).map (·.size) = some 2 := by kernel_rfl
  obtain ⟨j, hj, hjs⟩ := Option.map_eq_some_iff.1 hs
  have NE : ∀ u : World, (binOp .neq 39 (.pointer (some ⟨b, 0, none⟩)) (.pointer (some ⟨b, 0, none⟩))).run Try.prog u = .ok (.bool false) u := fun u => Lib.run_neq_ptr_same u ⟨b, 0, none⟩ Try.underlying39 hj
  clear hj hjs hs
  go_enter Try.func25, Try.ntmps25
  go_wp2
  go_end0
  exact ⟨rfl, rfl⟩
set_option maxRecDepth 100000 in
set_option maxHeartbeats 4000000 in
theorem pchk18f (b : Nat) (w : World) (h0 : w.cell? ⟨b, 0, none⟩ = some (.pointer none)) (hsh : w.shape? b = some (41, 2)) (hfz : w.frozen? ⟨b, 0, none⟩ = false) :
    Calls Try.prog 25 #[.pointer (some ⟨b, 0, none⟩)] w fun e w' => e = .returned (.tuple #[]) ∧ w' = w.setCell ⟨b, 0, none⟩ (.pointer (some ⟨b, 0, none⟩)) := by
  have hs : (Try.prog.info? 41).map (·.size) = some 2 := by kernel_rfl
  have hl : liesAt Try.prog Try.prog.depth 41 (2 / Try.prog.cellsOf 41) 0 41 1 = true := by kernel_rfl
  obtain ⟨j, hj, hjs⟩ := Option.map_eq_some_iff.1 hs
  have TU : (convert 39 72 (.pointer (some ⟨b, 0, none⟩))).run Try.prog w = .ok (.pointer (some ⟨b, 0, none⟩)) w := to_raw18 w ⟨b, 0, none⟩ Try.underlying39 Try.underlying72 hj (by rw [hjs]; decide) hsh (Nat.zero_lt_succ 1)
  have FU : (convert 72 39 (.pointer (some ⟨b, 0, none⟩))).run Try.prog w = .ok (.pointer (some ⟨b, 0, none⟩)) w := from_raw18 w ⟨b, 0, none⟩ Try.underlying72 Try.underlying39 hj hsh hl
  have NU : (callFunc 34 #[.pointer (some ⟨b, 0, none⟩)]).run Try.prog w = .ok (.value (.pointer (some ⟨b, 0, none⟩))) w := by
    rw [run_callFunc_extern Try.func34 (by kernel_rfl) (by kernel_rfl) (by kernel_rfl) (e := Extern.AbiNoEscape.same) (by kernel_rfl), Lib.run_noEscape]
    rfl
  clear hj hjs hs hl
  go_enter Try.func25, Try.ntmps25
  go_wp2
  go_end0
  exact ⟨rfl, rfl⟩
theorem pchk18 (B b : Nat) (bs : List Value) (W w : World) (h : Lib.IsBuilder 41 5 B b bs w) (k : Kept W w) (hB : W.heap.size = B) :
    Calls Try.prog 25 #[.pointer (some ⟨b, 0, none⟩)] w fun e w' => e = .returned (.tuple #[]) ∧ Lib.BuilderAt 41 5 B b (.pointer (some ⟨b, 0, none⟩)) bs w' ∧ Kept W w' := by
  rcases h with h | h
  · refine (pchk18f b w h.cell0 h.shape h.frozen0).mono ?_
    rintro e w' ⟨rfl, rfl⟩
    exact ⟨rfl, h.used _, k.setCell8 (by rw [hB]; exact h.1) _ _⟩
  · refine (pchk18u b w h.cell0).mono ?_
    rintro e w' ⟨rfl, rfl⟩
    exact ⟨rfl, h, k⟩
set_option maxRecDepth 100000 in
set_option maxHeartbeats 4000000 in
theorem pwb18 (B b : Nat) (PL : List Int) (c : Int) (W w : World) (h : Lib.IsBuilder 41 5 B b (PL.map (Value.int .u8)) w) (hP : ∀ x ∈ PL, InByte x) (hc : InByte c) (hl : PL.length + 1 ≤ 140737488355328) (k : Kept W w) (hB : W.heap.size = B) :
    Calls Try.prog 14 #[.pointer (some ⟨b, 0, none⟩), .int .u8 c] w fun e w' => e = .returned .nilIface ∧ Lib.BuilderAt 41 5 B b (.pointer (some ⟨b, 0, none⟩)) ((PL ++ [c]).map (Value.int .u8)) w' ∧ Kept W w' := by
  have CK := hid (pchk18 B b _ W w h k hB)
  clear h k
  go_enter Try.func14, Try.ntmps14
  go_wp2_with fail
  refine CK.out.mono ?_
  rintro e w1 ⟨rfl, h1, k1⟩
  obtain ⟨hBb, v, hbk, hown, hne⟩ := h1
  rw [List.length_map] at hown
  have K1 := hid k1
  have O1 := hid hown
  have d1 : w1.cell? ⟨b, 1, none⟩ = some v := by rw [Lib.cell_of_heap hbk]; rfl
  have HK := hid hbk
  have HE := hid hne
  have hb2 : ∀ q, B ≤ (w1.alloc q).heap.size := fun q => by rw [World.size_alloc]; have := K1.out.size; omega
  have lt1 : b < w1.heap.size := (Array.getElem?_eq_some_iff.1 hbk).1
  clear k1 hown hbk hne CK
  go_wp2_with (at_builtin; (refine wl_append (L := PL) (owns_kept ((Kept.refl _).alloc _) O1.out) (sl_one18 w1 c hc) rfl rfl rfl rfl rfl (hb2 _) (by simp only [List.length_cons, List.length_nil]; omega) (fun v' u7 o7 g7 => ?_); have K7 := hid ((K1.out.alloc _).by g7 (fun q hq => by rw [hB]; exact (O1.out.lt q hq).1)); have B7 : u7.heap[b]? = some (.cells #[.pointer (some ⟨b, 0, none⟩), v] 41 (0, 0)) := (by rw [g7.block b (by rw [World.size_alloc]; omega) (fun e => HE.out e.symm), Lib.alloc_old w1 _ b lt1]; exact HK.out); have O7 := hid o7; have c7 : u7.cell? ⟨b, 1, none⟩ = some v := (by rw [Lib.cell_of_heap B7]; rfl); have f7 : u7.frozen? ⟨b, 1, none⟩ = false := Lib.frozen_of_heap B7 1; have H7 := hid B7; clear g7 o7 B7; refine Hid.out ?_))
  refine hid ?_
  obtain ⟨a7, p7, e7, o8⟩ := own_form18 O7.out (fun x hx => by rcases List.mem_append.1 hx with q | q; exact hP x q; rw [List.mem_singleton.1 q]; exact hc)
  subst e7
  clear o8
  go_wp2
  go_ret
  refine ⟨rfl, ?_, K7.out.setCell8 (by rw [hB]; exact hBb) _ _⟩
  exact Lib.BuilderAt.put hBb H7.out (by rw [List.length_map]; have q := O7.out; have e : (PL ++ [c]).length = PL.length + 1 := (by simp); rw [e] at q ⊢; exact q) (by decide)
set_option maxRecDepth 100000 in
set_option maxHeartbeats 4000000 in
theorem ptext18 (a : Option Addr) (cap : Nat) (z : List Int) (w : World) (hr : Row w a z) (hl : z.length ≤ 140737488355328) :
    Calls Try.prog 7 #[.slice a z.length cap] w fun e w' => e = .returned (.string (strB (digL z))) ∧ Kept w w' := by
  have FG := hid (fun q => row_get hr q)
  have HB := hid hr.2.1
  obtain ⟨n, hn⟩ : ∃ n, z.length = n := ⟨_, rfl⟩
  have HN := hid hn
  rw [hn] at hl FG ⊢
  have I0 : Hid (Lib.IsBuilder 41 5 w.heap.size w.heap.size ((digL (z.take 0)).map (Value.int .u8)) (w.alloc (.cells #[.pointer none, .slice none 0 0] 41))) := Lib.fresh_isBuilder 41 5 w
  clear hr hn
  go_enter Try.func7, Try.ntmps7
  go_wp2_with fail
  go_loopw [8] (fun s8 wr => ∃ j : Nat, j ≤ n ∧ s8 = .int .i64 (j : Int) ∧ Hid (Lib.IsBuilder 41 5 w.heap.size w.heap.size ((digL (z.take j)).map (Value.int .u8)) wr) ∧ Kept w wr) (fun s8 _ => n - (intOf s8).toNat)
  case atStart => exact ⟨0, Nat.zero_le _, rfl, I0, (Kept.refl w).alloc _⟩
  case round =>
    obtain ⟨j, hj, rfl, II, hk⟩ := hrel
    have KK := hid hk
    by_cases hlt : j < n
    · have g1 : decide ((j : Int) < (n : Int)) = true := decide_eq_true (by omega)
      have g3 : (j : Int) < (n : Int) := by omega
      obtain ⟨x, rfl, hx, hc⟩ := FG.out (by omega)
      have d0 := (hk.cell (x := x.add j) (by rw [addB]; exact hx)).trans (hc j hlt).1
      have vb := getD_in HB.out j
      have NX := hid (dig_next z (j := j) (by rw [HN.out]; exact hlt))
      have LJ : (digL (z.take j)).length = j := by unfold digL; rw [List.length_map, List.length_take, HN.out]; omega
      have PB0 : Hid (∀ x ∈ digL (z.take j), InByte x) := dig_in _
      obtain ⟨PL, hPL⟩ : ∃ l, digL (z.take j) = l := ⟨_, rfl⟩
      rw [hPL] at NX II LJ PB0
      unfold digI at NX
      obtain ⟨s, hs⟩ : ∃ s, z.getD j 0 = s := ⟨_, rfl⟩
      rw [hs] at d0 vb NX
      obtain ⟨v0, v1⟩ := vb
      have a3 := and3_17 s v0 v1
      have e1 : IntKind.u8.wrap (48 + s % 4) = 48 + s % 4 := by rw [IntKind.wrap_u8]; omega
      have e2 : IntKind.i64.wrap ((j : Int) + 1) = (j : Int) + 1 := by rw [IntKind.wrap_i64]; omega
      have WB := hid (pwb18 w.heap.size w.heap.size PL (48 + s % 4) w wr II.out PB0.out ⟨by omega, by omega⟩ (by omega) hk rfl)
      clear hPL hs LJ hc hk
      go_wp2_with fail
      refine WB.out.mono ?_
      rintro e u1 ⟨rfl, i1, b1⟩
      have K1 := hid b1
      have I1 : Hid (Lib.IsBuilder 41 5 w.heap.size w.heap.size ((digL (z.take (j + 1))).map (Value.int .u8)) u1) := by rw [NX.out]; exact Or.inr i1
      clear i1 b1
      go_wp2_with fail
      go_roundw
      case rel => exact ⟨j + 1, by omega, by first | go_num | rfl, I1, K1.out⟩
      case measure => first | omega | (simp; omega) | (simp [intOf]; omega)
    · have je : j = n := by omega
      subst je
      have g1 : decide ((j : Int) < (j : Int)) = false := decide_eq_false (by omega)
      have g3 : ¬ (j : Int) < (j : Int) := by omega
      have TK : z.take j = z := List.take_of_length_le (by rw [HN.out]; omega)
      rw [TK, cells18 (dig_in z)] at II
      have ST := hid (Any.Builder_String_any Try.lays169 Try.Builder_Extra_169 w.heap.size w.heap.size _ wr II.out hk.size)
      clear hk TK
      go_wp2_with fail
      refine ST.out.mono ?_
      rintro e u1 ⟨rfl, b1⟩
      have K1 := hid (KK.out.under b1)
      clear b1
      go_wp2
      go_ret
      exact ⟨rfl, K1.out⟩
end Go.Proofs.Ytecgpdjgbdobbab
