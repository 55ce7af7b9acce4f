/- Pictures: the program's and the document's. -/
import Derived.Test.YtecgpdjgbdobbaaSw18
import Derived.Laws.CopyOwn
namespace Go.Proofs.Ytecgpdjgbdobbaa
open Go.RowKit
set_option linter.unusedVariables false
set_option linter.unusedSimpArgs false

/-- The window's line ahead of a line. -/
def fwin (l : List Vd) : Nat → Int
  | 0 => 0
  | j + 1 => if j < l.length then nxP (l.getD j vd0) (j : Int) (fwin l j) else fwin l j
def frow (l : List Vd) (j : Nat) : List Int := if j < l.length then lineP (l.getD j vd0) (j : Int) (fwin l j) else List.replicate 160 0
def ftake (l : List Vd) : Nat → List Int
  | 0 => []
  | j + 1 => ftake l j ++ frow l j
def frameP (l : List Vd) : List Int := ftake l 144
theorem fwin_bd (l : List Vd) : ∀ j, 0 ≤ fwin l j ∧ fwin l j ≤ 255
  | 0 => ⟨Int.le_refl 0, show (0 : Int) ≤ 255 by decide⟩
  | j + 1 => by
    have h := fwin_bd l j
    show 0 ≤ (if _ then _ else _ : Int) ∧ (if _ then _ else _ : Int) ≤ 255
    split
    · exact nx_bd h.1 h.2
    · exact h
theorem fwin_yes {l : List Vd} {j : Nat} (h : j < l.length) : fwin l (j + 1) = nxP (l.getD j vd0) (j : Int) (fwin l j) := if_pos h
theorem fwin_no {l : List Vd} {j : Nat} (h : ¬ j < l.length) : fwin l (j + 1) = fwin l j := if_neg h
theorem frow_yes {l : List Vd} {j : Nat} (h : j < l.length) : frow l j = lineP (l.getD j vd0) (j : Int) (fwin l j) := if_pos h
theorem frow_no {l : List Vd} {j : Nat} (h : ¬ j < l.length) : frow l j = List.replicate 160 0 := if_neg h
theorem frow_len (l : List Vd) (j : Nat) : (frow l j).length = 160 := by
  unfold frow
  split
  · exact line_len _ _ _
  · exact List.length_replicate
theorem zeros_in (n : Nat) : ∀ x ∈ List.replicate n (0 : Int), InByte x := fun x hx => by rw [(List.mem_replicate.1 hx).2]; exact ⟨by decide, by decide⟩
theorem frow_in (l : List Vd) (j : Nat) : ∀ x ∈ frow l j, InByte x := by
  unfold frow
  split
  · exact line_in _ _ _
  · exact zeros_in _
theorem ftake_len (l : List Vd) : ∀ j, (ftake l j).length = 160 * j
  | 0 => rfl
  | j + 1 => by
    show (ftake l j ++ frow l j).length = _
    rw [List.length_append, ftake_len l j, frow_len]; omega
theorem ftake_in (l : List Vd) : ∀ j, ∀ x ∈ ftake l j, InByte x
  | 0 => fun x hx => by cases hx
  | j + 1 => fun x hx => by
    rcases List.mem_append.1 hx with q | q
    · exact ftake_in l j x q
    · exact frow_in l j x q
/-- A picture of which j lines are drawn. -/
def picL (l : List Vd) (j : Nat) : List Int := ftake l j ++ List.replicate (23040 - 160 * j) 0
theorem pic_len (l : List Vd) {j : Nat} (h : j ≤ 144) : (picL l j).length = 23040 := by
  unfold picL
  rw [List.length_append, ftake_len, List.length_replicate]; omega
theorem pic_0 (l : List Vd) : picL l 0 = List.replicate 23040 0 := rfl
theorem pic_in (l : List Vd) (j : Nat) : ∀ x ∈ picL l j, InByte x := fun x hx => by
  rcases List.mem_append.1 hx with q | q
  · exact ftake_in l j x q
  · exact zeros_in _ x q
def spl18 (L : List Int) (o : Nat) (C : List Int) : List Int := L.take o ++ C ++ L.drop (o + C.length)
theorem pic_next (l : List Vd) {j : Nat} (h : j < 144) : spl18 (picL l j) (j * 160) (frow l j) = picL l (j + 1) := by
  unfold spl18 picL
  rw [frow_len, List.take_append_of_le_length (by rw [ftake_len]; omega), List.take_of_length_le (by rw [ftake_len]; omega), List.drop_append, List.drop_of_length_le (by rw [ftake_len]; omega), List.nil_append, ftake_len, List.drop_replicate, show ftake l (j + 1) = ftake l j ++ frow l j from rfl, show 23040 - 160 * j - (j * 160 + 160 - 160 * j) = 23040 - 160 * (j + 1) by omega]
theorem ftake_past (l : List Vd) {m : Nat} (h : l.length ≤ m) : ∀ k, ftake l (m + k) = ftake l m ++ List.replicate (160 * k) 0
  | 0 => by simp
  | k + 1 => by
    show ftake l (m + k) ++ frow l (m + k) = _
    rw [ftake_past l h k, frow_no (by omega), List.append_assoc, List.replicate_append_replicate]
    congr 2
theorem pic_144 (l : List Vd) : picL l 144 = frameP l := by
  unfold picL frameP
  simp
theorem pic_end (l : List Vd) {m : Nat} (h : l.length ≤ m) (h2 : m ≤ 144) : picL l m = frameP l := by
  unfold picL frameP
  have e := ftake_past l h (144 - m)
  rw [show m + (144 - m) = 144 by omega] at e
  rw [e, show 23040 - 160 * m = 160 * (144 - m) by omega]
/-- Registers and memories lie at an address. -/
structure VAt (u : World) (y : Addr) (v : Vd) : Prop where
  c0 : u.cell? y = some (.int .u8 v.ctl)
  c1 : u.cell? ⟨y.block, y.off + 1, none⟩ = some (.int .u8 v.scy)
  c2 : u.cell? ⟨y.block, y.off + 2, none⟩ = some (.int .u8 v.scx)
  c3 : u.cell? ⟨y.block, y.off + 3, none⟩ = some (.int .u8 v.wy)
  c4 : u.cell? ⟨y.block, y.off + 4, none⟩ = some (.int .u8 v.wx)
  c5 : u.cell? ⟨y.block, y.off + 5, none⟩ = some (.int .u8 v.bgp)
  c6 : u.cell? ⟨y.block, y.off + 6, none⟩ = some (.int .u8 v.o0)
  c7 : u.cell? ⟨y.block, y.off + 7, none⟩ = some (.int .u8 v.o1)
  c8 : u.cell? ⟨y.block, y.off + 8, none⟩ = some (.slice v.va v.vz.length v.vc)
  c9 : u.cell? ⟨y.block, y.off + 9, none⟩ = some (.slice v.oa v.oz.length v.oc)
theorem vat_kept {W w : World} (k : Kept W w) {y : Addr} {v : Vd} (hy : y.block < W.heap.size) (h : VAt W y v) : VAt w y v :=
  ⟨(k.cell hy).trans h.c0, (k.cell (x := ⟨y.block, y.off + 1, none⟩) hy).trans h.c1, (k.cell (x := ⟨y.block, y.off + 2, none⟩) hy).trans h.c2, (k.cell (x := ⟨y.block, y.off + 3, none⟩) hy).trans h.c3, (k.cell (x := ⟨y.block, y.off + 4, none⟩) hy).trans h.c4, (k.cell (x := ⟨y.block, y.off + 5, none⟩) hy).trans h.c5, (k.cell (x := ⟨y.block, y.off + 6, none⟩) hy).trans h.c6, (k.cell (x := ⟨y.block, y.off + 7, none⟩) hy).trans h.c7, (k.cell (x := ⟨y.block, y.off + 8, none⟩) hy).trans h.c8, (k.cell (x := ⟨y.block, y.off + 9, none⟩) hy).trans h.c9⟩
theorem vat_at {w : World} {a : Option Addr} {L : List Vd} (h : FRow w a 10 (L.map vdC)) (hl : 0 < L.length) : ∃ x : Addr, a = some x ∧ x.block < w.heap.size ∧ ∀ j, j < L.length → VAt w (x.add (j * 10)) (L.getD j vd0) := by
  obtain ⟨x, e, hx, hc⟩ := frow_getD vd0 h hl
  have off : ∀ (j i : Nat), 0 < i → x.add (j * 10 + i) = ⟨(x.add (j * 10)).block, (x.add (j * 10)).off + i, none⟩ := fun j i hi => by rw [← addF]; unfold Addr.add; rw [if_neg (by omega)]
  refine ⟨x, e, hx, fun j hj => ⟨?_, ?_, ?_, ?_, ?_, ?_, ?_, ?_, ?_, ?_⟩⟩
  · exact (hc j hj 0 (by decide))
  · rw [← off j 1 (by decide)]; exact (hc j hj 1 (by decide))
  · rw [← off j 2 (by decide)]; exact (hc j hj 2 (by decide))
  · rw [← off j 3 (by decide)]; exact (hc j hj 3 (by decide))
  · rw [← off j 4 (by decide)]; exact (hc j hj 4 (by decide))
  · rw [← off j 5 (by decide)]; exact (hc j hj 5 (by decide))
  · rw [← off j 6 (by decide)]; exact (hc j hj 6 (by decide))
  · rw [← off j 7 (by decide)]; exact (hc j hj 7 (by decide))
  · rw [← off j 8 (by decide)]; exact (hc j hj 8 (by decide))
  · rw [← off j 9 (by decide)]; exact (hc j hj 9 (by decide))
/-- A copy into a row of bytes, out of cells that can be read. -/
theorem copyB18 {w : World} {g : Nat} {L : List Int} (hh : BB w g L) (off dLen dCap : Nat) (ad : Addr) (sCap : Nat) (C : List Int) (hl : C.length ≤ dLen) (hf : off + C.length ≤ L.length)
    (hs : ∀ j u, (C.map (Value.int .u8))[j]? = some u → w.cell? (ad.add j) = some u) (W : World) (k : Kept W w) (hW : W.heap.size ≤ g) :
    ∃ w2, (∀ ty, (Builtin.copy_ #[22, 22] ty #[.slice (some ⟨g, off, none⟩) dLen dCap, .slice (some ad) C.length sCap]).run Try.prog w = .ok (.int .i64 (C.length : Int)) w2) ∧ BB w2 g (spl18 L off C) ∧ Kept W w2 := by
  have e : ((L.map (Value.int .u8)).take off ++ C.map (Value.int .u8) ++ (L.map (Value.int .u8)).drop (off + (C.map (Value.int .u8)).length)) = (spl18 L off C).map (Value.int .u8) := by
    unfold spl18
    rw [List.length_map, List.map_append, List.map_append, List.map_take, List.map_drop]
  refine ⟨w.setRow g ((spl18 L off C).map (Value.int .u8)).toArray, fun ty => ?_, ?_, ?_⟩
  · have := run_copy_row Try.prog w 22 22 ty 5 g off dLen dCap ad C.length sCap _ 5 (C.map (Value.int .u8)) Try.underlying22 (by kernel_rfl) hh (by rw [List.length_map]; exact (Nat.min_eq_left hl).symm) hs (by simpa using hf) (fun v hv => by obtain ⟨q, _, rfl⟩ := List.mem_map.1 hv; rfl)
    rw [List.toList_toArray, e, List.length_map] at this
    exact this
  · exact setRow_heap w g _ _ _ _ hh
  · exact ⟨k.os, k.output, by simpa using k.size, fun i hi => (setRow_other w g i _ (by omega)).trans (k.block i hi)⟩
set_option maxRecDepth 100000 in
set_option maxHeartbeats 4000000 in
theorem pframe18 (l : List Vd) (a : Option Addr) (cap : Nat) (w : World) (hr : FRow w a 10 (l.map vdC)) (hq : ∀ x ∈ l, VdIn w x) (hl : l.length ≤ maxLen) :
    Calls Try.prog 14 #[.slice a l.length cap] w fun e w' => (∃ g, e = .returned (.slice (some ⟨g, 0, none⟩) 23040 23040) ∧ w.heap.size ≤ g ∧ BB w' g (frameP l)) ∧ Kept w w' := by
  obtain ⟨Z, hZ⟩ : ∃ Z, ((List.replicate 23040 (0 : Int)).map (Value.int .u8)).toArray = Z := ⟨_, rfl⟩
  have MR : ∀ u : World, (Instr.makeSlice 22 (.int .i64 23040) (.int .i64 23040)).run Try.prog u = .ok (.slice (some ⟨u.heap.size, 0, none⟩) 23040 23040) (u.alloc (.cells Z 5)) := fun u => by rw [← hZ]; exact make18 23040 (by decide) u
  have X0 : Hid (BB (w.alloc (.cells Z 5)) w.heap.size (picL l 0)) := by
    show Blk _ _ _ _
    rw [← hZ, pic_0]
    exact blk_new w _ _
  have FG := hid (fun q => vat_at hr q)
  have QI := hid hq
  obtain ⟨n, hn⟩ : ∃ n, l.length = n := ⟨_, rfl⟩
  have HN := hid hn
  have nm : n ≤ 9223372036854775807 := by rw [← hn]; exact hl
  rw [hn] at FG ⊢
  clear hr hq hn hZ hl
  by_cases hb : 144 < n
  · have g0 : (144 : Int) < (n : Int) := by omega
    have g00 : decide ((144 : Int) < (n : Int)) = true := decide_eq_true g0
    go_enter Try.func14, Try.ntmps14
    go_wp2_with fail
    go_loopw [4, 11] (fun s4 s11 wr => ∃ j : Nat, j ≤ 144 ∧ s4 = .int .u8 (fwin l j) ∧ s11 = .int .i64 (j : Int) ∧ BB wr w.heap.size (picL l j) ∧ Kept w wr) (fun _ s11 _ => 144 - (intOf s11).toNat)
    case atStart => exact ⟨0, Nat.zero_le _, rfl, rfl, X0.out, (Kept.refl w).alloc _⟩
    case round =>
      obtain ⟨j, hj, rfl, rfl, hb, hk⟩ := hrel
      have KK := hid hk
      have BQ := hid hb
      clear hb X0
      by_cases hlm : j < 144
      · have hlt : j < n := by omega
        have g1 : decide ((j : Int) < 144) = true := decide_eq_true (by omega)
        have g2 : (j : Int) < 144 := by omega
        have g3 : (j : Int) < (n : Int) := by omega
        have e1 : IntKind.i64.wrap ((j : Int) + 1) = (j : Int) + 1 := by rw [IntKind.wrap_i64]; omega
        obtain ⟨q, hq⟩ : ∃ q, j * 160 = q := ⟨_, rfl⟩
        have e2 : IntKind.i64.wrap ((j : Int) * 160) = (q : Int) := by rw [IntKind.wrap_i64]; omega
        have q1 : q + 160 ≤ 23040 := by omega
        have q2 : (q : Int) ≤ 23040 := by omega
        have q3 : (0 : Int) ≤ (q : Int) := by omega
        have q4 : ¬ 23040 = q := by omega
        have PN := hid (pic_next l (j := j) (by omega))
        have PLN := hid (pic_len l (j := j) (by omega))
        rw [hq] at PN
        clear hq
        obtain ⟨x, rfl, hx, hc⟩ := FG.out (by omega)
        have VC := vat_kept hk (by rw [addFB]; exact hx) (hc j hlt)
        have NXW := hid (fwin_yes (l := l) (j := j) (by rw [HN.out]; exact hlt))
        have FRW := hid (frow_yes (l := l) (j := j) (by rw [HN.out]; exact hlt))
        have VI := hid (vdIn_kept hk (getD_mem vd0 QI.out j (by rw [HN.out]; exact hlt)))
        have fb := fwin_bd l j
        obtain ⟨v, hv⟩ : ∃ v, l.getD j vd0 = v := ⟨_, rfl⟩
        rw [hv] at VC NXW FRW VI
        have LI := hid (pline18 v (j : Int) (fwin l j) wr VI.out (by omega) (by omega) fb.1 fb.2)
        obtain ⟨vn, hvn⟩ : ∃ n, v.vz.length = n := ⟨_, rfl⟩
        obtain ⟨on, hon⟩ : ∃ n, v.oz.length = n := ⟨_, rfl⟩
        have VV : vdV v = .agg #[.int .u8 v.ctl, .int .u8 v.scy, .int .u8 v.scx, .int .u8 v.wy, .int .u8 v.wx, .int .u8 v.bgp, .int .u8 v.o0, .int .u8 v.o1, .slice v.va vn v.vc, .slice v.oa on v.oc] := by unfold vdV; rw [hvn, hon]
        rw [VV] at LI
        obtain ⟨d0, d1, d2, d3, d4, d5, d6, d7, d8, d9⟩ := VC
        rw [hvn] at d8
        rw [hon] at d9
        have ej : IntKind.u8.wrap (j : Int) = (j : Int) := by rw [IntKind.wrap_u8]; omega
        clear hv hvn hon VV hc VI fb
        go_wp2_with fail
        refine LI.out.mono ?_
        rintro e u1 ⟨⟨b, rfl, zb, xb⟩, k1⟩
        have HS : Hid (∀ j' u, ((frow l j).map (Value.int .u8))[j']? = some u → u1.cell? ((⟨b, 0, none⟩ : Addr).add j') = some u) := fun j' u hu => by
          rw [FRW.out] at hu
          rw [ownB_add, blk_cell xb, cols_line]; exact hu
        obtain ⟨u2, hrun, b2, k2⟩ := copyB18 (blk_kept k1 BQ.out) q (23040 - q) (23040 - q) ⟨b, 0, none⟩ 160 (frow l j) (by rw [frow_len]; omega) (by rw [frow_len, PLN.out]; omega) HS.out w (KK.out.trans k1) (Nat.le_refl _)
        rw [frow_len] at hrun
        rw [PN.out] at b2
        have B2 := hid b2
        have K2 := hid k2
        clear k1 xb zb b2 k2 HS d0 d1 d2 d3 d4 d5 d6 d7 d8 d9
        go_wp2_with fail
        go_roundw
        case rel => exact ⟨j + 1, by omega, by rw [NXW.out], by first | go_num | rfl, B2.out, K2.out⟩
        case measure => first | omega | (simp; omega) | (simp [intOf]; omega)
      · have je : j = 144 := by omega
        subst je
        have g1 : decide (((144 : Nat) : Int) < 144) = false := by decide
        have BE := hid (show BB wr w.heap.size (frameP l) by have z := BQ.out; rw [pic_144] at z; exact z)
        go_wp2_with fail
        go_ret
        exact ⟨⟨w.heap.size, rfl, Nat.le_refl _, BE.out⟩, KK.out⟩
  · have g0 : ¬ (144 : Int) < (n : Int) := by omega
    have g00 : decide ((144 : Int) < (n : Int)) = false := decide_eq_false g0
    have n144 : n ≤ 144 := by omega
    go_enter Try.func14, Try.ntmps14
    go_wp2_with fail
    go_loopw [4, 11] (fun s4 s11 wr => ∃ j : Nat, j ≤ n ∧ s4 = .int .u8 (fwin l j) ∧ s11 = .int .i64 (j : Int) ∧ BB wr w.heap.size (picL l j) ∧ Kept w wr) (fun _ s11 _ => n - (intOf s11).toNat)
    case atStart => exact ⟨0, Nat.zero_le _, rfl, rfl, X0.out, (Kept.refl w).alloc _⟩
    case round =>
      obtain ⟨j, hj, rfl, rfl, hb, hk⟩ := hrel
      have KK := hid hk
      have BQ := hid hb
      clear hb X0
      by_cases hlm : j < n
      · have hlt : j < n := by omega
        have g1 : decide ((j : Int) < n) = true := decide_eq_true (by omega)
        have g2 : (j : Int) < n := by omega
        have g3 : (j : Int) < (n : Int) := by omega
        have e1 : IntKind.i64.wrap ((j : Int) + 1) = (j : Int) + 1 := by rw [IntKind.wrap_i64]; omega
        obtain ⟨q, hq⟩ : ∃ q, j * 160 = q := ⟨_, rfl⟩
        have e2 : IntKind.i64.wrap ((j : Int) * 160) = (q : Int) := by rw [IntKind.wrap_i64]; omega
        have q1 : q + 160 ≤ 23040 := by omega
        have q2 : (q : Int) ≤ 23040 := by omega
        have q3 : (0 : Int) ≤ (q : Int) := by omega
        have q4 : ¬ 23040 = q := by omega
        have PN := hid (pic_next l (j := j) (by omega))
        have PLN := hid (pic_len l (j := j) (by omega))
        rw [hq] at PN
        clear hq
        obtain ⟨x, rfl, hx, hc⟩ := FG.out (by omega)
        have VC := vat_kept hk (by rw [addFB]; exact hx) (hc j hlt)
        have NXW := hid (fwin_yes (l := l) (j := j) (by rw [HN.out]; exact hlt))
        have FRW := hid (frow_yes (l := l) (j := j) (by rw [HN.out]; exact hlt))
        have VI := hid (vdIn_kept hk (getD_mem vd0 QI.out j (by rw [HN.out]; exact hlt)))
        have fb := fwin_bd l j
        obtain ⟨v, hv⟩ : ∃ v, l.getD j vd0 = v := ⟨_, rfl⟩
        rw [hv] at VC NXW FRW VI
        have LI := hid (pline18 v (j : Int) (fwin l j) wr VI.out (by omega) (by omega) fb.1 fb.2)
        obtain ⟨vn, hvn⟩ : ∃ n, v.vz.length = n := ⟨_, rfl⟩
        obtain ⟨on, hon⟩ : ∃ n, v.oz.length = n := ⟨_, rfl⟩
        have VV : vdV v = .agg #[.int .u8 v.ctl, .int .u8 v.scy, .int .u8 v.scx, .int .u8 v.wy, .int .u8 v.wx, .int .u8 v.bgp, .int .u8 v.o0, .int .u8 v.o1, .slice v.va vn v.vc, .slice v.oa on v.oc] := by unfold vdV; rw [hvn, hon]
        rw [VV] at LI
        obtain ⟨d0, d1, d2, d3, d4, d5, d6, d7, d8, d9⟩ := VC
        rw [hvn] at d8
        rw [hon] at d9
        have ej : IntKind.u8.wrap (j : Int) = (j : Int) := by rw [IntKind.wrap_u8]; omega
        clear hv hvn hon VV hc VI fb
        go_wp2_with fail
        refine LI.out.mono ?_
        rintro e u1 ⟨⟨b, rfl, zb, xb⟩, k1⟩
        have HS : Hid (∀ j' u, ((frow l j).map (Value.int .u8))[j']? = some u → u1.cell? ((⟨b, 0, none⟩ : Addr).add j') = some u) := fun j' u hu => by
          rw [FRW.out] at hu
          rw [ownB_add, blk_cell xb, cols_line]; exact hu
        obtain ⟨u2, hrun, b2, k2⟩ := copyB18 (blk_kept k1 BQ.out) q (23040 - q) (23040 - q) ⟨b, 0, none⟩ 160 (frow l j) (by rw [frow_len]; omega) (by rw [frow_len, PLN.out]; omega) HS.out w (KK.out.trans k1) (Nat.le_refl _)
        rw [frow_len] at hrun
        rw [PN.out] at b2
        have B2 := hid b2
        have K2 := hid k2
        clear k1 xb zb b2 k2 HS d0 d1 d2 d3 d4 d5 d6 d7 d8 d9
        go_wp2_with fail
        go_roundw
        case rel => exact ⟨j + 1, by omega, by rw [NXW.out], by first | go_num | rfl, B2.out, K2.out⟩
        case measure => first | omega | (simp; omega) | (simp [intOf]; omega)
      · have je : j = n := by omega
        subst je
        have g1 : decide ((j : Int) < (j : Int)) = false := by simp
        have BE := hid (show BB wr w.heap.size (frameP l) by have z := BQ.out; rw [pic_end l (by rw [HN.out]; omega) (by omega)] at z; exact z)
        go_wp2_with fail
        go_ret
        exact ⟨⟨w.heap.size, rfl, Nat.le_refl _, BE.out⟩, KK.out⟩
set_option maxRecDepth 100000 in
set_option maxHeartbeats 4000000 in
theorem rframe18 (l : List Vd) (a : Option Addr) (cap : Nat) (w : World) (hr : FRow w a 10 (l.map vdC)) (hq : ∀ x ∈ l, VdIn w x) (hl : l.length ≤ maxLen) :
    Calls Try.prog 15 #[.slice a l.length cap] w fun e w' => (∃ a2 cap2, e = .returned (.slice a2 23040 cap2) ∧ Sl w' a2 cap2 (frameP l)) ∧ Kept w w' := by
  obtain ⟨Z, hZ⟩ : ∃ Z, ((List.replicate 160 (0 : Int)).map (Value.int .u8)).toArray = Z := ⟨_, rfl⟩
  have MR : ∀ u : World, (Instr.makeSlice 22 (.int .i64 160) (.int .i64 160)).run Try.prog u = .ok (.slice (some ⟨u.heap.size, 0, none⟩) 160 160) (u.alloc (.cells Z 5)) := fun u => by rw [← hZ]; exact make18 160 (by decide) u
  have MS : Hid (∀ u : World, Sl (u.alloc (.cells Z 5)) (some ⟨u.heap.size, 0, none⟩) 160 (List.replicate 160 0)) := fun u => by
    rw [← hZ]
    exact ⟨bb_row (blk_new u _ _) (zeros_in _) (by simp [maxLen]), by simp, by simp [maxLen], fun e => by cases e⟩
  have FG := hid (fun q => vat_at hr q)
  have QI := hid hq
  obtain ⟨n, hn⟩ : ∃ n, l.length = n := ⟨_, rfl⟩
  have HN := hid hn
  have nm : n ≤ 9223372036854775807 := by rw [← hn]; exact hl
  rw [hn] at FG ⊢
  clear hr hq hn hZ hl
  go_enter Try.func15, Try.ntmps15
  go_wp2_with fail
  go_loopw [3, 4, 5] (fun s3 s4 s5 wr => ∃ (j m : Nat) (av : Option Addr) (cp : Nat), j ≤ 144 ∧ s3 = .slice av m cp ∧ s4 = .int .u8 (fwin l j) ∧ s5 = .int .i64 (j : Int) ∧ Hid ((ftake l j).length = m) ∧ Hid (wr.ownsRow w.heap.size 5 1 (.slice av m cp) (ftake l j).length ((ftake l j).map (Value.int .u8))) ∧ Kept w wr) (fun _ _ s5 _ => 144 - (intOf s5).toNat)
  case atStart => exact ⟨0, 0, none, 0, Nat.zero_le _, rfl, rfl, rfl, rfl, own_nil18 _ _, Kept.refl _⟩
  case round =>
    obtain ⟨j, m, av, cp, hj, rfl, rfl, rfl, HL, OO, hk⟩ := hrel
    have KK := hid hk
    by_cases hlm : j < 144
    · have g1 : decide ((j : Int) < 144) = true := decide_eq_true (by omega)
      have g2 : (j : Int) < 144 := by omega
      have e1 : IntKind.i64.wrap ((j : Int) + 1) = (j : Int) + 1 := by rw [IntKind.wrap_i64]; omega
      have LJ := ftake_len l j
      have PB : Hid (∀ x ∈ ftake l j ++ frow l j, InByte x) := ftake_in l (j + 1)
      obtain ⟨PL, hPL0⟩ : ∃ p, ftake l j = p := ⟨_, rfl⟩
      have hPL := hid hPL0
      rw [hPL0] at OO LJ HL PB
      have lb : PL.length ≤ 23040 := by omega
      have LE : Hid ((PL ++ frow l j).length = PL.length + 160) := by show _ = _; rw [List.length_append, frow_len]
      have hm := HL.out
      subst hm
      clear hPL0 LJ HL
      have AZ := hid ((Kept.refl wr).alloc (.cells Z 5))
      by_cases hlt : j < n
      · have g3 : (j : Int) < (n : Int) := by omega
        have g4 : decide ((j : Int) < (n : Int)) = true := decide_eq_true g3
        have hkz := hk.alloc (.cells Z 5)
        obtain ⟨x, rfl, hx, hc⟩ := FG.out (by omega)
        have VC := vat_kept hkz (by rw [addFB]; exact hx) (hc j hlt)
        have NXW := hid (fwin_yes (l := l) (j := j) (by rw [HN.out]; exact hlt))
        have FRW := hid (frow_yes (l := l) (j := j) (by rw [HN.out]; exact hlt))
        have VI := hid (vdIn_kept hkz (getD_mem vd0 QI.out j (by rw [HN.out]; exact hlt)))
        have fb := fwin_bd l j
        obtain ⟨v, hv⟩ : ∃ v, l.getD j vd0 = v := ⟨_, rfl⟩
        rw [hv] at VC NXW FRW VI
        have LI := hid (rline18 v (j : Int) (fwin l j) (wr.alloc (.cells Z 5)) VI.out (by omega) (by omega) fb.1 fb.2)
        obtain ⟨vn, hvn⟩ : ∃ n, v.vz.length = n := ⟨_, rfl⟩
        obtain ⟨on, hon⟩ : ∃ n, v.oz.length = n := ⟨_, rfl⟩
        have VV : vdV v = .agg #[.int .u8 v.ctl, .int .u8 v.scy, .int .u8 v.scx, .int .u8 v.wy, .int .u8 v.wx, .int .u8 v.bgp, .int .u8 v.o0, .int .u8 v.o1, .slice v.va vn v.vc, .slice v.oa on v.oc] := by unfold vdV; rw [hvn, hon]
        rw [VV] at LI
        obtain ⟨d0, d1, d2, d3, d4, d5, d6, d7, d8, d9⟩ := VC
        rw [hvn] at d8
        rw [hon] at d9
        have ej : IntKind.u8.wrap (j : Int) = (j : Int) := by rw [IntKind.wrap_u8]; omega
        clear hv hvn hon VV hc VI fb
        rw [FRW.out] at LE PB
        clear hk hkz
        go_wp2_with fail
        refine LI.out.mono ?_
        rintro e u1 ⟨⟨a1, c1, rfl, n1, s1⟩, k1⟩
        have K6 := hid ((KK.out.trans AZ.out).trans k1)
        have O6 := hid (owns_kept (AZ.out.trans k1) OO.out)
        have S1 := hid s1
        have FL := hid (line_len v (j : Int) (fwin l j))
        clear k1 s1 n1 OO AZ KK d0 d1 d2 d3 d4 d5 d6 d7 d8 d9
        have hb2 : ∀ q, w.heap.size ≤ (u1.alloc q).heap.size := fun q => by rw [World.size_alloc]; have := K6.out.size; omega
        have hb3 : w.heap.size ≤ u1.heap.size := K6.out.size
        go_wp2_with (at_builtin; (refine wl_append (L := PL) (z := lineP v (j : Int) (fwin l j)) O6.out S1.out rfl rfl rfl rfl FL.out.symm hb3 (by have := FL.out; omega) (fun v' u7 o7 g7 => ?_); obtain ⟨a7, c7, e7, o8⟩ := own_form18 o7 PB.out; subst e7; have K7 := hid (K6.out.by g7 (fun q hq => (O6.out.lt q hq).1)); have O7 := hid o8; clear g7 o7 o8))
        go_roundw
        case rel => exact ⟨j + 1, _, a7, c7, by omega, rfl, by rw [NXW.out], by go_num, (show _ = _ by show (ftake l j ++ frow l j).length = _; rw [hPL.out, FRW.out]; rw [List.length_append, FL.out]), (by show World.ownsRow _ _ _ _ _ ((ftake l j ++ frow l j).length) ((ftake l j ++ frow l j).map _); rw [hPL.out, FRW.out]; have q := O7.out; rw [LE.out] at q ⊢; exact q), K7.out⟩
        case measure => first | omega | (simp; omega) | (simp [intOf]; omega)
      · have g3 : ¬ (j : Int) < (n : Int) := by omega
        have g4 : decide ((j : Int) < (n : Int)) = false := decide_eq_false g3
        have NXW := hid (fwin_no (l := l) (j := j) (by rw [HN.out]; exact hlt))
        have FRW := hid (frow_no (l := l) (j := j) (by rw [HN.out]; exact hlt))
        rw [FRW.out] at LE PB
        have K6 := hid (KK.out.trans AZ.out)
        have O6 := hid (owns_kept AZ.out OO.out)
        clear hk OO AZ KK
        have hb2 : ∀ q, w.heap.size ≤ ((wr.alloc (.cells Z 5)).alloc q).heap.size := fun q => by rw [World.size_alloc]; have := K6.out.size; omega
        have hb3 : w.heap.size ≤ (wr.alloc (.cells Z 5)).heap.size := K6.out.size
        go_wp2_with (at_builtin; (refine wl_append (L := PL) (z := List.replicate 160 0) O6.out (MS.out wr) rfl rfl rfl rfl (by rw [List.length_replicate]) hb3 (by rw [List.length_replicate]; omega) (fun v' u7 o7 g7 => ?_); obtain ⟨a7, c7, e7, o8⟩ := own_form18 o7 PB.out; subst e7; have K7 := hid (K6.out.by g7 (fun q hq => (O6.out.lt q hq).1)); have O7 := hid o8; clear g7 o7 o8))
        go_roundw
        case rel => exact ⟨j + 1, _, a7, c7, by omega, rfl, by rw [NXW.out], by go_num, (show _ = _ by show (ftake l j ++ frow l j).length = _; rw [hPL.out, FRW.out]; rw [List.length_append, List.length_replicate]), (by show World.ownsRow _ _ _ _ _ ((ftake l j ++ frow l j).length) ((ftake l j ++ frow l j).map _); rw [hPL.out, FRW.out]; have q := O7.out; rw [LE.out] at q ⊢; exact q), K7.out⟩
        case measure => first | omega | (simp; omega) | (simp [intOf]; omega)
    · have je : j = 144 := by omega
      subst je
      have g1 : decide (((144 : Nat) : Int) < 144) = false := by decide
      have h9 := HL.out
      rw [ftake_len] at h9
      subst h9
      obtain ⟨a9, c9, e9, s9, w9⟩ := own_sl OO.out (ftake_in l 144)
      rw [ftake_len] at e9
      cases e9
      have S9 := hid s9
      clear s9 w9 OO HL hk
      go_wp2_with fail
      go_ret
      exact ⟨⟨av, cp, rfl, S9.out⟩, KK.out⟩
end Go.Proofs.Ytecgpdjgbdobbaa
