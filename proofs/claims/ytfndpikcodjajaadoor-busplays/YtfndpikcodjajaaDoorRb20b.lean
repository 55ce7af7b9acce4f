/- The document's memories: Get, with, Put, Object. -/
import Derived.Test.YtfndpikcodjajaaDoorPb20c
import Derived.Test.YtfndpikcodjajaaDoorRb20a
namespace Go.Proofs.YtfndpikcodjajaaDoor
open Go.RowKit
set_option linter.unusedVariables false
set_option linter.unusedSimpArgs false

/-- Where the document's memories lie, and their room. -/
structure Rm where
  xv : Option Addr
  cv : Nat
  xw : Option Addr
  cw : Nat
  xo : Option Addr
  co : Nat
  xh : Option Addr
  ch : Nat
def sg (M : List Int) (o n : Nat) : List Int := (M.drop o).take n
def rmL (m : Rm) : List Value := [.slice m.xv 8192 m.cv, .slice m.xw 8192 m.cw, .slice m.xo 160 m.co, .slice m.xh 127 m.ch]
abbrev rmV (m : Rm) : Value := .agg #[.slice m.xv 8192 m.cv, .slice m.xw 8192 m.cw, .slice m.xo 160 m.co, .slice m.xh 127 m.ch]
structure RmIn (w : World) (m : Rm) (M : List Int) : Prop where
  sv : Sl w m.xv m.cv (sg M 0 8192)
  sw : Sl w m.xw m.cw (sg M 8192 8192)
  so : Sl w m.xo m.co (sg M 16384 160)
  sh : Sl w m.xh m.ch (sg M 16544 127)
  len : M.length = 16671
  byt : ∀ x ∈ M, InByte x
theorem rm_kept {W w : World} (k : Kept W w) {m : Rm} {M : List Int} (h : RmIn W m M) : RmIn w m M := ⟨sl_kept k h.sv, sl_kept k h.sw, sl_kept k h.so, sl_kept k h.sh, h.len, h.byt⟩
/-- They lie outside of F. -/
structure RmOff (F : Nat → Prop) (m : Rm) : Prop where
  sv : ∀ x, m.xv = some x → ¬ F x.block
  sw : ∀ x, m.xw = some x → ¬ F x.block
  so : ∀ x, m.xo = some x → ¬ F x.block
  sh : ∀ x, m.xh = some x → ¬ F x.block
theorem rm_X {F : Nat → Prop} {W w : World} (k : KeptX F W w) {m : Rm} {M : List Int} (h : RmIn W m M) (f : RmOff F m) : RmIn w m M := ⟨slX k h.sv (.inr f.sv), slX k h.sw (.inr f.sw), slX k h.so (.inr f.so), slX k h.sh (.inr f.sh), h.len, h.byt⟩
theorem sg_len {M : List Int} (h : M.length = 16671) {o n : Nat} (hn : o + n ≤ 16671) : (sg M o n).length = n := by unfold sg; rw [List.length_take, List.length_drop]; omega
theorem sg_get {M : List Int} {o n i : Nat} (hi : i < n) : (sg M o n).getD i 0 = M.getD (o + i) 0 := by
  unfold sg
  rw [List.getD_eq_getElem?_getD, List.getD_eq_getElem?_getD, List.getElem?_take, if_pos hi, List.getElem?_drop]
theorem sg_set {M : List Int} {o n i : Nat} {v : Int} (hi : i < n) : (sg M o n).set i v = sg (M.set (o + i) v) o n := by
  unfold sg
  rw [← List.take_set, List.drop_set, if_neg (by omega), Nat.add_sub_cancel_left]
theorem sg_out {M : List Int} {o n j : Nat} {v : Int} (hj : j < o ∨ o + n ≤ j) : sg (M.set j v) o n = sg M o n := by
  unfold sg
  refine List.ext_getElem? fun i => ?_
  rw [List.getElem?_take, List.getElem?_take, List.getElem?_drop, List.getElem?_drop]
  split
  · rw [List.getElem?_set_ne (by omega)]
  · rfl
set_option maxRecDepth 100000 in
set_option maxHeartbeats 4000000 in
theorem rget20 (m : Rm) (M : List Int) (a : Int) (w : World) (h : RmIn w m M) (a0 : 0 ≤ a) (a1 : a ≤ 65535) : Calls Tryd.prog 21 #[rmV m, .int .u16 a] w fun e w' => e = .returned (.int .u8 (getP M a)) ∧ Kept w w' := by
  have RG := hid (fun u => rreg20 a u a0 a1)
  have K1 := hid ((Kept.refl w).alloc (.cells #[.slice m.xv 8192 m.cv, .slice m.xw 8192 m.cw, .slice m.xo 160 m.co, .slice m.xh 127 m.ch] 35))
  cases hk : keepR (regP a)
  · have E : Hid (getP M a = 255) := by show _ = _; unfold getP; rw [if_neg (by rw [hk]; simp)]
    rw [E.out]
    obtain ⟨h1, h3, h4, h7⟩ := keep_not hk
    generalize regP a = r at *
    generalize atP20 a = x at *
    have n1 : (r == 1) = false := beq_false_of_ne h1
    have n3 : (r == 3) = false := beq_false_of_ne h3
    have n4 : (r == 4) = false := beq_false_of_ne h4
    have n7 : (r == 7) = false := beq_false_of_ne h7
    clear h1 h3 h4 h7 hk E h
    go_enter Tryd.func21, Tryd.ntmps21
    go_wp2_with fail
    refine (RG.out _).mono ?_
    rintro e u ⟨rfl, rfl⟩
    go_wp2
    go_ret
    exact ⟨rfl, K1.out⟩
  · have hl := at_lt a a0 a1 hk
    have E : Hid (getP M a = M.getD (oNat (regP a) + (atP20 a).toNat) 0) := by show _ = _; unfold getP; rw [if_pos hk]; rfl
    rw [E.out]
    rw [at_nat a a0 a1] at RG
    generalize regP a = r at *
    generalize (atP20 a).toNat = i at *
    clear E
    rcases keep_cases hk with rfl | rfl | rfl | rfl
    · rw [show oNat 1 = 0 from rfl, Nat.zero_add]
      rw [show nNat 1 = 8192 from rfl] at hl
      obtain ⟨x, hx, hxl, hc⟩ := row_get h.sv.row (by rw [sg_len h.len (by decide)]; decide)
      have hc := (hc i (by rw [sg_len h.len (by decide)]; exact hl)).1
      rw [sg_get hl, Nat.zero_add] at hc
      have cc := K1.out.cell (x := x.add i) (by rw [addB]; exact hxl)
      rw [hc] at cc
      obtain ⟨xv, cv, xw, cw, xo, co, xh, ch⟩ := m
      simp only at hx
      subst hx
      have g1 : (0 : Int) ≤ (i : Int) := by omega
      have g2 : (i : Int) < 8192 := by omega
      have z1 : x.block < (w.alloc (.cells #[.slice (some x) 8192 cv, .slice xw 8192 cw, .slice xo 160 co, .slice xh 127 ch] 35)).heap.size := Nat.lt_of_lt_of_le hxl K1.out.size
      simp only at K1 cc
      clear h hk hc hxl
      go_enter Tryd.func21, Tryd.ntmps21
      go_wp2_with fail
      refine (RG.out _).mono ?_
      rintro e u ⟨rfl, rfl⟩
      go_wp2
      go_ret
      exact ⟨rfl, K1.out⟩
    · rw [show oNat 3 = 8192 from rfl]
      rw [show nNat 3 = 8192 from rfl] at hl
      obtain ⟨x, hx, hxl, hc⟩ := row_get h.sw.row (by rw [sg_len h.len (by decide)]; decide)
      have hc := (hc i (by rw [sg_len h.len (by decide)]; exact hl)).1
      rw [sg_get hl] at hc
      have cc := K1.out.cell (x := x.add i) (by rw [addB]; exact hxl)
      rw [hc] at cc
      obtain ⟨xv, cv, xw, cw, xo, co, xh, ch⟩ := m
      simp only at hx
      subst hx
      have g1 : (0 : Int) ≤ (i : Int) := by omega
      have g2 : (i : Int) < 8192 := by omega
      have z1 : x.block < (w.alloc (.cells #[.slice xv 8192 cv, .slice (some x) 8192 cw, .slice xo 160 co, .slice xh 127 ch] 35)).heap.size := Nat.lt_of_lt_of_le hxl K1.out.size
      simp only at K1 cc
      clear h hk hc hxl
      go_enter Tryd.func21, Tryd.ntmps21
      go_wp2_with fail
      refine (RG.out _).mono ?_
      rintro e u ⟨rfl, rfl⟩
      go_wp2
      go_ret
      exact ⟨rfl, K1.out⟩
    · rw [show oNat 4 = 16384 from rfl]
      rw [show nNat 4 = 160 from rfl] at hl
      obtain ⟨x, hx, hxl, hc⟩ := row_get h.so.row (by rw [sg_len h.len (by decide)]; decide)
      have hc := (hc i (by rw [sg_len h.len (by decide)]; exact hl)).1
      rw [sg_get hl] at hc
      have cc := K1.out.cell (x := x.add i) (by rw [addB]; exact hxl)
      rw [hc] at cc
      obtain ⟨xv, cv, xw, cw, xo, co, xh, ch⟩ := m
      simp only at hx
      subst hx
      have g1 : (0 : Int) ≤ (i : Int) := by omega
      have g2 : (i : Int) < 160 := by omega
      have z1 : x.block < (w.alloc (.cells #[.slice xv 8192 cv, .slice xw 8192 cw, .slice (some x) 160 co, .slice xh 127 ch] 35)).heap.size := Nat.lt_of_lt_of_le hxl K1.out.size
      simp only at K1 cc
      clear h hk hc hxl
      go_enter Tryd.func21, Tryd.ntmps21
      go_wp2_with fail
      refine (RG.out _).mono ?_
      rintro e u ⟨rfl, rfl⟩
      go_wp2
      go_ret
      exact ⟨rfl, K1.out⟩
    · rw [show oNat 7 = 16544 from rfl]
      rw [show nNat 7 = 127 from rfl] at hl
      obtain ⟨x, hx, hxl, hc⟩ := row_get h.sh.row (by rw [sg_len h.len (by decide)]; decide)
      have hc := (hc i (by rw [sg_len h.len (by decide)]; exact hl)).1
      rw [sg_get hl] at hc
      have cc := K1.out.cell (x := x.add i) (by rw [addB]; exact hxl)
      rw [hc] at cc
      obtain ⟨xv, cv, xw, cw, xo, co, xh, ch⟩ := m
      simp only at hx
      subst hx
      have g1 : (0 : Int) ≤ (i : Int) := by omega
      have g2 : (i : Int) < 127 := by omega
      have z1 : x.block < (w.alloc (.cells #[.slice xv 8192 cv, .slice xw 8192 cw, .slice xo 160 co, .slice (some x) 127 ch] 35)).heap.size := Nat.lt_of_lt_of_le hxl K1.out.size
      simp only at K1 cc
      clear h hk hc hxl
      go_enter Tryd.func21, Tryd.ntmps21
      go_wp2_with fail
      refine (RG.out _).mono ?_
      rintro e u ⟨rfl, rfl⟩
      go_wp2
      go_ret
      exact ⟨rfl, K1.out⟩
set_option maxRecDepth 100000 in
set_option maxHeartbeats 4000000 in
theorem rwith20 (ax : Option Addr) (cap : Nat) (z : List Int) (i : Nat) (v : Int) (w : World) (sl : Sl w ax cap z) (hi : i < z.length) (hz : z.length ≤ 131072) (hv : InByte v) : Calls Tryd.prog 31 #[.slice ax z.length cap, .int .i64 (i : Int), .int .u8 v] w fun e w' => ∃ a' cap', e = .returned (.slice a' z.length cap') ∧ Sl w' a' cap' (z.set i v) ∧ Newer w.heap.size a' ∧ Kept w w' := by
  have g1 : (0 : Int) ≤ (i : Int) := by omega
  have g2 : (i : Int) < (z.length : Int) := by omega
  have K0 := hid ((Kept.refl w).alloc (.cells #[] 5))
  have SL := hid (sl_kept K0.out sl)
  have O := hid (own_empty w (Nat.le_refl _))
  have ZB : Hid (∀ x ∈ z, InByte x) := sl.row.2.1
  have zl : ([] : List Int).length + z.length ≤ 140737488355328 := by simp; omega
  clear sl
  go_enter Tryd.func31, Tryd.ntmps31
  go_wp2_with (at_builtin; refine wl_append (L := []) O.out SL.out rfl rfl rfl rfl rfl (by rw [World.size_alloc]; omega) zl (fun v' u2 o2 g2 => ?_); refine Hid.out ?_)
  refine hid ?_
  rw [List.nil_append] at o2
  have K2 := hid (K0.out.by g2 (fun j h => (O.out.lt j h).1))
  obtain ⟨g, cap2, rfl, hg⟩ := own_slice o2 (by omega)
  have C := ownB_set o2 i v
  have fz := ownB_frz o2 i
  have zg := (ownB_lt o2).2
  have cc := ownB_cell o2 i (by omega)
  have K3 := hid (K2.out.setCell8 hg i (.int .u8 v))
  have C3 := hid C
  obtain ⟨a3, cap3, e3, s3, n3⟩ := own_sl C (set_in20 ZB.out hv i)
  have S3 := hid s3
  have N3 := hid n3
  have E3 : Hid (Value.slice (some ⟨g, 0, none⟩) z.length cap2 = .slice a3 z.length cap3) := by show _ = _; rw [List.length_set] at e3; exact e3
  clear C o2 g2 K2 O SL e3 s3 n3 C3
  go_wp2
  go_ret
  exact ⟨a3, cap3, by rw [← E3.out]; rfl, S3.out, N3.out, K3.out⟩
/-- A row of them is another one. -/
theorem rm_off {F : Nat → Prop} {m : Rm} (h : RmOff F m) {N : Nat} (hF : ∀ k, F k → k < N) {a3 : Option Addr} (cap3 : Nat) (n3 : Newer N a3) : RmOff F { m with xv := a3, cv := cap3 } ∧ RmOff F { m with xw := a3, cw := cap3 } ∧ RmOff F { m with xo := a3, co := cap3 } ∧ RmOff F { m with xh := a3, ch := cap3 } := by
  have q : ∀ x, a3 = some x → ¬ F x.block := fun x hx f => by have := n3 x hx; have := hF _ f; omega
  exact ⟨⟨q, h.sw, h.so, h.sh⟩, ⟨h.sv, q, h.so, h.sh⟩, ⟨h.sv, h.sw, q, h.sh⟩, ⟨h.sv, h.sw, h.so, q⟩⟩
set_option maxRecDepth 100000 in
set_option maxHeartbeats 4000000 in
theorem rput_1 (m : Rm) (M : List Int) (a v : Int) (i : Nat) (w : World) (h : RmIn w m M) (hv : InByte v) (hl : i < 8192)
    (RG : ∀ u, Calls Tryd.prog 11 #[.int .u16 a] u fun e w' => e = .returned (.tuple #[.int .i64 1, .int .i64 (i : Int)]) ∧ w' = u) : Calls Tryd.prog 23 #[rmV m, .int .u16 a, .int .u8 v] w fun e w' => ∃ m', e = .returned (rmV m') ∧ RmIn w' m' (M.set (0 + i) v) ∧ (∀ F : Nat → Prop, RmOff F m → (∀ k, F k → k < w.heap.size) → RmOff F m') ∧ Kept w w' := by
  have RG := hid RG
  have hw := h.sv
  have KA := hid (((Kept.refl w).alloc (.cells (rmL m).toArray 35)).alloc (.cells #[.slice none 0 0, .slice none 0 0, .slice none 0 0, .slice none 0 0] 35))
  have W := hid (fun u (k : Kept w u) => rwith20 m.xv m.cv (sg M 0 8192) i v u (sl_kept k hw) (by rw [sg_len h.len (by decide)]; exact hl) (by rw [sg_len h.len (by decide)]; decide) hv)
  rw [sg_len h.len (by decide)] at W
  have B1 : Hid (Blk ((w.alloc (.cells (rmL m).toArray 35)).alloc (.cells #[.slice none 0 0, .slice none 0 0, .slice none 0 0, .slice none 0 0] 35)) w.heap.size 35 (rmL m)) := blk_past (blk_new w _ _) _
  have D1 : Hid (Blk ((w.alloc (.cells (rmL m).toArray 35)).alloc (.cells #[.slice none 0 0, .slice none 0 0, .slice none 0 0, .slice none 0 0] 35)) (w.heap.size + 1) 35 [.slice none 0 0, .slice none 0 0, .slice none 0 0, .slice none 0 0]) := by
    have q := blk_new (w.alloc (.cells (rmL m).toArray 35)) [.slice none 0 0, .slice none 0 0, .slice none 0 0, .slice none 0 0] 35
    rw [World.size_alloc] at q
    exact q
  have HH := hid h
  have NE : Hid (w.heap.size + 1 ≠ w.heap.size) := Nat.succ_ne_self _
  clear h hw
  go_enter Tryd.func23, Tryd.ntmps23
  go_wp2_with fail
  refine (RG.out _).mono ?_
  rintro e u1 ⟨rfl, e1⟩
  subst e1
  go_wp2_with fail
  refine (W.out _ KA.out).mono ?_
  rintro e u2 ⟨a3, cap3, rfl, s3, n3, k3⟩
  have B2 := blk_kept k3 B1.out
  have D2 := hid (blk_kept k3 D1.out)
  have z2 := blk_lt B2
  have K2 := hid (KA.out.trans k3)
  have S3 := hid s3
  have N3 : Hid (Newer w.heap.size a3) := fun x hx => by have := n3 x hx; have := KA.out.size; omega
  have N4 : Hid (Newer (w.heap.size + 2) a3) := fun x hx => by have := n3 x hx; rw [World.size_alloc, World.size_alloc] at this; omega
  clear k3 s3 n3 B1 D1 W
  go_wp2_with ((with_reducible refine at_st 33 ?_); refine wl_store rfl rfl rfl rfl B2 (by kernel_rfl) rfl (Nat.le_of_ble_eq_true rfl) (fun u3 p3 => ?_); refine Hid.out ?_)
  refine hid ?_
  have B3 : Blk u3 w.heap.size 35 [.slice a3 8192 cap3, .slice m.xw 8192 m.cw, .slice m.xo 160 m.co, .slice m.xh 127 m.ch] := p3.blk
  have D3 := p3.other _ _ _ NE.out D2.out
  have K3 := hid (p3.kept _ K2.out (Nat.le_refl _))
  have S4 := hid (sl_put p3 S3.out (fun x hx => by have := N4.out x hx; omega))
  have B4 := hid B3
  clear p3 B2 D2 S3 K2
  go_wp2_with (first | ((with_reducible refine at_ld 35 ?_); refine wl_load0 rfl rfl rfl B3 Tryd.underlying35 rfl (by kernel_rfl) ?_) | ((with_reducible refine at_st 35 ?_); refine wl_store rfl rfl rfl rfl D3 (by kernel_rfl) rfl (Nat.le_of_ble_eq_true rfl) (fun u4 p4 => ?_); have D4 : Blk u4 (w.heap.size + 1) 35 [.slice a3 8192 cap3, .slice m.xw 8192 m.cw, .slice m.xo 160 m.co, .slice m.xh 127 m.ch] := p4.blk; have K4 := hid (p4.kept _ K3.out (Nat.le_succ _)); have S5 := hid (sl_put p4 S4.out (fun x hx => by have := N4.out x hx; omega)); clear p4))
  refine bodyPost_ret (res_cell Tryd.results23 rfl D4 Tryd.underlying35 rfl (by kernel_rfl)) rfl ⟨{ m with xv := a3, cv := cap3 }, rfl, ?_, fun F f hF => (rm_off f hF cap3 N3.out).1, K4.out⟩
  have q := S5.out
  rw [sg_set hl] at q
  have hh := rm_kept K4.out HH.out
  exact ⟨q, by rw [sg_out (by omega)]; exact hh.sw, by rw [sg_out (by omega)]; exact hh.so, by rw [sg_out (by omega)]; exact hh.sh, by rw [List.length_set]; exact hh.len, set_in20 hh.byt hv _⟩
set_option maxRecDepth 100000 in
set_option maxHeartbeats 4000000 in
theorem rput_3 (m : Rm) (M : List Int) (a v : Int) (i : Nat) (w : World) (h : RmIn w m M) (hv : InByte v) (hl : i < 8192)
    (RG : ∀ u, Calls Tryd.prog 11 #[.int .u16 a] u fun e w' => e = .returned (.tuple #[.int .i64 3, .int .i64 (i : Int)]) ∧ w' = u) : Calls Tryd.prog 23 #[rmV m, .int .u16 a, .int .u8 v] w fun e w' => ∃ m', e = .returned (rmV m') ∧ RmIn w' m' (M.set (8192 + i) v) ∧ (∀ F : Nat → Prop, RmOff F m → (∀ k, F k → k < w.heap.size) → RmOff F m') ∧ Kept w w' := by
  have RG := hid RG
  have hw := h.sw
  have KA := hid (((Kept.refl w).alloc (.cells (rmL m).toArray 35)).alloc (.cells #[.slice none 0 0, .slice none 0 0, .slice none 0 0, .slice none 0 0] 35))
  have W := hid (fun u (k : Kept w u) => rwith20 m.xw m.cw (sg M 8192 8192) i v u (sl_kept k hw) (by rw [sg_len h.len (by decide)]; exact hl) (by rw [sg_len h.len (by decide)]; decide) hv)
  rw [sg_len h.len (by decide)] at W
  have B1 : Hid (Blk ((w.alloc (.cells (rmL m).toArray 35)).alloc (.cells #[.slice none 0 0, .slice none 0 0, .slice none 0 0, .slice none 0 0] 35)) w.heap.size 35 (rmL m)) := blk_past (blk_new w _ _) _
  have D1 : Hid (Blk ((w.alloc (.cells (rmL m).toArray 35)).alloc (.cells #[.slice none 0 0, .slice none 0 0, .slice none 0 0, .slice none 0 0] 35)) (w.heap.size + 1) 35 [.slice none 0 0, .slice none 0 0, .slice none 0 0, .slice none 0 0]) := by
    have q := blk_new (w.alloc (.cells (rmL m).toArray 35)) [.slice none 0 0, .slice none 0 0, .slice none 0 0, .slice none 0 0] 35
    rw [World.size_alloc] at q
    exact q
  have HH := hid h
  have NE : Hid (w.heap.size + 1 ≠ w.heap.size) := Nat.succ_ne_self _
  clear h hw
  go_enter Tryd.func23, Tryd.ntmps23
  go_wp2_with fail
  refine (RG.out _).mono ?_
  rintro e u1 ⟨rfl, e1⟩
  subst e1
  go_wp2_with fail
  refine (W.out _ KA.out).mono ?_
  rintro e u2 ⟨a3, cap3, rfl, s3, n3, k3⟩
  have B2 := blk_kept k3 B1.out
  have D2 := hid (blk_kept k3 D1.out)
  have z2 := blk_lt B2
  have K2 := hid (KA.out.trans k3)
  have S3 := hid s3
  have N3 : Hid (Newer w.heap.size a3) := fun x hx => by have := n3 x hx; have := KA.out.size; omega
  have N4 : Hid (Newer (w.heap.size + 2) a3) := fun x hx => by have := n3 x hx; rw [World.size_alloc, World.size_alloc] at this; omega
  clear k3 s3 n3 B1 D1 W
  go_wp2_with ((with_reducible refine at_st 33 ?_); refine wl_store rfl rfl rfl rfl B2 (by kernel_rfl) rfl (Nat.le_of_ble_eq_true rfl) (fun u3 p3 => ?_); refine Hid.out ?_)
  refine hid ?_
  have B3 : Blk u3 w.heap.size 35 [.slice m.xv 8192 m.cv, .slice a3 8192 cap3, .slice m.xo 160 m.co, .slice m.xh 127 m.ch] := p3.blk
  have D3 := p3.other _ _ _ NE.out D2.out
  have K3 := hid (p3.kept _ K2.out (Nat.le_refl _))
  have S4 := hid (sl_put p3 S3.out (fun x hx => by have := N4.out x hx; omega))
  have B4 := hid B3
  clear p3 B2 D2 S3 K2
  go_wp2_with (first | ((with_reducible refine at_ld 35 ?_); refine wl_load0 rfl rfl rfl B3 Tryd.underlying35 rfl (by kernel_rfl) ?_) | ((with_reducible refine at_st 35 ?_); refine wl_store rfl rfl rfl rfl D3 (by kernel_rfl) rfl (Nat.le_of_ble_eq_true rfl) (fun u4 p4 => ?_); have D4 : Blk u4 (w.heap.size + 1) 35 [.slice m.xv 8192 m.cv, .slice a3 8192 cap3, .slice m.xo 160 m.co, .slice m.xh 127 m.ch] := p4.blk; have K4 := hid (p4.kept _ K3.out (Nat.le_succ _)); have S5 := hid (sl_put p4 S4.out (fun x hx => by have := N4.out x hx; omega)); clear p4))
  refine bodyPost_ret (res_cell Tryd.results23 rfl D4 Tryd.underlying35 rfl (by kernel_rfl)) rfl ⟨{ m with xw := a3, cw := cap3 }, rfl, ?_, fun F f hF => (rm_off f hF cap3 N3.out).2.1, K4.out⟩
  have q := S5.out
  rw [sg_set hl] at q
  have hh := rm_kept K4.out HH.out
  exact ⟨by rw [sg_out (by omega)]; exact hh.sv, q, by rw [sg_out (by omega)]; exact hh.so, by rw [sg_out (by omega)]; exact hh.sh, by rw [List.length_set]; exact hh.len, set_in20 hh.byt hv _⟩
set_option maxRecDepth 100000 in
set_option maxHeartbeats 4000000 in
theorem rput_4 (m : Rm) (M : List Int) (a v : Int) (i : Nat) (w : World) (h : RmIn w m M) (hv : InByte v) (hl : i < 160)
    (RG : ∀ u, Calls Tryd.prog 11 #[.int .u16 a] u fun e w' => e = .returned (.tuple #[.int .i64 4, .int .i64 (i : Int)]) ∧ w' = u) : Calls Tryd.prog 23 #[rmV m, .int .u16 a, .int .u8 v] w fun e w' => ∃ m', e = .returned (rmV m') ∧ RmIn w' m' (M.set (16384 + i) v) ∧ (∀ F : Nat → Prop, RmOff F m → (∀ k, F k → k < w.heap.size) → RmOff F m') ∧ Kept w w' := by
  have RG := hid RG
  have hw := h.so
  have KA := hid (((Kept.refl w).alloc (.cells (rmL m).toArray 35)).alloc (.cells #[.slice none 0 0, .slice none 0 0, .slice none 0 0, .slice none 0 0] 35))
  have W := hid (fun u (k : Kept w u) => rwith20 m.xo m.co (sg M 16384 160) i v u (sl_kept k hw) (by rw [sg_len h.len (by decide)]; exact hl) (by rw [sg_len h.len (by decide)]; decide) hv)
  rw [sg_len h.len (by decide)] at W
  have B1 : Hid (Blk ((w.alloc (.cells (rmL m).toArray 35)).alloc (.cells #[.slice none 0 0, .slice none 0 0, .slice none 0 0, .slice none 0 0] 35)) w.heap.size 35 (rmL m)) := blk_past (blk_new w _ _) _
  have D1 : Hid (Blk ((w.alloc (.cells (rmL m).toArray 35)).alloc (.cells #[.slice none 0 0, .slice none 0 0, .slice none 0 0, .slice none 0 0] 35)) (w.heap.size + 1) 35 [.slice none 0 0, .slice none 0 0, .slice none 0 0, .slice none 0 0]) := by
    have q := blk_new (w.alloc (.cells (rmL m).toArray 35)) [.slice none 0 0, .slice none 0 0, .slice none 0 0, .slice none 0 0] 35
    rw [World.size_alloc] at q
    exact q
  have HH := hid h
  have NE : Hid (w.heap.size + 1 ≠ w.heap.size) := Nat.succ_ne_self _
  clear h hw
  go_enter Tryd.func23, Tryd.ntmps23
  go_wp2_with fail
  refine (RG.out _).mono ?_
  rintro e u1 ⟨rfl, e1⟩
  subst e1
  go_wp2_with fail
  refine (W.out _ KA.out).mono ?_
  rintro e u2 ⟨a3, cap3, rfl, s3, n3, k3⟩
  have B2 := blk_kept k3 B1.out
  have D2 := hid (blk_kept k3 D1.out)
  have z2 := blk_lt B2
  have K2 := hid (KA.out.trans k3)
  have S3 := hid s3
  have N3 : Hid (Newer w.heap.size a3) := fun x hx => by have := n3 x hx; have := KA.out.size; omega
  have N4 : Hid (Newer (w.heap.size + 2) a3) := fun x hx => by have := n3 x hx; rw [World.size_alloc, World.size_alloc] at this; omega
  clear k3 s3 n3 B1 D1 W
  go_wp2_with ((with_reducible refine at_st 33 ?_); refine wl_store rfl rfl rfl rfl B2 (by kernel_rfl) rfl (Nat.le_of_ble_eq_true rfl) (fun u3 p3 => ?_); refine Hid.out ?_)
  refine hid ?_
  have B3 : Blk u3 w.heap.size 35 [.slice m.xv 8192 m.cv, .slice m.xw 8192 m.cw, .slice a3 160 cap3, .slice m.xh 127 m.ch] := p3.blk
  have D3 := p3.other _ _ _ NE.out D2.out
  have K3 := hid (p3.kept _ K2.out (Nat.le_refl _))
  have S4 := hid (sl_put p3 S3.out (fun x hx => by have := N4.out x hx; omega))
  have B4 := hid B3
  clear p3 B2 D2 S3 K2
  go_wp2_with (first | ((with_reducible refine at_ld 35 ?_); refine wl_load0 rfl rfl rfl B3 Tryd.underlying35 rfl (by kernel_rfl) ?_) | ((with_reducible refine at_st 35 ?_); refine wl_store rfl rfl rfl rfl D3 (by kernel_rfl) rfl (Nat.le_of_ble_eq_true rfl) (fun u4 p4 => ?_); have D4 : Blk u4 (w.heap.size + 1) 35 [.slice m.xv 8192 m.cv, .slice m.xw 8192 m.cw, .slice a3 160 cap3, .slice m.xh 127 m.ch] := p4.blk; have K4 := hid (p4.kept _ K3.out (Nat.le_succ _)); have S5 := hid (sl_put p4 S4.out (fun x hx => by have := N4.out x hx; omega)); clear p4))
  refine bodyPost_ret (res_cell Tryd.results23 rfl D4 Tryd.underlying35 rfl (by kernel_rfl)) rfl ⟨{ m with xo := a3, co := cap3 }, rfl, ?_, fun F f hF => (rm_off f hF cap3 N3.out).2.2.1, K4.out⟩
  have q := S5.out
  rw [sg_set hl] at q
  have hh := rm_kept K4.out HH.out
  exact ⟨by rw [sg_out (by omega)]; exact hh.sv, by rw [sg_out (by omega)]; exact hh.sw, q, by rw [sg_out (by omega)]; exact hh.sh, by rw [List.length_set]; exact hh.len, set_in20 hh.byt hv _⟩
set_option maxRecDepth 100000 in
set_option maxHeartbeats 4000000 in
theorem rput_7 (m : Rm) (M : List Int) (a v : Int) (i : Nat) (w : World) (h : RmIn w m M) (hv : InByte v) (hl : i < 127)
    (RG : ∀ u, Calls Tryd.prog 11 #[.int .u16 a] u fun e w' => e = .returned (.tuple #[.int .i64 7, .int .i64 (i : Int)]) ∧ w' = u) : Calls Tryd.prog 23 #[rmV m, .int .u16 a, .int .u8 v] w fun e w' => ∃ m', e = .returned (rmV m') ∧ RmIn w' m' (M.set (16544 + i) v) ∧ (∀ F : Nat → Prop, RmOff F m → (∀ k, F k → k < w.heap.size) → RmOff F m') ∧ Kept w w' := by
  have RG := hid RG
  have hw := h.sh
  have KA := hid (((Kept.refl w).alloc (.cells (rmL m).toArray 35)).alloc (.cells #[.slice none 0 0, .slice none 0 0, .slice none 0 0, .slice none 0 0] 35))
  have W := hid (fun u (k : Kept w u) => rwith20 m.xh m.ch (sg M 16544 127) i v u (sl_kept k hw) (by rw [sg_len h.len (by decide)]; exact hl) (by rw [sg_len h.len (by decide)]; decide) hv)
  rw [sg_len h.len (by decide)] at W
  have B1 : Hid (Blk ((w.alloc (.cells (rmL m).toArray 35)).alloc (.cells #[.slice none 0 0, .slice none 0 0, .slice none 0 0, .slice none 0 0] 35)) w.heap.size 35 (rmL m)) := blk_past (blk_new w _ _) _
  have D1 : Hid (Blk ((w.alloc (.cells (rmL m).toArray 35)).alloc (.cells #[.slice none 0 0, .slice none 0 0, .slice none 0 0, .slice none 0 0] 35)) (w.heap.size + 1) 35 [.slice none 0 0, .slice none 0 0, .slice none 0 0, .slice none 0 0]) := by
    have q := blk_new (w.alloc (.cells (rmL m).toArray 35)) [.slice none 0 0, .slice none 0 0, .slice none 0 0, .slice none 0 0] 35
    rw [World.size_alloc] at q
    exact q
  have HH := hid h
  have NE : Hid (w.heap.size + 1 ≠ w.heap.size) := Nat.succ_ne_self _
  clear h hw
  go_enter Tryd.func23, Tryd.ntmps23
  go_wp2_with fail
  refine (RG.out _).mono ?_
  rintro e u1 ⟨rfl, e1⟩
  subst e1
  go_wp2_with fail
  refine (W.out _ KA.out).mono ?_
  rintro e u2 ⟨a3, cap3, rfl, s3, n3, k3⟩
  have B2 := blk_kept k3 B1.out
  have D2 := hid (blk_kept k3 D1.out)
  have z2 := blk_lt B2
  have K2 := hid (KA.out.trans k3)
  have S3 := hid s3
  have N3 : Hid (Newer w.heap.size a3) := fun x hx => by have := n3 x hx; have := KA.out.size; omega
  have N4 : Hid (Newer (w.heap.size + 2) a3) := fun x hx => by have := n3 x hx; rw [World.size_alloc, World.size_alloc] at this; omega
  clear k3 s3 n3 B1 D1 W
  go_wp2_with ((with_reducible refine at_st 33 ?_); refine wl_store rfl rfl rfl rfl B2 (by kernel_rfl) rfl (Nat.le_of_ble_eq_true rfl) (fun u3 p3 => ?_); refine Hid.out ?_)
  refine hid ?_
  have B3 : Blk u3 w.heap.size 35 [.slice m.xv 8192 m.cv, .slice m.xw 8192 m.cw, .slice m.xo 160 m.co, .slice a3 127 cap3] := p3.blk
  have D3 := p3.other _ _ _ NE.out D2.out
  have K3 := hid (p3.kept _ K2.out (Nat.le_refl _))
  have S4 := hid (sl_put p3 S3.out (fun x hx => by have := N4.out x hx; omega))
  have B4 := hid B3
  clear p3 B2 D2 S3 K2
  go_wp2_with (first | ((with_reducible refine at_ld 35 ?_); refine wl_load0 rfl rfl rfl B3 Tryd.underlying35 rfl (by kernel_rfl) ?_) | ((with_reducible refine at_st 35 ?_); refine wl_store rfl rfl rfl rfl D3 (by kernel_rfl) rfl (Nat.le_of_ble_eq_true rfl) (fun u4 p4 => ?_); have D4 : Blk u4 (w.heap.size + 1) 35 [.slice m.xv 8192 m.cv, .slice m.xw 8192 m.cw, .slice m.xo 160 m.co, .slice a3 127 cap3] := p4.blk; have K4 := hid (p4.kept _ K3.out (Nat.le_succ _)); have S5 := hid (sl_put p4 S4.out (fun x hx => by have := N4.out x hx; omega)); clear p4))
  refine bodyPost_ret (res_cell Tryd.results23 rfl D4 Tryd.underlying35 rfl (by kernel_rfl)) rfl ⟨{ m with xh := a3, ch := cap3 }, rfl, ?_, fun F f hF => (rm_off f hF cap3 N3.out).2.2.2, K4.out⟩
  have q := S5.out
  rw [sg_set hl] at q
  have hh := rm_kept K4.out HH.out
  exact ⟨by rw [sg_out (by omega)]; exact hh.sv, by rw [sg_out (by omega)]; exact hh.sw, by rw [sg_out (by omega)]; exact hh.so, q, by rw [List.length_set]; exact hh.len, set_in20 hh.byt hv _⟩
set_option maxRecDepth 100000 in
set_option maxHeartbeats 4000000 in
theorem robj_in (m : Rm) (M : List Int) (v : Int) (i : Nat) (w : World) (h : RmIn w m M) (hv : InByte v) (hl : i < 160) : Calls Tryd.prog 25 #[rmV m, .int .u8 (i : Int), .int .u8 v] w fun e w' => ∃ m', e = .returned (rmV m') ∧ RmIn w' m' (M.set (16384 + i) v) ∧ (∀ F : Nat → Prop, RmOff F m → (∀ k, F k → k < w.heap.size) → RmOff F m') ∧ Kept w w' := by
  have g1 : decide ((i : Int) < 160) = true := decide_eq_true (by omega)
  have e1 : IntKind.i64.wrap (i : Int) = (i : Int) := by rw [IntKind.wrap_i64]; omega
  have hw := h.so
  have KA := hid (((Kept.refl w).alloc (.cells (rmL m).toArray 35)).alloc (.cells #[.slice none 0 0, .slice none 0 0, .slice none 0 0, .slice none 0 0] 35))
  have W := hid (fun u (k : Kept w u) => rwith20 m.xo m.co (sg M 16384 160) i v u (sl_kept k hw) (by rw [sg_len h.len (by decide)]; exact hl) (by rw [sg_len h.len (by decide)]; decide) hv)
  rw [sg_len h.len (by decide)] at W
  have B1 : Hid (Blk ((w.alloc (.cells (rmL m).toArray 35)).alloc (.cells #[.slice none 0 0, .slice none 0 0, .slice none 0 0, .slice none 0 0] 35)) w.heap.size 35 (rmL m)) := blk_past (blk_new w _ _) _
  have D1 : Hid (Blk ((w.alloc (.cells (rmL m).toArray 35)).alloc (.cells #[.slice none 0 0, .slice none 0 0, .slice none 0 0, .slice none 0 0] 35)) (w.heap.size + 1) 35 [.slice none 0 0, .slice none 0 0, .slice none 0 0, .slice none 0 0]) := by
    have q := blk_new (w.alloc (.cells (rmL m).toArray 35)) [.slice none 0 0, .slice none 0 0, .slice none 0 0, .slice none 0 0] 35
    rw [World.size_alloc] at q
    exact q
  have HH := hid h
  have NE : Hid (w.heap.size + 1 ≠ w.heap.size) := Nat.succ_ne_self _
  clear h hw
  go_enter Tryd.func25, Tryd.ntmps25
  go_wp2_with fail
  refine (W.out _ KA.out).mono ?_
  rintro e u2 ⟨a3, cap3, rfl, s3, n3, k3⟩
  have B2 := blk_kept k3 B1.out
  have D2 := hid (blk_kept k3 D1.out)
  have z2 := blk_lt B2
  have K2 := hid (KA.out.trans k3)
  have S3 := hid s3
  have N3 : Hid (Newer w.heap.size a3) := fun x hx => by have := n3 x hx; have := KA.out.size; omega
  have N4 : Hid (Newer (w.heap.size + 2) a3) := fun x hx => by have := n3 x hx; rw [World.size_alloc, World.size_alloc] at this; omega
  clear k3 s3 n3 B1 D1 W
  go_wp2_with ((with_reducible refine at_st 33 ?_); refine wl_store rfl rfl rfl rfl B2 (by kernel_rfl) rfl (Nat.le_of_ble_eq_true rfl) (fun u3 p3 => ?_); refine Hid.out ?_)
  refine hid ?_
  have B3 : Blk u3 w.heap.size 35 [.slice m.xv 8192 m.cv, .slice m.xw 8192 m.cw, .slice a3 160 cap3, .slice m.xh 127 m.ch] := p3.blk
  have D3 := p3.other _ _ _ NE.out D2.out
  have K3 := hid (p3.kept _ K2.out (Nat.le_refl _))
  have S4 := hid (sl_put p3 S3.out (fun x hx => by have := N4.out x hx; omega))
  have B4 := hid B3
  clear p3 B2 D2 S3 K2
  go_wp2_with (first | ((with_reducible refine at_ld 35 ?_); refine wl_load0 rfl rfl rfl B3 Tryd.underlying35 rfl (by kernel_rfl) ?_) | ((with_reducible refine at_st 35 ?_); refine wl_store rfl rfl rfl rfl D3 (by kernel_rfl) rfl (Nat.le_of_ble_eq_true rfl) (fun u4 p4 => ?_); have D4 : Blk u4 (w.heap.size + 1) 35 [.slice m.xv 8192 m.cv, .slice m.xw 8192 m.cw, .slice a3 160 cap3, .slice m.xh 127 m.ch] := p4.blk; have K4 := hid (p4.kept _ K3.out (Nat.le_succ _)); have S5 := hid (sl_put p4 S4.out (fun x hx => by have := N4.out x hx; omega)); clear p4))
  refine bodyPost_ret (res_cell Tryd.results25 rfl D4 Tryd.underlying35 rfl (by kernel_rfl)) rfl ⟨{ m with xo := a3, co := cap3 }, rfl, ?_, fun F f hF => (rm_off f hF cap3 N3.out).2.2.1, K4.out⟩
  have q := S5.out
  rw [sg_set hl] at q
  have hh := rm_kept K4.out HH.out
  exact ⟨by rw [sg_out (by omega)]; exact hh.sv, by rw [sg_out (by omega)]; exact hh.sw, q, by rw [sg_out (by omega)]; exact hh.sh, by rw [List.length_set]; exact hh.len, set_in20 hh.byt hv _⟩
set_option maxRecDepth 100000 in
set_option maxHeartbeats 4000000 in
theorem robj_no (m : Rm) (M : List Int) (i v : Int) (w : World) (h : RmIn w m M) (hi : 160 ≤ i) : Calls Tryd.prog 25 #[rmV m, .int .u8 i, .int .u8 v] w fun e w' => ∃ m', e = .returned (rmV m') ∧ RmIn w' m' M ∧ (∀ F : Nat → Prop, RmOff F m → (∀ k, F k → k < w.heap.size) → RmOff F m') ∧ Kept w w' := by
  have g1 : decide (i < 160) = false := decide_eq_false (by omega)
  have HH := hid h
  clear h
  go_enter Tryd.func25, Tryd.ntmps25
  go_wp2
  refine bodyPost_ret (v := rmV m) (by simp [results, Tryd.results25, go_sem]) rfl ?_
  have K : Kept w _ := (((Kept.refl w).alloc (.cells #[.slice m.xv 8192 m.cv, .slice m.xw 8192 m.cw, .slice m.xo 160 m.co, .slice m.xh 127 m.ch] 35)).alloc (.cells #[.slice m.xv 8192 m.cv, .slice m.xw 8192 m.cw, .slice m.xo 160 m.co, .slice m.xh 127 m.ch] 35))
  exact ⟨m, rfl, rm_kept K HH.out, fun F f _ => f, K⟩
set_option maxRecDepth 100000 in
set_option maxHeartbeats 4000000 in
theorem rput_no (m : Rm) (M : List Int) (a v r : Int) (i : Int) (w : World) (h : RmIn w m M) (hr : keepR r = false)
    (RG : ∀ u, Calls Tryd.prog 11 #[.int .u16 a] u fun e w' => e = .returned (.tuple #[.int .i64 r, .int .i64 i]) ∧ w' = u) : Calls Tryd.prog 23 #[rmV m, .int .u16 a, .int .u8 v] w fun e w' => ∃ m', e = .returned (rmV m') ∧ RmIn w' m' M ∧ (∀ F : Nat → Prop, RmOff F m → (∀ k, F k → k < w.heap.size) → RmOff F m') ∧ Kept w w' := by
  obtain ⟨h1, h3, h4, h7⟩ := keep_not hr
  have n1 : (r == 1) = false := beq_false_of_ne h1
  have n3 : (r == 3) = false := beq_false_of_ne h3
  have n4 : (r == 4) = false := beq_false_of_ne h4
  have n7 : (r == 7) = false := beq_false_of_ne h7
  have HH := hid h
  have RG := hid RG
  clear h h1 h3 h4 h7 hr
  go_enter Tryd.func23, Tryd.ntmps23
  go_wp2_with fail
  refine (RG.out _).mono ?_
  rintro e u1 ⟨rfl, e1⟩
  subst e1
  go_wp2
  refine bodyPost_ret (v := rmV m) (by simp [results, Tryd.results23, go_sem]) rfl ?_
  have K : Kept w _ := (((Kept.refl w).alloc (.cells #[.slice m.xv 8192 m.cv, .slice m.xw 8192 m.cw, .slice m.xo 160 m.co, .slice m.xh 127 m.ch] 35)).alloc (.cells #[.slice m.xv 8192 m.cv, .slice m.xw 8192 m.cw, .slice m.xo 160 m.co, .slice m.xh 127 m.ch] 35))
  exact ⟨m, rfl, rm_kept K HH.out, fun F f _ => f, K⟩
theorem rput20 (m : Rm) (M : List Int) (a v : Int) (w : World) (h : RmIn w m M) (hv : InByte v) (a0 : 0 ≤ a) (a1 : a ≤ 65535) : Calls Tryd.prog 23 #[rmV m, .int .u16 a, .int .u8 v] w fun e w' => ∃ m', e = .returned (rmV m') ∧ RmIn w' m' (putP M a v) ∧ (∀ F : Nat → Prop, RmOff F m → (∀ k, F k → k < w.heap.size) → RmOff F m') ∧ Kept w w' := by
  have RG := fun u => rreg20 a u a0 a1
  unfold putP
  cases hk : keepR (regP a)
  · rw [if_neg (by simp)]
    exact rput_no m M a v _ _ w h hk RG
  · rw [if_pos rfl]
    have hl := at_lt a a0 a1 hk
    rw [at_nat a a0 a1] at RG
    unfold plN
    generalize regP a = r at *
    generalize (atP20 a).toNat = i at *
    rcases keep_cases hk with rfl | rfl | rfl | rfl
    · exact rput_1 m M a v i w h hv hl RG
    · exact rput_3 m M a v i w h hv hl RG
    · exact rput_4 m M a v i w h hv hl RG
    · exact rput_7 m M a v i w h hv hl RG
theorem robj20 (m : Rm) (M : List Int) (i v : Int) (w : World) (h : RmIn w m M) (hv : InByte v) (i0 : 0 ≤ i) : Calls Tryd.prog 25 #[rmV m, .int .u8 i, .int .u8 v] w fun e w' => ∃ m', e = .returned (rmV m') ∧ RmIn w' m' (objP20 M i v) ∧ (∀ F : Nat → Prop, RmOff F m → (∀ k, F k → k < w.heap.size) → RmOff F m') ∧ Kept w w' := by
  unfold objP20
  by_cases hi : i < 160
  · rw [if_pos hi]
    have q := robj_in m M v i.toNat w h hv (by omega)
    rw [show ((i.toNat : Nat) : Int) = i by omega] at q
    exact q
  · rw [if_neg hi]
    exact robj_no m M i v w h (by omega)
end Go.Proofs.YtfndpikcodjajaaDoor
