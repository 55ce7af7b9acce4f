/- The program's memories: nobodys, held, Get, put, Put, Object. -/
import Derived.Test.YtfndpikcodjajaaDoorMm20
import Derived.Handy
namespace Go.Proofs.YtfndpikcodjajaaDoor
open Go.RowKit
set_option linter.unusedVariables false
set_option linter.unusedSimpArgs false

set_option maxRecDepth 100000 in
set_option maxHeartbeats 4000000 in
theorem pnob20 (b : Nat) (m : Bool) (w : World) (c0 : w.cell? ⟨b, 0, none⟩ = some (.bool m)) (zb : b < w.heap.size) : Calls Tryd.prog 33 #[.pointer (some ⟨b, 0, none⟩)] w fun e w' => e = .returned (.bool (!m)) ∧ w' = w := by
  go_enter Tryd.func33, Tryd.ntmps33
  go_wp2
  go_ret
  exact ⟨rfl, rfl⟩
set_option maxRecDepth 100000 in
set_option maxHeartbeats 4000000 in
theorem pnob_nil (w : World) : Calls Tryd.prog 33 #[.pointer none] w fun e w' => e = .returned (.bool true) ∧ w' = w := by
  go_enter Tryd.func33, Tryd.ntmps33
  go_wp2
  go_ret
  exact ⟨rfl, rfl⟩
set_option maxRecDepth 100000 in
set_option maxHeartbeats 4000000 in
theorem pheld_in (b : Nat) (M : List Int) (r : Int) (w : World) (h : MemAt w b M) (hr : keepR r = true) : Calls Tryd.prog 29 #[.pointer (some ⟨b, 0, none⟩), .int .i64 r] w fun e w' => e = .returned (.slice (some ⟨b, 1 + oNat r, none⟩) (nNat r) (nNat r)) ∧ w' = w := by
  have N := hid (pnob20 b true w (blk_cell h.blk 0) (blk_lt h.blk))
  have zb := blk_lt h.blk
  clear h
  rcases keep_cases hr with rfl | rfl | rfl | rfl
  · rw [show 1 + oNat 1 = 1 from rfl, show nNat 1 = 8192 from rfl]
    go_enter Tryd.func29, Tryd.ntmps29
    go_wp2_with fail
    refine N.out.mono ?_
    rintro e u ⟨rfl, rfl⟩
    go_wp2
    go_ret
    exact ⟨rfl, rfl⟩
  · rw [show 1 + oNat 3 = 8193 from rfl, show nNat 3 = 8192 from rfl]
    go_enter Tryd.func29, Tryd.ntmps29
    go_wp2_with fail
    refine N.out.mono ?_
    rintro e u ⟨rfl, rfl⟩
    go_wp2
    go_ret
    exact ⟨rfl, rfl⟩
  · rw [show 1 + oNat 4 = 16385 from rfl, show nNat 4 = 160 from rfl]
    go_enter Tryd.func29, Tryd.ntmps29
    go_wp2_with fail
    refine N.out.mono ?_
    rintro e u ⟨rfl, rfl⟩
    go_wp2
    go_ret
    exact ⟨rfl, rfl⟩
  · rw [show 1 + oNat 7 = 16545 from rfl, show nNat 7 = 127 from rfl]
    go_enter Tryd.func29, Tryd.ntmps29
    go_wp2_with fail
    refine N.out.mono ?_
    rintro e u ⟨rfl, rfl⟩
    go_wp2
    go_ret
    exact ⟨rfl, rfl⟩
set_option maxRecDepth 100000 in
set_option maxHeartbeats 4000000 in
theorem pheld_no (b : Nat) (M : List Int) (r : Int) (w : World) (h : MemAt w b M) (hr : keepR r = false) : Calls Tryd.prog 29 #[.pointer (some ⟨b, 0, none⟩), .int .i64 r] w fun e w' => e = .returned (.slice none 0 0) ∧ w' = w := by
  have N := hid (pnob20 b true w (blk_cell h.blk 0) (blk_lt h.blk))
  obtain ⟨h1, h3, h4, h7⟩ := keep_not hr
  have g1 : (r == 1) = false := by simpa using h1
  have g3 : (r == 3) = false := by simpa using h3
  have g4 : (r == 4) = false := by simpa using h4
  have g7 : (r == 7) = false := by simpa using h7
  clear h h1 h3 h4 h7 hr
  go_enter Tryd.func29, Tryd.ntmps29
  go_wp2_with fail
  refine N.out.mono ?_
  rintro e u ⟨rfl, rfl⟩
  go_wp2
  go_ret
  exact ⟨rfl, rfl⟩
set_option maxRecDepth 100000 in
set_option maxHeartbeats 4000000 in
theorem pheld_none (v : Value) (r : Int) (w : World) (N : Calls Tryd.prog 33 #[v] w fun e w' => e = .returned (.bool true) ∧ w' = w) : Calls Tryd.prog 29 #[v, .int .i64 r] w fun e w' => e = .returned (.slice none 0 0) ∧ w' = w := by
  have N := hid N
  go_enter Tryd.func29, Tryd.ntmps29
  go_wp2_with fail
  refine N.out.mono ?_
  rintro e u ⟨rfl, rfl⟩
  go_wp2
  go_ret
  exact ⟨rfl, rfl⟩
set_option maxRecDepth 100000 in
set_option maxHeartbeats 4000000 in
theorem pget_yes (b o n i : Nat) (r x a : Int) (w : World) (hi : i < n) (z0 : n ≤ 8192)
    (R : Calls Tryd.prog 10 #[.int .u16 a] w fun e w' => e = .returned (.tuple #[.int .i64 r, .int .i64 (i : Int)]) ∧ Kept w w')
    (H : ∀ u, Kept w u → Calls Tryd.prog 29 #[.pointer (some ⟨b, 0, none⟩), .int .i64 r] u fun e w' => e = .returned (.slice (some ⟨b, o, none⟩) n n) ∧ w' = u)
    (C : ∀ u, Kept w u → u.cell? ⟨b, o + i, none⟩ = some (.int .u8 x)) (zb : b < w.heap.size) : Calls Tryd.prog 20 #[.pointer (some ⟨b, 0, none⟩), .int .u16 a] w fun e w' => e = .returned (.int .u8 x) ∧ Kept w w' := by
  have R := hid R
  have H := hid H
  have C := hid C
  have g1 : decide ((n : Int) ≤ (i : Int)) = false := decide_eq_false (by omega)
  have g2 : (0 : Int) ≤ (i : Int) := by omega
  have g3 : (i : Int) < (n : Int) := by omega
  go_enter Tryd.func20, Tryd.ntmps20
  go_wp2_with fail
  refine R.out.mono ?_
  rintro e u ⟨rfl, k1⟩
  have K1 := hid k1
  have c1 := C.out u k1
  have z1 : b < u.heap.size := Nat.lt_of_lt_of_le zb k1.size
  clear k1
  go_wp2_with fail
  refine (H.out _ K1.out).mono ?_
  rintro e u2 ⟨rfl, rfl⟩
  go_wp2
  go_ret
  exact ⟨rfl, K1.out⟩
set_option maxRecDepth 100000 in
set_option maxHeartbeats 4000000 in
theorem pget_no (v : Value) (i : Nat) (r a : Int) (w : World)
    (R : Calls Tryd.prog 10 #[.int .u16 a] w fun e w' => e = .returned (.tuple #[.int .i64 r, .int .i64 (i : Int)]) ∧ Kept w w')
    (H : ∀ u, Kept w u → Calls Tryd.prog 29 #[v, .int .i64 r] u fun e w' => e = .returned (.slice none 0 0) ∧ w' = u) : Calls Tryd.prog 20 #[v, .int .u16 a] w fun e w' => e = .returned (.int .u8 255) ∧ Kept w w' := by
  have R := hid R
  have H := hid H
  have g1 : decide ((0 : Int) ≤ (i : Int)) = true := decide_eq_true (by omega)
  go_enter Tryd.func20, Tryd.ntmps20
  go_wp2_with fail
  refine R.out.mono ?_
  rintro e u ⟨rfl, k1⟩
  have K1 := hid k1
  clear k1
  go_wp2_with fail
  refine (H.out _ K1.out).mono ?_
  rintro e u2 ⟨rfl, rfl⟩
  go_wp2
  go_ret
  exact ⟨rfl, K1.out⟩
theorem preg_nat (a : Int) (w : World) (lay : Lay20 w) (a0 : 0 ≤ a) (a1 : a ≤ 65535) : Calls Tryd.prog 10 #[.int .u16 a] w fun e w' => e = .returned (.tuple #[.int .i64 (regP a), .int .i64 ((atP20 a).toNat : Int)]) ∧ Kept w w' := by
  have q := preg20 a w lay a0 a1
  rw [at_nat a a0 a1] at q
  exact q
theorem pget20 (b : Nat) (M : List Int) (a : Int) (w : World) (h : MemAt w b M) (lay : Lay20 w) (a0 : 0 ≤ a) (a1 : a ≤ 65535) : Calls Tryd.prog 20 #[.pointer (some ⟨b, 0, none⟩), .int .u16 a] w fun e w' => e = .returned (.int .u8 (getP M a)) ∧ Kept w w' := by
  unfold getP
  cases hr : keepR (regP a)
  · rw [if_neg (by simp)]
    exact pget_no _ _ (regP a) a w (preg_nat a w lay a0 a1) (fun u k => pheld_no b M _ u (mem_kept h k) hr)
  · rw [if_pos rfl]
    have hl := at_lt a a0 a1 hr
    have hp := pl_lt a a0 a1 hr
    refine pget_yes b (1 + oNat (regP a)) (nNat (regP a)) (atP20 a).toNat (regP a) _ a w hl ?_ (preg_nat a w lay a0 a1) (fun u k => pheld_in b M _ u (mem_kept h k) hr) (fun u k => ?_) (blk_lt h.blk)
    · rcases keep_cases hr with e | e | e | e <;> rw [e] <;> decide
    · rw [blk_cell (mem_kept h k).blk, Nat.add_assoc]
      exact memL_at h.len (plN a) hp
set_option maxRecDepth 100000 in
set_option maxHeartbeats 4000000 in
theorem pput_in (b o n i : Nat) (v : Int) (t : TypeId) (cs : List Value) (w : World) (hB : Blk w b t cs) (hi : i < n) (ho : o + i < cs.length) : Calls Tryd.prog 30 #[.slice (some ⟨b, o, none⟩) n n, .int .i64 (i : Int), .int .u8 v] w fun e w' => e = .returned (.tuple #[]) ∧ Put w b t (cs.set (o + i) (.int .u8 v)) w' := by
  have g1 : decide ((i : Int) < (n : Int)) = true := decide_eq_true (by omega)
  have g2 : (0 : Int) ≤ (i : Int) := by omega
  have g3 : (i : Int) < (n : Int) := by omega
  have E : Hid (cs.take (o + i) ++ [Value.int .u8 v] ++ cs.drop (o + i + 1) = cs.set (o + i) (.int .u8 v)) := by
    show _ = _
    rw [List.set_eq_take_append_cons_drop, if_pos ho, List.append_assoc]; rfl
  go_enter Tryd.func30, Tryd.ntmps30
  go_wp2_with ((with_reducible refine at_st 5 ?_); refine wl_store (o := o + i) rfl rfl rfl rfl hB (by kernel_rfl) rfl (by show o + i + 1 ≤ cs.length; omega) (fun v2 p2 => ?_); have P2 := hid (show Put w b t (cs.set (o + i) (.int .u8 v)) v2 by (rw [← E.out]; exact p2)); clear p2)
  go_end0
  exact ⟨rfl, P2.out⟩
set_option maxRecDepth 100000 in
set_option maxHeartbeats 4000000 in
theorem pput_no (i v : Int) (w : World) (i0 : 0 ≤ i) : Calls Tryd.prog 30 #[.slice none 0 0, .int .i64 i, .int .u8 v] w fun e w' => e = .returned (.tuple #[]) ∧ w' = w := by
  have g1 : decide (i < 0) = false := decide_eq_false (by omega)
  go_enter Tryd.func30, Tryd.ntmps30
  go_wp2
  go_end0
  exact ⟨rfl, rfl⟩
set_option maxRecDepth 100000 in
set_option maxHeartbeats 4000000 in
theorem pputs20 (b : Nat) (vp : Value) (i : Nat) (r a v : Int) (w : World) (sl : Value) (Q : World → Prop)
    (R : Calls Tryd.prog 10 #[.int .u16 a] w fun e w' => e = .returned (.tuple #[.int .i64 r, .int .i64 (i : Int)]) ∧ Kept w w')
    (H : ∀ u, Kept w u → Calls Tryd.prog 29 #[vp, .int .i64 r] u fun e w' => e = .returned (sl) ∧ w' = u)
    (U : ∀ u, Kept w u → Calls Tryd.prog 30 #[sl, .int .i64 (i : Int), .int .u8 v] u fun e w' => e = .returned (.tuple #[]) ∧ Q w') : Calls Tryd.prog 22 #[vp, .int .u16 a, .int .u8 v] w fun e w' => e = .returned (.tuple #[]) ∧ Q w' := by
  have R := hid R
  have H := hid H
  have U := hid U
  go_enter Tryd.func22, Tryd.ntmps22
  go_wp2_with fail
  refine R.out.mono ?_
  rintro e u ⟨rfl, k1⟩
  have K1 := hid k1
  clear k1
  go_wp2_with fail
  refine (H.out _ K1.out).mono ?_
  rintro e u2 ⟨rfl, rfl⟩
  go_wp2_with fail
  refine (U.out _ K1.out).mono ?_
  rintro e u3 ⟨rfl, q3⟩
  go_wp2
  go_end0
  exact ⟨rfl, q3⟩
set_option maxRecDepth 100000 in
set_option maxHeartbeats 4000000 in
theorem pobjs20 (vp : Value) (i v : Int) (w : World) (sl : Value) (Q : World → Prop) (i0 : 0 ≤ i) (i1 : i ≤ 255)
    (H : Calls Tryd.prog 29 #[vp, .int .i64 4] w fun e w' => e = .returned (sl) ∧ w' = w)
    (U : Calls Tryd.prog 30 #[sl, .int .i64 i, .int .u8 v] w fun e w' => e = .returned (.tuple #[]) ∧ Q w') : Calls Tryd.prog 24 #[vp, .int .u8 i, .int .u8 v] w fun e w' => e = .returned (.tuple #[]) ∧ Q w' := by
  have H := hid H
  have U := hid U
  have e1 : IntKind.i64.wrap i = i := by rw [IntKind.wrap_i64]; omega
  go_enter Tryd.func24, Tryd.ntmps24
  go_wp2_with fail
  refine H.out.mono ?_
  rintro e u ⟨rfl, rfl⟩
  go_wp2_with fail
  refine U.out.mono ?_
  rintro e u3 ⟨rfl, q3⟩
  go_wp2
  go_end0
  exact ⟨rfl, q3⟩
/-- A byte of the memories is another one. -/
theorem mem_put {w u w2 : World} {b : Nat} {M : List Int} (h : MemAt w b M) (k : Kept w u) (i : Nat) (v : Int) (hv : InByte v) (p : Put u b 55 ((memL true M).set (1 + i) (.int .u8 v)) w2) : MemAt w2 b (M.set i v) ∧ KeptX (fun j => j = b) w w2 := by
  refine ⟨⟨?_, by rw [List.length_set]; exact h.len, set_in20 h.byt hv i, h.far⟩, ?_⟩
  · rw [← memL_set]; exact p.blk
  · exact (KeptX.of k).trans (p.keptX (fun j => j = b) u (KeptX.refl u) (.inl rfl)) (fun j q => .inl q)
theorem pput20 (b : Nat) (M : List Int) (a v : Int) (w : World) (h : MemAt w b M) (lay : Lay20 w) (a0 : 0 ≤ a) (a1 : a ≤ 65535) (hv : InByte v) : Calls Tryd.prog 22 #[.pointer (some ⟨b, 0, none⟩), .int .u16 a, .int .u8 v] w fun e w' => e = .returned (.tuple #[]) ∧ (MemAt w' b (putP M a v) ∧ KeptX (fun j => j = b) w w') := by
  unfold putP
  cases hr : keepR (regP a)
  · rw [if_neg (by simp)]
    exact pputs20 b _ _ (regP a) a v w _ (fun w' => MemAt w' b M ∧ KeptX (fun j => j = b) w w') (preg_nat a w lay a0 a1) (fun u k => pheld_no b M _ u (mem_kept h k) hr) (fun u k => (pput_no _ v u (by omega)).mono fun e x ⟨e1, e2⟩ => ⟨e1, by rw [e2]; exact ⟨mem_kept h k, KeptX.of k⟩⟩)
  · rw [if_pos rfl]
    have hl := at_lt a a0 a1 hr
    have hp := pl_lt a a0 a1 hr
    refine pputs20 b _ _ (regP a) a v w _ (fun w' => MemAt w' b (M.set (plN a) v) ∧ KeptX (fun j => j = b) w w') (preg_nat a w lay a0 a1) (fun u k => pheld_in b M _ u (mem_kept h k) hr) (fun u k => ?_)
    refine (pput_in b (1 + oNat (regP a)) (nNat (regP a)) (atP20 a).toNat v _ _ u (mem_kept h k).blk hl (by rw [memL_len h.len]; unfold plN at hp; omega)).mono fun e x ⟨e1, p⟩ => ⟨e1, ?_⟩
    rw [Nat.add_assoc] at p
    exact mem_put h k _ v hv p
theorem pobj20 (b : Nat) (M : List Int) (i v : Int) (w : World) (h : MemAt w b M) (i0 : 0 ≤ i) (i1 : i ≤ 255) (hv : InByte v) : Calls Tryd.prog 24 #[.pointer (some ⟨b, 0, none⟩), .int .u8 i, .int .u8 v] w fun e w' => e = .returned (.tuple #[]) ∧ (MemAt w' b (objP20 M i v) ∧ KeptX (fun j => j = b) w w') := by
  have H := pheld_in b M 4 w h (by decide)
  rw [show 1 + oNat 4 = 16385 from rfl, show nNat 4 = 160 from rfl] at H
  unfold objP20
  by_cases hi : i < 160
  · rw [if_pos hi]
    refine pobjs20 _ i v w _ (fun w' => MemAt w' b (M.set (16384 + i.toNat) v) ∧ KeptX (fun j => j = b) w w') i0 i1 H ?_
    have q := pput_in b 16385 160 i.toNat v _ _ w h.blk (by omega) (by rw [memL_len h.len]; omega)
    rw [show ((i.toNat : Nat) : Int) = i by omega] at q
    refine q.mono fun e x ⟨e1, p⟩ => ⟨e1, ?_⟩
    rw [show 16385 + i.toNat = 1 + (16384 + i.toNat) by omega] at p
    exact mem_put h (Kept.refl w) _ v hv p
  · rw [if_neg hi]
    refine pobjs20 _ i v w _ (fun w' => MemAt w' b M ∧ KeptX (fun j => j = b) w w') i0 i1 H ?_
    have g1 : decide (i < 160) = false := decide_eq_false hi
    have HM := hid h
    clear h H
    go_enter Tryd.func30, Tryd.ntmps30
    go_wp2
    go_end0
    exact ⟨rfl, HM.out, KeptX.refl w⟩
end Go.Proofs.YtfndpikcodjajaaDoor
