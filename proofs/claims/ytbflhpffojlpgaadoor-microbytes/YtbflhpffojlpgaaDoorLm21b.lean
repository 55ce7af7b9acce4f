/- Layer 21's law of bytes. -/
import Derived.Test.YtbflhpffojlpgaaDoorLm21a
namespace Go.Proofs.YtbflhpffojlpgaaDoor
open Go.RowKit
set_option linter.unusedVariables false
set_option linter.unusedSimpArgs false

/-- How many of the first cycles are at PC. -/
def pcN (L : List Mc) : Nat → Int
  | 0 => 0
  | j + 1 => pcN L j + if (L.getD j default).2.1 = 1 then 1 else 0
theorem pcN_in (L : List Mc) (j : Nat) : 0 ≤ pcN L j ∧ pcN L j ≤ j := by
  induction j with
  | zero => exact ⟨Int.le_refl 0, Int.le_refl 0⟩
  | succ j ih =>
    unfold pcN
    split <;> omega
def bytB (L : List Mc) (f : Fm) (own : Int) : Bool := ((List.range 6).all fun j => !(decide (j < L.length)) || !((L.getD j default).2.1 == 1) || (pcN L j == (j : Int) && (L.getD j default).1 == 1 && (L.getD j default).2.2 == 1 + (j : Int))) && pcN L L.length + own == f.bytes
theorem bytes_one : ((List.range 256).all fun a => bytB (planP (decOf (a : Int)) false) (decOf (a : Int)) 1 && bytB (planP (decOf (a : Int)) true) (decOf (a : Int)) 1 && bytB (planP (cbOf (a : Int)) false) (cbOf (a : Int)) 2 && bytB (planP (cbOf (a : Int)) true) (cbOf (a : Int)) 2) = true := by decide +kernel
theorem bytes_all (op : Int) (cb t : Bool) (h0 : 0 ≤ op) (h1 : op ≤ 255) : bytB (planP (fmOf op cb) t) (fmOf op cb) (if cb = true then 2 else 1) = true := by
  have h2 := List.all_eq_true.1 bytes_one op.toNat (by simp; omega)
  have e : ((op.toNat : Nat) : Int) = op := by omega
  rw [e] at h2
  simp only [Bool.and_eq_true] at h2
  obtain ⟨⟨⟨a, b⟩, c⟩, d⟩ := h2
  cases cb <;> cases t <;> simp only [fmOf, if_true, if_false, Bool.false_eq_true] <;> assumption
theorem byt_at {L : List Mc} {f : Fm} {own : Int} (h : bytB L f own = true) (hl : L.length ≤ 6) (j : Nat) (hj : j < L.length) (hp : (L.getD j default).2.1 = 1) : pcN L j = (j : Int) ∧ (L.getD j default).1 = 1 ∧ (L.getD j default).2.2 = 1 + (j : Int) := by
  unfold bytB at h
  rw [Bool.and_eq_true] at h
  have := List.all_eq_true.1 h.1 j (by simp; omega)
  generalize L.getD j default = o at this hp ⊢
  simp [hj, hp] at this
  exact ⟨this.1.1, this.1.2, this.2⟩
theorem byt_end {L : List Mc} {f : Fm} {own : Int} (h : bytB L f own = true) : pcN L L.length + own = f.bytes := by
  unfold bytB at h
  rw [Bool.and_eq_true] at h
  simpa using h.2
set_option maxRecDepth 100000 in
set_option maxHeartbeats 4000000 in
theorem bytes21 (op : Int) (cb tk : Bool) (w : World) (lay : Lay21 w) (h0 : 0 ≤ op) (h1 : op ≤ 255) : Calls Tryd.prog 6 #[.int .u8 op, .bool cb, .bool tk] w fun e w' => e = .returned (.bool true) ∧ Kept w w' := by
  have S := hid (fun u (k : Kept w u) => kshown21 u (lay21_kept lay k))
  cases cb
  · have T := bytes_all op false tk h0 h1
    have A := hid (fun u (k : Kept w u) => pplan21 op false tk u (lay21_kept lay k) h0 h1)
    have D := hid (fun u => decode_any op u h0 h1)
    have PA := (plan_in op false tk h0 h1).1
    clear lay
    simp only [fmOf, if_true, if_false, Bool.false_eq_true] at T A PA
    generalize decOf op = f at *
    generalize planP f tk = L at *
    have TE := hid (byt_end T)
    have TA := hid (byt_at T PA)
    obtain ⟨fk, fx, fy, fb, fc, ft⟩ := f
    simp only at TE D
    clear T
    go_enter Tryd.func6, Tryd.ntmps6
    go_wp2_with fail
    refine (S.out _ (Kept.refl w)).mono ?_
    rintro e u1 ⟨rfl, k1⟩
    have K1 := hid k1
    clear k1
    go_wp2_with fail
    refine (D.out _).mono ?_
    rintro e u2 ⟨rfl, x2⟩
    have K2 := hid ((K1.out.trans (Kept.of x2)).alloc (.cells #[.int .i64 fk, .int .i64 fx, .int .i64 fy, .int .i64 fb, .int .i64 fc, .int .i64 ft] 29))
    have B2 := hid (blk_new u2 [.int .i64 fk, .int .i64 fx, .int .i64 fy, .int .i64 fb, .int .i64 fc, .int .i64 ft] 29)
    clear x2 D
    go_wp2_with fail
    refine (A.out _ K2.out).mono ?_
    rintro e u5 ⟨a5, c5, rfl, s5, k5⟩
    have K5 := hid (K2.out.trans k5)
    have B5 := hid (blk_kept k5 B2.out)
    have FG := hid (fun q => slM_at s5 q)
    clear s5 k5 A
    go_wp2
    go_loopw [11, 12] (fun s11 s12 wr => ∃ (j : Nat) (p : Int), j ≤ L.length ∧ s11 = .int .i64 p ∧ s12 = .int .i64 (j : Int) ∧ Hid (pcN L j = p) ∧ Kept u5 wr) (fun _ s12 _ => L.length - (intOf s12).toNat)
    case atStart => exact ⟨0, 0, Nat.zero_le _, rfl, rfl, rfl, Kept.refl u5⟩
    case round =>
      obtain ⟨j, p, hj, rfl, rfl, HP, hk⟩ := hrel
      have KK := hid hk
      have PI := pcN_in L j
      rw [HP.out] at PI
      obtain ⟨p0, p1⟩ := PI
      by_cases hlt : j < L.length
      · have g1 : decide ((j : Int) < (L.length : Int)) = true := decide_eq_true (by omega)
        have g3 : (j : Int) < (L.length : Int) := by omega
        obtain ⟨x, rfl, hx, hc⟩ := FG.out (by omega)
        have hx2 := Nat.lt_of_lt_of_le hx hk.size
        have O := mat_kept hk (by rw [addFB]; exact hx) (hc j hlt)
        have TJ := TA.out j hlt
        have NX : Hid (pcN L (j + 1) = p + if (L.getD j default).2.1 = 1 then 1 else 0) := by show _ = _; rw [← HP.out]; rfl
        generalize L.getD j default = o at *
        obtain ⟨o0, o1, o2⟩ := o
        obtain ⟨d0, d1, d2⟩ := O
        simp only at d0 d1 d2 TJ NX
        clear hc hk hx
        by_cases h1 : o1 = 1
        · obtain ⟨q1, q2, q3⟩ := TJ h1
          rw [HP.out] at q1
          have NY := hid (show pcN L (j + 1) = p + 1 by rw [NX.out, if_pos h1])
          have t1 : (o1 != 1) = false := by simp [h1]
          have t2 : ((j : Int) != p) = false := by simp [q1]
          have t3 : (o0 != 1) = false := by simp [q2]
          have t4 : IntKind.i64.wrap (1 + p) = o2 := by rw [IntKind.wrap_i64]; omega
          have t5 : wrap64 (1 + p) = o2 := (wrapEq21 _).symm.trans t4
          have t6 : (o2 != o2) = false := by simp
          have t7 : IntKind.i64.wrap (p + 1) = p + 1 := by rw [IntKind.wrap_i64]; omega
          have t8 : wrap64 (p + 1) = p + 1 := (wrapEq21 _).symm.trans t7
          clear q1 q2 q3 NX TJ h1 HP
          go_wp2
          go_roundw
          case rel => exact ⟨j + 1, p + 1, by omega, by first | rfl | go_num, by go_num, NY, KK.out⟩
          case measure => first | omega | (simp; omega) | (simp [intOf]; omega)
        · have NY := hid (show pcN L (j + 1) = p by rw [NX.out, if_neg h1, Int.add_zero])
          have t1 : (o1 != 1) = true := by simp [h1]
          clear NX TJ h1 HP
          go_wp2
          go_roundw
          case rel => exact ⟨j + 1, p, by omega, rfl, by go_num, NY, KK.out⟩
          case measure => first | omega | (simp; omega) | (simp [intOf]; omega)
      · have g1 : decide ((j : Int) < (L.length : Int)) = false := decide_eq_false (by omega)
        have g3 : ¬ (j : Int) < (L.length : Int) := by omega
        have je : j = L.length := by omega
        have E : pcN L j + 1 = fb := by rw [je]; exact TE.out
        rw [HP.out] at E
        have t1 : IntKind.i64.wrap (p + 1) = fb := by rw [IntKind.wrap_i64]; omega
        have t2 : wrap64 (p + 1) = fb := (wrapEq21 _).symm.trans t1
        have t3 : (fb == fb) = true := by simp
        have B6 := blk_kept hk B5.out
        have cc := blk_cell B6
        have l6 := blk_lt B6
        clear hk E je hj hlt
        go_wp2
        go_ret
        exact ⟨rfl, K5.out.trans KK.out⟩
  · have T := bytes_all op true tk h0 h1
    have A := hid (fun u (k : Kept w u) => pplan21 op true tk u (lay21_kept lay k) h0 h1)
    have D := hid (fun u => decode_any op u h0 h1)
    have PA := (plan_in op true tk h0 h1).1
    have DC := hid (fun u (k : Kept w u) => decodeCB_any op u h0 h1 (lay21_kept lay k).1)
    clear lay
    simp only [fmOf, if_true, if_false, Bool.false_eq_true] at T A PA
    generalize decOf op = g at *
    obtain ⟨gk, gx, gy, gb, gc, gt⟩ := g
    generalize cbOf op = f at *
    generalize planP f tk = L at *
    have TE := hid (byt_end T)
    have TA := hid (byt_at T PA)
    obtain ⟨fk, fx, fy, fb, fc, ft⟩ := f
    simp only at TE D DC
    clear T
    go_enter Tryd.func6, Tryd.ntmps6
    go_wp2_with fail
    refine (S.out _ (Kept.refl w)).mono ?_
    rintro e u1 ⟨rfl, k1⟩
    have K1 := hid k1
    clear k1
    go_wp2_with fail
    refine (D.out _).mono ?_
    rintro e u2 ⟨rfl, x2⟩
    have K2 := hid ((K1.out.trans (Kept.of x2)).alloc (.cells #[.int .i64 gk, .int .i64 gx, .int .i64 gy, .int .i64 gb, .int .i64 gc, .int .i64 gt] 29))
    have B2 := hid (blk_new u2 [.int .i64 gk, .int .i64 gx, .int .i64 gy, .int .i64 gb, .int .i64 gc, .int .i64 gt] 29)
    have N2 := hid (K1.out.trans (Kept.of x2)).size
    clear x2 D
    go_wp2_with fail
    refine (DC.out _ K2.out).mono ?_
    rintro e u3 ⟨rfl, x3⟩
    have K3 := hid (K2.out.trans (Kept.of x3))
    have B3 := blk_kept (Kept.of x3) B2.out
    clear x3 DC K2 B2
    go_wp2_with ((with_reducible refine at_st 29 ?_); refine wl_store rfl rfl rfl rfl B3 (by kernel_rfl) rfl (Nat.le_of_ble_eq_true rfl) (fun v4 p4 => ?_); have B4 : Hid (Blk v4 u2.heap.size 29 [.int .i64 fk, .int .i64 fx, .int .i64 fy, .int .i64 fb, .int .i64 fc, .int .i64 ft]) := p4.blk; have K4 := hid (p4.kept _ K3.out N2.out); clear p4 B3 K3)
    refine (A.out _ K4.out).mono ?_
    rintro e u5 ⟨a5, c5, rfl, s5, k5⟩
    have K5 := hid (K4.out.trans k5)
    have B5 := hid (blk_kept k5 B4.out)
    have FG := hid (fun q => slM_at s5 q)
    clear s5 k5 A
    go_wp2
    go_loopw [11, 12] (fun s11 s12 wr => ∃ (j : Nat) (p : Int), j ≤ L.length ∧ s11 = .int .i64 p ∧ s12 = .int .i64 (j : Int) ∧ Hid (pcN L j = p) ∧ Kept u5 wr) (fun _ s12 _ => L.length - (intOf s12).toNat)
    case atStart => exact ⟨0, 0, Nat.zero_le _, rfl, rfl, rfl, Kept.refl u5⟩
    case round =>
      obtain ⟨j, p, hj, rfl, rfl, HP, hk⟩ := hrel
      have KK := hid hk
      have PI := pcN_in L j
      rw [HP.out] at PI
      obtain ⟨p0, p1⟩ := PI
      by_cases hlt : j < L.length
      · have g1 : decide ((j : Int) < (L.length : Int)) = true := decide_eq_true (by omega)
        have g3 : (j : Int) < (L.length : Int) := by omega
        obtain ⟨x, rfl, hx, hc⟩ := FG.out (by omega)
        have hx2 := Nat.lt_of_lt_of_le hx hk.size
        have O := mat_kept hk (by rw [addFB]; exact hx) (hc j hlt)
        have TJ := TA.out j hlt
        have NX : Hid (pcN L (j + 1) = p + if (L.getD j default).2.1 = 1 then 1 else 0) := by show _ = _; rw [← HP.out]; rfl
        generalize L.getD j default = o at *
        obtain ⟨o0, o1, o2⟩ := o
        obtain ⟨d0, d1, d2⟩ := O
        simp only at d0 d1 d2 TJ NX
        clear hc hk hx
        by_cases h1 : o1 = 1
        · obtain ⟨q1, q2, q3⟩ := TJ h1
          rw [HP.out] at q1
          have NY := hid (show pcN L (j + 1) = p + 1 by rw [NX.out, if_pos h1])
          have t1 : (o1 != 1) = false := by simp [h1]
          have t2 : ((j : Int) != p) = false := by simp [q1]
          have t3 : (o0 != 1) = false := by simp [q2]
          have t4 : IntKind.i64.wrap (1 + p) = o2 := by rw [IntKind.wrap_i64]; omega
          have t5 : wrap64 (1 + p) = o2 := (wrapEq21 _).symm.trans t4
          have t6 : (o2 != o2) = false := by simp
          have t7 : IntKind.i64.wrap (p + 1) = p + 1 := by rw [IntKind.wrap_i64]; omega
          have t8 : wrap64 (p + 1) = p + 1 := (wrapEq21 _).symm.trans t7
          clear q1 q2 q3 NX TJ h1 HP
          go_wp2
          go_roundw
          case rel => exact ⟨j + 1, p + 1, by omega, by first | rfl | go_num, by go_num, NY, KK.out⟩
          case measure => first | omega | (simp; omega) | (simp [intOf]; omega)
        · have NY := hid (show pcN L (j + 1) = p by rw [NX.out, if_neg h1, Int.add_zero])
          have t1 : (o1 != 1) = true := by simp [h1]
          clear NX TJ h1 HP
          go_wp2
          go_roundw
          case rel => exact ⟨j + 1, p, by omega, rfl, by go_num, NY, KK.out⟩
          case measure => first | omega | (simp; omega) | (simp [intOf]; omega)
      · have g1 : decide ((j : Int) < (L.length : Int)) = false := decide_eq_false (by omega)
        have g3 : ¬ (j : Int) < (L.length : Int) := by omega
        have je : j = L.length := by omega
        have E : pcN L j + 2 = fb := by rw [je]; exact TE.out
        rw [HP.out] at E
        have t1 : IntKind.i64.wrap (p + 2) = fb := by rw [IntKind.wrap_i64]; omega
        have t2 : wrap64 (p + 2) = fb := (wrapEq21 _).symm.trans t1
        have t3 : (fb == fb) = true := by simp
        have B6 := blk_kept hk B5.out
        have cc := blk_cell B6
        have l6 := blk_lt B6
        clear hk E je hj hlt
        go_wp2
        go_ret
        exact ⟨rfl, K5.out.trans KK.out⟩
end Go.Proofs.YtbflhpffojlpgaaDoor
