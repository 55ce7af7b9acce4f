/- Rows of bytes in a block of their own; the memory of the examples. -/
import Derived.Test.YtecgpdjgbdobbabTx18
import Derived.Test.YtecgpdjgbdobbabPs18f
namespace Go.Proofs.Ytecgpdjgbdobbab
open Go.RowKit
set_option linter.unusedVariables false
set_option linter.unusedSimpArgs false

abbrev BB (w : World) (b : Nat) (L : List Int) : Prop := Blk w b 5 (L.map (Value.int .u8))
theorem bb_row {w : World} {b : Nat} {L : List Int} (h : BB w b L) (hb : ∀ x ∈ L, InByte x) (hm : L.length ≤ maxLen) : Row w (some ⟨b, 0, none⟩) L :=
  ⟨hm, hb, .inr ⟨_, rfl, blk_lt h, fun i hi => by
    rw [ownB_add, blk_cell h, List.getElem?_map, List.getElem?_eq_getElem hi, List.getD_eq_getElem?_getD, List.getElem?_eq_getElem hi]
    rfl⟩⟩
theorem set_at {L : List Value} {i : Nat} (v : Value) (h : i < L.length) : L.take i ++ [v] ++ L.drop (i + 1) = L.set i v := by
  rw [List.set_eq_take_append_cons_drop, if_pos h, List.append_assoc]; rfl
theorem make18 (N : Nat) (h : N ≤ 131072) (w : World) : (Instr.makeSlice 22 (.int .i64 (N : Int)) (.int .i64 (N : Int))).run Try.prog w = .ok (.slice (some ⟨w.heap.size, 0, none⟩) N N) (w.alloc (.cells ((List.replicate N (0 : Int)).map (Value.int .u8)).toArray 5)) := by
  obtain ⟨i0, hi, hz0, hz1, hz2⟩ := info_parts info10_u8
  have r := run_make w 22 5 i0 (.int .u8 0) Try.underlying22 hi hz0 .i64 .i64 (N : Int) (N : Int) (by omega) (by omega) (by rw [hz2]; omega) (by omega)
  rw [r, hz1, Nat.mul_one, Int.toNat_natCast]
  have e : madeCells (Value.int .u8 0).cells N = ((List.replicate N (0 : Int)).map (Value.int .u8)).toArray := by
    apply Array.toList_inj.1
    rw [show (Value.int .u8 0).cells = #[Value.int .u8 0] from rfl, toList_madeCells_one]
    simp
  rw [e]
/-- The examples' memory, j rows of its first tile laid. -/
def exZ : Nat → List Int
  | 0 => List.replicate 8192 0
  | j + 1 => (exZ j).set (2 * j) 255
theorem ex_len : ∀ j, (exZ j).length = 8192
  | 0 => List.length_replicate
  | j + 1 => by show ((exZ j).set _ _).length = _; rw [List.length_set, ex_len j]
theorem ex_in : ∀ j, ∀ x ∈ exZ j, InByte x
  | 0 => fun x hx => by rw [(List.mem_replicate.1 hx).2]; exact ⟨by decide, by decide⟩
  | j + 1 => fun x hx => by
    rcases List.mem_or_eq_of_mem_set hx with q | q
    · exact ex_in j x q
    · rw [q]; exact ⟨by decide, by decide⟩
def exV (ctl bgp : Int) (b : Nat) : Vd := ⟨ctl, 0, 0, 0, 0, bgp, 0, 0, some ⟨b, 0, none⟩, 8192, exZ 8, none, 0, []⟩
theorem exV_eq (ctl bgp : Int) (b : Nat) : vdV (exV ctl bgp b) = .agg #[.int .u8 ctl, .int .u8 0, .int .u8 0, .int .u8 0, .int .u8 0, .int .u8 bgp, .int .u8 0, .int .u8 0, .slice (some ⟨b, 0, none⟩) 8192 8192, .slice none 0 0] := by
  unfold vdV exV
  simp only [ex_len, List.length_nil]
theorem exV_in {w : World} {ctl bgp : Int} {b : Nat} (h : BB w b (exZ 8)) (c0 : 0 ≤ ctl) (c1 : ctl ≤ 255) (b0 : 0 ≤ bgp) (b1 : bgp ≤ 255) : VdIn w (exV ctl bgp b) where
  c0 := c0
  c1 := c1
  y0 := Int.le_refl 0
  y1 := by show (0 : Int) ≤ 255; decide
  x0 := Int.le_refl 0
  x1 := by show (0 : Int) ≤ 255; decide
  u0 := Int.le_refl 0
  u1 := by show (0 : Int) ≤ 255; decide
  t0 := Int.le_refl 0
  t1 := by show (0 : Int) ≤ 255; decide
  b0 := b0
  b1 := b1
  p0 := Int.le_refl 0
  p1 := by show (0 : Int) ≤ 255; decide
  q0 := Int.le_refl 0
  q1 := by show (0 : Int) ≤ 255; decide
  vs := ⟨bb_row h (ex_in 8) (by show (exZ 8).length ≤ maxLen; rw [ex_len]; simp [maxLen]), by show (exZ 8).length ≤ 8192; rw [ex_len]; omega, by show 8192 ≤ maxLen; simp [maxLen], fun e => by cases e⟩
  os := sl_nil w
  ol := by show ([] : List Int).length ≤ _; simp
set_option maxRecDepth 100000 in
set_option maxHeartbeats 4000000 in
theorem kplain18 (ctl bgp : Int) (w : World) : Calls Try.prog 6 #[.int .u8 ctl, .int .u8 bgp] w fun e w' => (∃ b, e = .returned (vdV (exV ctl bgp b)) ∧ w.heap.size ≤ b ∧ BB w' b (exZ 8)) ∧ Kept w w' := by
  obtain ⟨Z, hZ⟩ : ∃ Z, ((List.replicate 8192 (0 : Int)).map (Value.int .u8)).toArray = Z := ⟨_, rfl⟩
  have MR : ∀ u : World, (Instr.makeSlice 22 (.int .i64 8192) (.int .i64 8192)).run Try.prog u = .ok (.slice (some ⟨u.heap.size, 0, none⟩) 8192 8192) (u.alloc (.cells Z 5)) := fun u => by rw [← hZ]; exact make18 8192 (by decide) u
  have X0 : Hid (Blk ((w.alloc (.cells #[.int .u8 0, .int .u8 0, .int .u8 0, .int .u8 0, .int .u8 0, .int .u8 0, .int .u8 0, .int .u8 0, .slice none 0 0, .slice none 0 0] 24)).alloc (.cells Z 5)) w.heap.size 24 [.int .u8 0, .int .u8 0, .int .u8 0, .int .u8 0, .int .u8 0, .int .u8 0, .int .u8 0, .int .u8 0, .slice none 0 0, .slice none 0 0]) := blk_past (blk_new w _ _) _
  have X1 : Hid (BB ((w.alloc (.cells #[.int .u8 0, .int .u8 0, .int .u8 0, .int .u8 0, .int .u8 0, .int .u8 0, .int .u8 0, .int .u8 0, .slice none 0 0, .slice none 0 0] 24)).alloc (.cells Z 5)) (w.heap.size + 1) (exZ 0)) := by
    show Blk _ _ _ _
    rw [← hZ]
    have q := blk_new (w.alloc (.cells #[.int .u8 0, .int .u8 0, .int .u8 0, .int .u8 0, .int .u8 0, .int .u8 0, .int .u8 0, .int .u8 0, .slice none 0 0, .slice none 0 0] 24)) ((List.replicate 8192 (0 : Int)).map (Value.int .u8)) 5
    rw [World.size_alloc] at q
    exact q
  have KX : Hid (Kept w ((w.alloc (.cells #[.int .u8 0, .int .u8 0, .int .u8 0, .int .u8 0, .int .u8 0, .int .u8 0, .int .u8 0, .int .u8 0, .slice none 0 0, .slice none 0 0] 24)).alloc (.cells Z 5))) := ((Kept.refl w).alloc _).alloc _
  clear hZ
  go_enter Try.func6, Try.ntmps6
  go_wp2_with fail
  go_loopw [6] (fun s6 wr => ∃ j i : Nat, j ≤ 8 ∧ i = 2 * j ∧ s6 = .int .i64 (i : Int) ∧ Blk wr w.heap.size 24 [.int .u8 0, .int .u8 0, .int .u8 0, .int .u8 0, .int .u8 0, .int .u8 0, .int .u8 0, .int .u8 0, .slice none 0 0, .slice none 0 0] ∧ BB wr (w.heap.size + 1) (exZ j) ∧ Kept w wr) (fun s6 _ => 16 - (intOf s6).toNat)
  case atStart => exact ⟨0, 0, Nat.zero_le _, rfl, rfl, X0.out, X1.out, KX.out⟩
  case round =>
    obtain ⟨j, i, hj, hi, rfl, hb0, hb1, hk⟩ := hrel
    have B0 := hid hb0
    have B1 := hid hb1
    have KK := hid hk
    clear hb0 hb1 hk X0 X1 KX
    by_cases hlt : j < 8
    · have g1 : decide ((i : Int) < 16) = true := decide_eq_true (by omega)
      have g2 : (0 : Int) ≤ (i : Int) := by omega
      have g3 : (i : Int) < 8192 := by omega
      have e1 : IntKind.i64.wrap ((i : Int) + 2) = (i : Int) + 2 := by rw [IntKind.wrap_i64]; omega
      have LN : ((exZ j).map (Value.int .u8)).length = 8192 := by rw [List.length_map, ex_len]
      have NX : Hid (((exZ j).map (Value.int .u8)).take (2 * j) ++ [Value.int .u8 255] ++ ((exZ j).map (Value.int .u8)).drop (2 * j + 1) = (exZ (j + 1)).map (Value.int .u8)) := by
        show _ = _
        rw [set_at _ (by rw [LN]; omega)]
        show _ = ((exZ j).set (2 * j) 255).map _
        rw [List.map_set]
      rw [← hi] at NX
      have HL := hid LN
      have HI := hid hi
      have i14 : i ≤ 14 := by omega
      clear LN hi
      have BQ := B1.out
      have BZ := B0.out
      go_wp2_with ((with_reducible refine at_st 5 ?_); refine wl_store rfl rfl rfl rfl BQ (by kernel_rfl) rfl (by rw [HL.out]; show i + 1 ≤ 8192; omega) (fun v2 p2 => ?_); have B2 := hid (show BB v2 (w.heap.size + 1) (exZ (j + 1)) by (show Blk _ _ _ _; rw [← NX.out]; exact p2.blk)); have C2 := hid (p2.other _ _ _ (Nat.ne_of_lt (Nat.lt_succ_self _)) BZ); have K2 := hid (p2.kept _ KK.out (Nat.le_succ _)); clear p2)
      go_roundw
      case rel => exact ⟨j + 1, i + 2, by omega, by have := HI.out; omega, by first | go_num | rfl, C2.out, B2.out, K2.out⟩
      case measure => first | omega | (simp; omega) | (simp [intOf]; omega)
    · have je : j = 8 := by omega
      subst je
      subst hi
      have g1 : decide (((2 * 8 : Nat) : Int) < 16) = false := by decide
      have BZ := B0.out
      clear B0
      go_wp2_with ((with_reducible refine at_st 24 ?_); refine wl_store rfl rfl rfl rfl BZ (by kernel_rfl) rfl (Nat.le_of_ble_eq_true rfl) (fun v3 p3 => ?_); have B3 : Blk v3 w.heap.size 24 [.int .u8 ctl, .int .u8 0, .int .u8 0, .int .u8 0, .int .u8 0, .int .u8 bgp, .int .u8 0, .int .u8 0, .slice (some ⟨w.heap.size + 1, 0, none⟩) 8192 8192, .slice none 0 0] := p3.blk; have C3 := hid (p3.other _ _ _ (Nat.succ_ne_self _) B1.out); have K3 := hid (p3.kept _ KK.out (Nat.le_refl _)); clear p3)
      refine bodyPost_ret (res_cell Try.results6 rfl B3 Try.underlying24 rfl (by kernel_rfl)) rfl ⟨⟨w.heap.size + 1, ?_, Nat.le_succ _, C3.out⟩, K3.out⟩
      rw [exV_eq]
end Go.Proofs.Ytecgpdjgbdobbab
