/- What the document's answers of layer 10 come to: Write, above the image. What the document's answers of layer 10 come to: Save. What the document's answers of layer 10 come to: Load. What the document's answers of layer 10 come to: Load, with clocks. -/
import Derived.Test.YtfmddnekooojkaaGreatDoorG31
import Derived.Test.YtfmddnekooojkaaGreatDoorG14
import Derived.Test.YtfmddnekooojkaaGreatDoorG13
namespace Go.Proofs.YtfmddnekooojkaaGreatDoor
open Go.RowKit
set_option linter.unusedVariables false
set_option linter.unusedSimpArgs false

set_option maxRecDepth 100000 in
set_option maxHeartbeats 4000000 in
theorem rcwrite_reg (s : Cs) (xi : Option Addr) (ci : Nat) (xr : Option Addr) (cr : Nat) (a v : Int) (w : World) (a0 : 0 ≤ a) (a1 : a ≤ 65535) (v0 : 0 ≤ v) (v1 : v ≤ 255) (O : CsOk s) (sr : Sl w xr cr s.ram) (hs : s.is = true) (ha : ¬ a < 32768) (hr : regS s a ≠ 0) : Calls Tryz.prog 10 #[rcV s xi ci xr cr, .int .u16 a, .int .u8 v] w fun e w' => ∃ xr' cr', e = .returned (rcV (writeS s a v) xi ci xr' cr') ∧ Sl w' xr' cr' (writeS s a v).ram ∧ (xr' = xr ∨ Newer w.heap.size xr') ∧ Kept w w' := by
  have rl := O.rlen
  have C1 := hid (fun u => rcreg_any s xi ci xr cr a u a0 a1 O.m)
  have C2 := hid (fun u => rram_any s.m a (s.ram.length : Int) u a0 a1 (by omega) (by omega) O.m)
  have d1 : decide (a < 32768) = false := decide_eq_false ha
  have E : writeS s a v = { s with live := writeC s.live (regS s a) v } := by unfold writeS; rw [if_neg (by rw [hs]; decide), if_neg ha, if_pos hr]
  rw [E]
  have C3 := hid (fun u => rwrite_any s.live (regS s a) v u O.live v0 v1)
  generalize regS s a = R at *
  obtain ⟨is, ⟨h0, h1, h2, h3, h4, h5, h6, h7, h8, h9⟩, img, ram, m, live, held, last⟩ := s
  simp only at hs C2 C3 sr rl
  subst hs
  generalize ramM m a (ram.length : Int) = Q at *
  generalize writeC live R v = T at *
  generalize regE R = RE at *
  have d2 : (R != 0) = true := by simpa using hr
  have B1 : Blk ((w.alloc (.cells (rcL ⟨true, ⟨h0, h1, h2, h3, h4, h5, h6, h7, h8, h9⟩, img, ram, m, live, held, last⟩ xi ci xr cr).toArray 37)).alloc (.cells rc0.toArray 37)) w.heap.size 37 (rcL ⟨true, ⟨h0, h1, h2, h3, h4, h5, h6, h7, h8, h9⟩, img, ram, m, live, held, last⟩ xi ci xr cr) := blk_past (blk_new w _ _) _
  have R1 : Blk ((w.alloc (.cells (rcL ⟨true, ⟨h0, h1, h2, h3, h4, h5, h6, h7, h8, h9⟩, img, ram, m, live, held, last⟩ xi ci xr cr).toArray 37)).alloc (.cells rc0.toArray 37)) (w.heap.size + 1) 37 rc0 := by have h := blk_new (w.alloc (.cells (rcL ⟨true, ⟨h0, h1, h2, h3, h4, h5, h6, h7, h8, h9⟩, img, ram, m, live, held, last⟩ xi ci xr cr).toArray 37)) rc0 37; rw [World.size_alloc] at h; exact h
  have K1 := hid (((Kept.refl w).alloc (.cells (rcL ⟨true, ⟨h0, h1, h2, h3, h4, h5, h6, h7, h8, h9⟩, img, ram, m, live, held, last⟩ xi ci xr cr).toArray 37)).alloc (.cells rc0.toArray 37))
  have q1 := blk_cell B1
  clear E O
  go_enter Tryz.func10, Tryz.ntmps10
  go_wp2_with ((with_reducible refine at_ld 37 ?_); refine wl_load0 rfl rfl rfl B1 Tryz.underlying37 rfl (by kernel_rfl) ?_)
  refine (C1.out _).mono ?_
  rintro e u2 ⟨rfl, k2⟩
  have B2 : Blk u2 w.heap.size 37 (rcL ⟨true, ⟨h0, h1, h2, h3, h4, h5, h6, h7, h8, h9⟩, img, ram, m, live, held, last⟩ xi ci xr cr) := blk_kept k2 B1
  have R2 : Blk u2 (w.heap.size + 1) 37 rc0 := blk_kept k2 R1
  have K2 := hid (K1.out.trans k2)
  have q2 := blk_cell B2
  clear B1 R1 q1
  clear k2
  go_wp2_with fail
  refine (C2.out _).mono ?_
  rintro e u3 ⟨rfl, k3⟩
  have B3 : Blk u3 w.heap.size 37 (rcL ⟨true, ⟨h0, h1, h2, h3, h4, h5, h6, h7, h8, h9⟩, img, ram, m, live, held, last⟩ xi ci xr cr) := blk_kept k3 B2
  have R3 : Blk u3 (w.heap.size + 1) 37 rc0 := blk_kept k3 R2
  have K3 := hid (K2.out.trans k3)
  have q3 := blk_cell B3
  clear B2 R2 q2
  clear k3
  go_wp2_with fail
  refine (C3.out _).mono ?_
  rintro e u4 ⟨rfl, g4⟩
  have B4 : Blk u4 w.heap.size 37 (rcL ⟨true, ⟨h0, h1, h2, h3, h4, h5, h6, h7, h8, h9⟩, img, ram, m, live, held, last⟩ xi ci xr cr) := blk_kept (Kept.of g4) B3
  have R4 : Blk u4 (w.heap.size + 1) 37 rc0 := blk_kept (Kept.of g4) R3
  have K4 := hid (K3.out.trans (Kept.of g4))
  have q4 := blk_cell B4
  clear B3 R3 q3
  clear g4
  go_wp2_with (first
    | ((with_reducible refine at_st _ ?_); refine wl_store rfl rfl rfl rfl B4 (by kernel_rfl) rfl (Nat.le_of_ble_eq_true rfl) (fun u5 p5 => ?_); have B5 : Blk u5 w.heap.size 37 (rcL ⟨true, ⟨h0, h1, h2, h3, h4, h5, h6, h7, h8, h9⟩, img, ram, m, T, held, last⟩ xi ci xr cr) := p5.blk; have R5 := p5.other _ _ _ (Nat.succ_ne_self _) R4; have K5 := hid (p5.kept _ K4.out (Nat.le_refl _)); have q5 := blk_cell B5; clear p5 B4 R4 q4)
    | ((with_reducible refine at_ld 37 ?_); refine wl_load0 rfl rfl rfl B5 Tryz.underlying37 rfl (by kernel_rfl) ?_)
    | ((with_reducible refine at_st _ ?_); refine wl_store rfl rfl rfl rfl R5 (by kernel_rfl) rfl (Nat.le_of_ble_eq_true rfl) (fun u6 p6 => ?_); have K6 := hid (p6.kept _ K5.out (Nat.le_succ _)); have E6 : Blk u6 (w.heap.size + 1) 37 (rcL ⟨true, ⟨h0, h1, h2, h3, h4, h5, h6, h7, h8, h9⟩, img, ram, m, T, held, last⟩ xi ci xr cr) := p6.blk; clear p6))
  exact bodyPost_ret (res_cell Tryz.results10 rfl E6 Tryz.underlying37 rfl (by kernel_rfl)) rfl ⟨_, _, rfl, sl_kept K6.out sr, .inl rfl, K6.out⟩
set_option maxRecDepth 100000 in
set_option maxHeartbeats 4000000 in
theorem rcwrite_none (s : Cs) (xi : Option Addr) (ci : Nat) (xr : Option Addr) (cr : Nat) (a v : Int) (w : World) (a0 : 0 ≤ a) (a1 : a ≤ 65535) (v0 : 0 ≤ v) (v1 : v ≤ 255) (O : CsOk s) (sr : Sl w xr cr s.ram) (hs : s.is = true) (ha : ¬ a < 32768) (hr : regS s a = 0) (hq : ramS s a = -1) : Calls Tryz.prog 10 #[rcV s xi ci xr cr, .int .u16 a, .int .u8 v] w fun e w' => ∃ xr' cr', e = .returned (rcV (writeS s a v) xi ci xr' cr') ∧ Sl w' xr' cr' (writeS s a v).ram ∧ (xr' = xr ∨ Newer w.heap.size xr') ∧ Kept w w' := by
  have rl := O.rlen
  have C1 := hid (fun u => rcreg_any s xi ci xr cr a u a0 a1 O.m)
  have C2 := hid (fun u => rram_any s.m a (s.ram.length : Int) u a0 a1 (by omega) (by omega) O.m)
  have d1 : decide (a < 32768) = false := decide_eq_false ha
  have E : writeS s a v = s := by unfold writeS; rw [if_neg (by rw [hs]; decide), if_neg ha, if_neg (by rw [hr]; decide), if_pos (by rw [hq]; decide)]
  rw [E]
  rw [hr] at C1
  rw [show ramM s.m a (s.ram.length : Int) = -1 from hq] at C2
  obtain ⟨is, ⟨h0, h1, h2, h3, h4, h5, h6, h7, h8, h9⟩, img, ram, m, live, held, last⟩ := s
  simp only at hs C2 sr rl
  subst hs
  have B1 : Blk ((w.alloc (.cells (rcL ⟨true, ⟨h0, h1, h2, h3, h4, h5, h6, h7, h8, h9⟩, img, ram, m, live, held, last⟩ xi ci xr cr).toArray 37)).alloc (.cells rc0.toArray 37)) w.heap.size 37 (rcL ⟨true, ⟨h0, h1, h2, h3, h4, h5, h6, h7, h8, h9⟩, img, ram, m, live, held, last⟩ xi ci xr cr) := blk_past (blk_new w _ _) _
  have R1 : Blk ((w.alloc (.cells (rcL ⟨true, ⟨h0, h1, h2, h3, h4, h5, h6, h7, h8, h9⟩, img, ram, m, live, held, last⟩ xi ci xr cr).toArray 37)).alloc (.cells rc0.toArray 37)) (w.heap.size + 1) 37 rc0 := by have h := blk_new (w.alloc (.cells (rcL ⟨true, ⟨h0, h1, h2, h3, h4, h5, h6, h7, h8, h9⟩, img, ram, m, live, held, last⟩ xi ci xr cr).toArray 37)) rc0 37; rw [World.size_alloc] at h; exact h
  have K1 := hid (((Kept.refl w).alloc (.cells (rcL ⟨true, ⟨h0, h1, h2, h3, h4, h5, h6, h7, h8, h9⟩, img, ram, m, live, held, last⟩ xi ci xr cr).toArray 37)).alloc (.cells rc0.toArray 37))
  have q1 := blk_cell B1
  clear E O hr hq
  go_enter Tryz.func10, Tryz.ntmps10
  go_wp2_with ((with_reducible refine at_ld 37 ?_); refine wl_load0 rfl rfl rfl B1 Tryz.underlying37 rfl (by kernel_rfl) ?_)
  refine (C1.out _).mono ?_
  rintro e u2 ⟨rfl, k2⟩
  have B2 : Blk u2 w.heap.size 37 (rcL ⟨true, ⟨h0, h1, h2, h3, h4, h5, h6, h7, h8, h9⟩, img, ram, m, live, held, last⟩ xi ci xr cr) := blk_kept k2 B1
  have R2 : Blk u2 (w.heap.size + 1) 37 rc0 := blk_kept k2 R1
  have K2 := hid (K1.out.trans k2)
  have q2 := blk_cell B2
  clear B1 R1 q1
  clear k2
  go_wp2_with fail
  refine (C2.out _).mono ?_
  rintro e u3 ⟨rfl, k3⟩
  have B3 : Blk u3 w.heap.size 37 (rcL ⟨true, ⟨h0, h1, h2, h3, h4, h5, h6, h7, h8, h9⟩, img, ram, m, live, held, last⟩ xi ci xr cr) := blk_kept k3 B2
  have R3 : Blk u3 (w.heap.size + 1) 37 rc0 := blk_kept k3 R2
  have K3 := hid (K2.out.trans k3)
  have q3 := blk_cell B3
  clear B2 R2 q2
  clear k3
  go_wp2_with (first
    | ((with_reducible refine at_ld 37 ?_); refine wl_load0 rfl rfl rfl B3 Tryz.underlying37 rfl (by kernel_rfl) ?_)
    | ((with_reducible refine at_st _ ?_); refine wl_store rfl rfl rfl rfl R3 (by kernel_rfl) rfl (Nat.le_of_ble_eq_true rfl) (fun u4 p4 => ?_); have K4 := hid (p4.kept _ K3.out (Nat.le_succ _)); have E4 : Blk u4 (w.heap.size + 1) 37 (rcL ⟨true, ⟨h0, h1, h2, h3, h4, h5, h6, h7, h8, h9⟩, img, ram, m, live, held, last⟩ xi ci xr cr) := p4.blk; clear p4))
  exact bodyPost_ret (res_cell Tryz.results10 rfl E4 Tryz.underlying37 rfl (by kernel_rfl)) rfl ⟨_, _, rfl, sl_kept K4.out sr, .inl rfl, K4.out⟩
set_option maxRecDepth 100000 in
set_option maxHeartbeats 4000000 in
theorem rcwrite_ram (s : Cs) (xi : Option Addr) (ci : Nat) (xr : Option Addr) (cr : Nat) (a v : Int) (w : World) (a0 : 0 ≤ a) (a1 : a ≤ 65535) (v0 : 0 ≤ v) (v1 : v ≤ 255) (O : CsOk s) (sr : Sl w xr cr s.ram) (hs : s.is = true) (ha : ¬ a < 32768) (hr : regS s a = 0) (k : Nat) (hq : ramS s a = (k : Int)) (hk : k < s.ram.length) : Calls Tryz.prog 10 #[rcV s xi ci xr cr, .int .u16 a, .int .u8 v] w fun e w' => ∃ xr' cr', e = .returned (rcV (writeS s a v) xi ci xr' cr') ∧ Sl w' xr' cr' (writeS s a v).ram ∧ (xr' = xr ∨ Newer w.heap.size xr') ∧ Kept w w' := by
  have rl := O.rlen
  have C1 := hid (fun u => rcreg_any s xi ci xr cr a u a0 a1 O.m)
  have C2 := hid (fun u => rram_any s.m a (s.ram.length : Int) u a0 a1 (by omega) (by omega) O.m)
  have d1 : decide (a < 32768) = false := decide_eq_false ha
  have E : writeS s a v = { s with ram := s.ram.set k v } := by unfold writeS; rw [if_neg (by rw [hs]; decide), if_neg ha, if_neg (by rw [hr]; decide), if_neg (by rw [hq]; omega), hq, Int.toNat_natCast]
  have WB := (writeS_ok s a v O v0 v1).ram
  rw [E] at WB
  rw [E]
  rw [hr] at C1
  rw [show ramM s.m a (s.ram.length : Int) = (k : Int) from hq] at C2
  obtain ⟨is, ⟨h0, h1, h2, h3, h4, h5, h6, h7, h8, h9⟩, img, ram, m, live, held, last⟩ := s
  simp only at hs C2 sr rl hk WB
  subst hs
  have hk3 : (k : Int) < (ram.length : Int) := by omega
  have d3 : decide ((0 : Int) ≤ (k : Int)) = true := decide_eq_true (by omega)
  have SR := hid sr
  have HW := hid WB
  have B1 : Blk ((w.alloc (.cells (rcL ⟨true, ⟨h0, h1, h2, h3, h4, h5, h6, h7, h8, h9⟩, img, ram, m, live, held, last⟩ xi ci xr cr).toArray 37)).alloc (.cells rc0.toArray 37)) w.heap.size 37 (rcL ⟨true, ⟨h0, h1, h2, h3, h4, h5, h6, h7, h8, h9⟩, img, ram, m, live, held, last⟩ xi ci xr cr) := blk_past (blk_new w _ _) _
  have R1 : Blk ((w.alloc (.cells (rcL ⟨true, ⟨h0, h1, h2, h3, h4, h5, h6, h7, h8, h9⟩, img, ram, m, live, held, last⟩ xi ci xr cr).toArray 37)).alloc (.cells rc0.toArray 37)) (w.heap.size + 1) 37 rc0 := by have h := blk_new (w.alloc (.cells (rcL ⟨true, ⟨h0, h1, h2, h3, h4, h5, h6, h7, h8, h9⟩, img, ram, m, live, held, last⟩ xi ci xr cr).toArray 37)) rc0 37; rw [World.size_alloc] at h; exact h
  have K1 := hid (((Kept.refl w).alloc (.cells (rcL ⟨true, ⟨h0, h1, h2, h3, h4, h5, h6, h7, h8, h9⟩, img, ram, m, live, held, last⟩ xi ci xr cr).toArray 37)).alloc (.cells rc0.toArray 37))
  have q1 := blk_cell B1
  clear E O hr hq sr WB
  go_enter Tryz.func10, Tryz.ntmps10
  go_wp2_with ((with_reducible refine at_ld 37 ?_); refine wl_load0 rfl rfl rfl B1 Tryz.underlying37 rfl (by kernel_rfl) ?_)
  refine (C1.out _).mono ?_
  rintro e u2 ⟨rfl, k2⟩
  have B2 : Blk u2 w.heap.size 37 (rcL ⟨true, ⟨h0, h1, h2, h3, h4, h5, h6, h7, h8, h9⟩, img, ram, m, live, held, last⟩ xi ci xr cr) := blk_kept k2 B1
  have R2 : Blk u2 (w.heap.size + 1) 37 rc0 := blk_kept k2 R1
  have K2 := hid (K1.out.trans k2)
  have q2 := blk_cell B2
  clear B1 R1 q1
  clear k2
  go_wp2_with fail
  refine (C2.out _).mono ?_
  rintro e u3 ⟨rfl, k3⟩
  have B3 : Blk u3 w.heap.size 37 (rcL ⟨true, ⟨h0, h1, h2, h3, h4, h5, h6, h7, h8, h9⟩, img, ram, m, live, held, last⟩ xi ci xr cr) := blk_kept k3 B2
  have R3 : Blk u3 (w.heap.size + 1) 37 rc0 := blk_kept k3 R2
  have K3 := hid (K2.out.trans k3)
  have q3 := blk_cell B3
  clear B2 R2 q2
  clear k3
  have z3 := blk_lt B3
  have y3 := blk_lt R3
  have ne0 : u3.heap.size ≠ w.heap.size := by omega
  have O3 := hid (own_empty u3 (Nat.le_refl _))
  have SA := hid (sl_kept (K3.out.alloc (.cells #[] 5)) SR.out)
  have A3 := hid (blk_past B3 (.cells #[] 5))
  have AR := hid (blk_past R3 (.cells #[] 5))
  have KA := hid (K3.out.alloc (.cells #[] 5))
  go_wp2_with (first
    | (at_builtin; refine wl_append O3.out SA.out rfl rfl rfl rfl rfl (by simp) (by simp; omega) (fun v' u4 o4 g4 => ?_); rw [List.nil_append] at o4; have B4 : Blk u4 w.heap.size 37 (rcL ⟨true, ⟨h0, h1, h2, h3, h4, h5, h6, h7, h8, h9⟩, img, ram, m, live, held, last⟩ xi ci xr cr) := blk_by g4 A3.out (by simpa [Value.ownBlock] using ne0); have R4 : Blk u4 (w.heap.size + 1) 37 rc0 := blk_by g4 AR.out (by simp [Value.ownBlock]; omega); have K4 := hid (KA.out.by g4 (fun j h => by simp [Value.ownBlock] at h; omega)); have q4 := blk_cell B4; obtain ⟨g, cp, rfl, hg⟩ := own_slice o4 (by omega); clear g4 B3 R3 q3)
    | ((with_reducible refine at_st 22 ?_); refine wl_store rfl rfl rfl rfl B4 (by kernel_rfl) rfl (Nat.le_of_ble_eq_true rfl) (fun u5 p5 => ?_); have B5 : Blk u5 w.heap.size 37 (rcL ⟨true, ⟨h0, h1, h2, h3, h4, h5, h6, h7, h8, h9⟩, img, ram, m, live, held, last⟩ xi ci (some ⟨g, 0, none⟩) cp) := p5.blk; have R5 := p5.other _ _ _ (Nat.succ_ne_self _) R4; have K5 := hid (p5.kept _ K4.out (Nat.le_refl _)); have o5 : OwnB u5 u3.heap.size g cp ram := own_put p5 o4 (by simp [Value.ownBlock]; omega); have q5 := blk_cell B5; have ca := ownB_add g k; have cc := ownB_cell o5 k hk; have cf := ownB_frz o5 k; have B6 : Blk (u5.setCell ⟨g, k, none⟩ (.int .u8 v)) w.heap.size 37 (rcL ⟨true, ⟨h0, h1, h2, h3, h4, h5, h6, h7, h8, h9⟩, img, (ram.set k v), m, live, held, last⟩ xi ci (some ⟨g, 0, none⟩) cp) := (by have h := blk_setCells_other (b := g) (show w.heap.size ≠ g by omega) [.int .u8 v] k u5 B5; show Blk _ _ _ [_, _, _, _, _, _, _, _, _, _, _, _, .slice _ (ram.set k v).length _, _, _, _, _, _, _, _, _, _, _, _, _, _, _, _, _, _, _, _]; rw [List.length_set]; exact h); have R6 : Blk (u5.setCell ⟨g, k, none⟩ (.int .u8 v)) (w.heap.size + 1) 37 rc0 := blk_setCells_other (b := g) (show w.heap.size + 1 ≠ g by omega) [.int .u8 v] k u5 R5; have K6 := hid (K5.out.setCell8 (show w.heap.size ≤ g by omega) k (.int .u8 v)); have o6 := hid (ownB_set o5 k v); clear p5 B4 R4 q4 o4 o5)
    | ((with_reducible refine at_ld 37 ?_); refine wl_load0 rfl rfl rfl B6 Tryz.underlying37 rfl (by kernel_rfl) ?_)
    | ((with_reducible refine at_st _ ?_); refine wl_store rfl rfl rfl rfl R6 (by kernel_rfl) rfl (Nat.le_of_ble_eq_true rfl) (fun u7 p7 => ?_); have K7 := hid (p7.kept _ K6.out (Nat.le_succ _)); have E7 : Blk u7 (w.heap.size + 1) 37 (rcL ⟨true, ⟨h0, h1, h2, h3, h4, h5, h6, h7, h8, h9⟩, img, (ram.set k v), m, live, held, last⟩ xi ci (some ⟨g, 0, none⟩) cp) := p7.blk; have o7 := hid (own_put p7 o6.out (by simp [Value.ownBlock]; omega)); clear p7))
  obtain ⟨a7, c7, e7, s7, n7⟩ := own_sl o7.out HW.out
  cases e7
  exact bodyPost_ret (res_cell Tryz.results10 rfl E7 Tryz.underlying37 rfl (by kernel_rfl)) rfl ⟨_, _, rfl, s7, .inr (fun x hx => by have := n7 x hx; omega), K7.out⟩
theorem rcwrite_any (s : Cs) (xi : Option Addr) (ci : Nat) (xr : Option Addr) (cr : Nat) (a v : Int) (w : World) (a0 : 0 ≤ a) (a1 : a ≤ 65535) (v0 : 0 ≤ v) (v1 : v ≤ 255) (O : CsOk s) (sr : Sl w xr cr s.ram) : Calls Tryz.prog 10 #[rcV s xi ci xr cr, .int .u16 a, .int .u8 v] w fun e w' => ∃ xr' cr', e = .returned (rcV (writeS s a v) xi ci xr' cr') ∧ Sl w' xr' cr' (writeS s a v).ram ∧ (xr' = xr ∨ Newer w.heap.size xr') ∧ Kept w w' := by
  cases hs : s.is
  · exact rcwrite_no s xi ci xr cr a v w a0 a1 v0 v1 O sr hs
  by_cases ha : a < 32768
  · cases hc : s.h.clk
    · exact rcwrite_low0 s xi ci xr cr a v w a0 a1 v0 v1 O sr hs ha hc
    by_cases hh : a < 24576
    · exact rcwrite_low1 s xi ci xr cr a v w a0 a1 v0 v1 O sr hs ha hc hh
    by_cases hv : v = 1
    · by_cases hl : s.last = 0
      · exact rcwrite_low2 s xi ci xr cr a v w a0 a1 v0 v1 O sr hs ha hc (by omega) hv hl
      · exact rcwrite_low4 s xi ci xr cr a v w a0 a1 v0 v1 O sr hs ha hc (by omega) hv hl
    · exact rcwrite_low3 s xi ci xr cr a v w a0 a1 v0 v1 O sr hs ha hc (by omega) hv
  by_cases hr : regS s a = 0
  · rcases ram_in s a with q | ⟨q0, q1⟩
    · exact rcwrite_none s xi ci xr cr a v w a0 a1 v0 v1 O sr hs ha hr q
    · exact rcwrite_ram s xi ci xr cr a v w a0 a1 v0 v1 O sr hs ha hr (ramS s a).toNat (by omega) (by omega)
  · exact rcwrite_reg s xi ci xr cr a v w a0 a1 v0 v1 O sr hs ha hr
end Go.Proofs.YtfmddnekooojkaaGreatDoor
namespace Go.Proofs.YtfmddnekooojkaaGreatDoor
open Go.RowKit
set_option linter.unusedVariables false
set_option linter.unusedSimpArgs false

set_option maxRecDepth 100000 in
set_option maxHeartbeats 4000000 in
theorem rcsave_no (s : Cs) (xi : Option Addr) (ci : Nat) (xr : Option Addr) (cr : Nat) (w : World) (O : CsOk s) (sr : Sl w xr cr s.ram) (q : ¬ (s.is = true ∧ s.h.bat = true)) : Calls Tryz.prog 14 #[rcV s xi ci xr cr] w fun e w' => ∃ v, e = .returned v ∧ w'.ownsRow w.heap.size 5 1 v (saveS s).length ((saveS s).map (Value.int .u8)) ∧ Kept w w' := by
  have E : saveS s = [] := by unfold saveS; rw [if_neg q]
  rw [E]
  obtain ⟨is, ⟨h0, h1, h2, h3, h4, h5, h6, h7, h8, h9⟩, img, ram, m, live, held, last⟩ := s
  clear E O sr
  cases is <;> cases h4
  all_goals try exact absurd ⟨rfl, rfl⟩ q
  all_goals
    go_enter Tryz.func14, Tryz.ntmps14
    go_wp2
    go_ret
    exact ⟨_, rfl, World.ownsRow_nil _ _ _ _, by repeat (first | with_reducible exact Kept.refl _ | with_reducible refine Kept.alloc ?_ _ | with_reducible refine Kept.drew ?_ | with_reducible refine Kept.drewN ?_)⟩
set_option maxRecDepth 100000 in
set_option maxHeartbeats 4000000 in
theorem rcsave_ram (s : Cs) (xi : Option Addr) (ci : Nat) (xr : Option Addr) (cr : Nat) (w : World) (O : CsOk s) (sr : Sl w xr cr s.ram) (hs : s.is = true) (hb : s.h.bat = true) (hc : s.h.clk = false) : Calls Tryz.prog 14 #[rcV s xi ci xr cr] w fun e w' => ∃ v, e = .returned v ∧ w'.ownsRow w.heap.size 5 1 v (saveS s).length ((saveS s).map (Value.int .u8)) ∧ Kept w w' := by
  have E : saveS s = s.ram := by unfold saveS; rw [if_pos ⟨hs, hb⟩, if_neg (by rw [hc]; decide), List.append_nil]
  rw [E]
  have rl := O.rlen
  have RB := hid O.ram
  skip
  skip
  obtain ⟨is, ⟨h0, h1, h2, h3, h4, h5, h6, h7, h8, h9⟩, img, ram, m, live, held, last⟩ := s
  simp only at hs hb hc rl sr RB 
  subst hs hb hc
  skip
  skip
  have B1 : Blk (w.alloc (.cells (rcL ⟨true, ⟨h0, h1, h2, h3, true, false, h6, h7, h8, h9⟩, img, ram, m, live, held, last⟩ xi ci xr cr).toArray 37)) w.heap.size 37 (rcL ⟨true, ⟨h0, h1, h2, h3, true, false, h6, h7, h8, h9⟩, img, ram, m, live, held, last⟩ xi ci xr cr) := blk_new w _ _
  have q1 := blk_cell B1
  have O1 := hid (own_empty (w.alloc (.cells (rcL ⟨true, ⟨h0, h1, h2, h3, true, false, h6, h7, h8, h9⟩, img, ram, m, live, held, last⟩ xi ci xr cr).toArray 37)) (base := w.heap.size) (by simp))
  simp only [World.size_alloc] at O1
  have S1 := hid (sl_kept (((Kept.refl w).alloc (.cells (rcL ⟨true, ⟨h0, h1, h2, h3, true, false, h6, h7, h8, h9⟩, img, ram, m, live, held, last⟩ xi ci xr cr).toArray 37)).alloc (.cells #[] 5)) sr)
  have A1 := hid (blk_past B1 (.cells #[] 5))
  have K1 := hid (((Kept.refl w).alloc (.cells (rcL ⟨true, ⟨h0, h1, h2, h3, true, false, h6, h7, h8, h9⟩, img, ram, m, live, held, last⟩ xi ci xr cr).toArray 37)).alloc (.cells #[] 5))
  have n0 : (w.alloc (.cells (rcL ⟨true, ⟨h0, h1, h2, h3, true, false, h6, h7, h8, h9⟩, img, ram, m, live, held, last⟩ xi ci xr cr).toArray 37)).heap.size ≠ w.heap.size := by simp
  clear E O sr
  go_enter Tryz.func14, Tryz.ntmps14
  go_wp2_with (at_builtin; refine wl_append O1.out S1.out rfl rfl rfl rfl rfl (by simp; omega) (by simp; omega) (fun v' u2 o2 g2 => ?_); rw [List.nil_append] at o2; have B2 : Blk u2 w.heap.size 37 (rcL ⟨true, ⟨h0, h1, h2, h3, true, false, h6, h7, h8, h9⟩, img, ram, m, live, held, last⟩ xi ci xr cr) := blk_by g2 A1.out (by simp [Value.ownBlock]); have K2 := hid (K1.out.by g2 (fun j h => (O1.out.lt j h).1)); have q2 := blk_cell B2; have O2 := hid o2; clear g2 B1 q1 o2)
  go_ret
  exact ⟨_, rfl, O2.out, K2.out⟩
set_option maxRecDepth 100000 in
set_option maxHeartbeats 4000000 in
theorem rcsave_clk (s : Cs) (xi : Option Addr) (ci : Nat) (xr : Option Addr) (cr : Nat) (w : World) (O : CsOk s) (sr : Sl w xr cr s.ram) (hs : s.is = true) (hb : s.h.bat = true) (hc : s.h.clk = true) : Calls Tryz.prog 14 #[rcV s xi ci xr cr] w fun e w' => ∃ v, e = .returned v ∧ w'.ownsRow w.heap.size 5 1 v (saveS s).length ((saveS s).map (Value.int .u8)) ∧ Kept w w' := by
  have E : saveS s = s.ram ++ bytesL s.live s.held := by unfold saveS; rw [if_pos ⟨hs, hb⟩, if_pos hc]
  rw [E]
  have rl := O.rlen
  have RB := hid O.ram
  have C := hid (fun u => rbytes_any s.live s.held u O.live O.held)
  have BI := hid (bytes_in s.live s.held O.live O.held)
  obtain ⟨is, ⟨h0, h1, h2, h3, h4, h5, h6, h7, h8, h9⟩, img, ram, m, live, held, last⟩ := s
  simp only at hs hb hc rl sr RB C BI
  subst hs hb hc
  have BL := hid (show (bytesL live held).length = 10 from rfl)
  generalize bytesL live held = L at *
  have B1 : Blk (w.alloc (.cells (rcL ⟨true, ⟨h0, h1, h2, h3, true, true, h6, h7, h8, h9⟩, img, ram, m, live, held, last⟩ xi ci xr cr).toArray 37)) w.heap.size 37 (rcL ⟨true, ⟨h0, h1, h2, h3, true, true, h6, h7, h8, h9⟩, img, ram, m, live, held, last⟩ xi ci xr cr) := blk_new w _ _
  have q1 := blk_cell B1
  have O1 := hid (own_empty (w.alloc (.cells (rcL ⟨true, ⟨h0, h1, h2, h3, true, true, h6, h7, h8, h9⟩, img, ram, m, live, held, last⟩ xi ci xr cr).toArray 37)) (base := w.heap.size) (by simp))
  simp only [World.size_alloc] at O1
  have S1 := hid (sl_kept (((Kept.refl w).alloc (.cells (rcL ⟨true, ⟨h0, h1, h2, h3, true, true, h6, h7, h8, h9⟩, img, ram, m, live, held, last⟩ xi ci xr cr).toArray 37)).alloc (.cells #[] 5)) sr)
  have A1 := hid (blk_past B1 (.cells #[] 5))
  have K1 := hid (((Kept.refl w).alloc (.cells (rcL ⟨true, ⟨h0, h1, h2, h3, true, true, h6, h7, h8, h9⟩, img, ram, m, live, held, last⟩ xi ci xr cr).toArray 37)).alloc (.cells #[] 5))
  have n0 : (w.alloc (.cells (rcL ⟨true, ⟨h0, h1, h2, h3, true, true, h6, h7, h8, h9⟩, img, ram, m, live, held, last⟩ xi ci xr cr).toArray 37)).heap.size ≠ w.heap.size := by simp
  clear E O sr
  go_enter Tryz.func14, Tryz.ntmps14
  go_wp2_with (at_builtin; refine wl_append O1.out S1.out rfl rfl rfl rfl rfl (by simp; omega) (by simp; omega) (fun v' u2 o2 g2 => ?_); rw [List.nil_append] at o2; have B2 : Blk u2 w.heap.size 37 (rcL ⟨true, ⟨h0, h1, h2, h3, true, true, h6, h7, h8, h9⟩, img, ram, m, live, held, last⟩ xi ci xr cr) := blk_by g2 A1.out (by simp [Value.ownBlock]); have K2 := hid (K1.out.by g2 (fun j h => (O1.out.lt j h).1)); have q2 := blk_cell B2; have O2 := hid o2; clear g2 B1 q1 o2)
  refine (C.out _).mono ?_
  rintro e u3 ⟨x3, rfl, o3, k3⟩
  have O3 := hid (owns_kept k3 O2.out)
  have K3 := hid (K2.out.trans k3)
  obtain ⟨ax, cx, rfl, s3, n3⟩ := own_sl o3 BI.out
  have zz := K3.out.size
  clear o3 k3 B2 q2 n3
  go_wp2_with (at_builtin; refine wl_append O3.out s3 rfl rfl rfl rfl rfl zz (by have := BL.out; omega) (fun v4 u4 o4 g4 => ?_); have K4 := hid (K3.out.by g4 (fun j h => (O3.out.lt j h).1)); clear g4)
  go_ret
  exact ⟨_, rfl, o4, K4.out⟩
theorem rcsave_any (s : Cs) (xi : Option Addr) (ci : Nat) (xr : Option Addr) (cr : Nat) (w : World) (O : CsOk s) (sr : Sl w xr cr s.ram) : Calls Tryz.prog 14 #[rcV s xi ci xr cr] w fun e w' => ∃ v, e = .returned v ∧ w'.ownsRow w.heap.size 5 1 v (saveS s).length ((saveS s).map (Value.int .u8)) ∧ Kept w w' := by
  by_cases q : s.is = true ∧ s.h.bat = true
  · cases hc : s.h.clk
    · exact rcsave_ram s xi ci xr cr w O sr q.1 q.2 hc
    · exact rcsave_clk s xi ci xr cr w O sr q.1 q.2 hc
  · exact rcsave_no s xi ci xr cr w O sr q
end Go.Proofs.YtfmddnekooojkaaGreatDoor
namespace Go.Proofs.YtfmddnekooojkaaGreatDoor
open Go.RowKit
set_option linter.unusedVariables false
set_option linter.unusedSimpArgs false

theorem save_in (s : Cs) (O : CsOk s) : ∀ x ∈ saveS s, InByte x := by
  unfold saveS
  split
  · intro x hx
    rcases List.mem_append.1 hx with q | q
    · exact O.ram x q
    · split at q
      · exact bytes_in _ _ O.live O.held x q
      · cases q
  · intro x hx; cases hx
theorem save_len (s : Cs) (h : s.is = true ∧ s.h.bat = true) : (saveS s).length = s.ram.length + (if s.h.clk = true then 10 else 0) := by
  unfold saveS
  rw [if_pos h, List.length_append]
  split <;> rfl
set_option maxRecDepth 100000 in
set_option maxHeartbeats 4000000 in
theorem rcload_no (s : Cs) (xi : Option Addr) (ci : Nat) (xr : Option Addr) (cr : Nat) (z : List Int) (bx : Option Addr) (cb : Nat) (w : World) (O : CsOk s) (sr : Sl w xr cr s.ram) (sb : Sl w bx cb z) (q : ¬ (s.is = true ∧ s.h.bat = true)) : Calls Tryz.prog 16 #[rcV s xi ci xr cr, .slice bx z.length cb] w fun e w' => ∃ xr' cr', e = .returned (.tuple #[rcV (loadS s z) xi ci xr' cr', .int .i64 (loadE s z)]) ∧ Sl w' xr' cr' (loadS s z).ram ∧ (xr' = xr ∨ Newer w.heap.size xr') ∧ Kept w w' := by
  have E : loadE s z = 7 := by unfold loadE; rw [if_pos]; cases h1 : s.is <;> cases h2 : s.h.bat <;> simp_all
  have E2 : loadS s z = s := by unfold loadS; rw [E, if_neg (by decide)]
  rw [E, E2]
  obtain ⟨is, ⟨h0, h1, h2, h3, h4, h5, h6, h7, h8, h9⟩, img, ram, m, live, held, last⟩ := s
  have B1 : Blk ((w.alloc (.cells (rcL ⟨is, ⟨h0, h1, h2, h3, h4, h5, h6, h7, h8, h9⟩, img, ram, m, live, held, last⟩ xi ci xr cr).toArray 37)).alloc (.cells rc0.toArray 37)) w.heap.size 37 (rcL ⟨is, ⟨h0, h1, h2, h3, h4, h5, h6, h7, h8, h9⟩, img, ram, m, live, held, last⟩ xi ci xr cr) := blk_past (blk_new w _ _) _
  have R1 : Blk ((w.alloc (.cells (rcL ⟨is, ⟨h0, h1, h2, h3, h4, h5, h6, h7, h8, h9⟩, img, ram, m, live, held, last⟩ xi ci xr cr).toArray 37)).alloc (.cells rc0.toArray 37)) (w.heap.size + 1) 37 rc0 := by have h := blk_new (w.alloc (.cells (rcL ⟨is, ⟨h0, h1, h2, h3, h4, h5, h6, h7, h8, h9⟩, img, ram, m, live, held, last⟩ xi ci xr cr).toArray 37)) rc0 37; rw [World.size_alloc] at h; exact h
  have K1 := hid (((Kept.refl w).alloc (.cells (rcL ⟨is, ⟨h0, h1, h2, h3, h4, h5, h6, h7, h8, h9⟩, img, ram, m, live, held, last⟩ xi ci xr cr).toArray 37)).alloc (.cells rc0.toArray 37))
  have q1 := blk_cell B1
  clear E E2 O
  cases is <;> cases h4
  all_goals try exact absurd ⟨rfl, rfl⟩ q
  all_goals
    go_enter Tryz.func16, Tryz.ntmps16
    go_wp2_with (first
      | ((with_reducible refine at_ld 37 ?_); refine wl_load0 rfl rfl rfl B1 Tryz.underlying37 rfl (by kernel_rfl) ?_)
      | ((with_reducible refine at_st _ ?_); refine wl_store rfl rfl rfl rfl R1 (by kernel_rfl) rfl (Nat.le_of_ble_eq_true rfl) (fun u2 p2 => ?_); have K2 := hid (p2.kept _ K1.out (Nat.le_succ _)); have E2 := p2.blk; clear p2))
    exact bodyPost_ret (res_cell2 Tryz.results16 rfl E2 Tryz.underlying37 rfl (by kernel_rfl)) rfl ⟨_, _, rfl, sl_kept K2.out sr, .inl rfl, K2.out⟩
set_option maxRecDepth 100000 in
set_option maxHeartbeats 4000000 in
theorem rcload_size (s : Cs) (xi : Option Addr) (ci : Nat) (xr : Option Addr) (cr : Nat) (z : List Int) (bx : Option Addr) (cb : Nat) (w : World) (O : CsOk s) (sr : Sl w xr cr s.ram) (sb : Sl w bx cb z) (hs : s.is = true) (hb : s.h.bat = true) (hz : z.length ≠ (saveS s).length) : Calls Tryz.prog 16 #[rcV s xi ci xr cr, .slice bx z.length cb] w fun e w' => ∃ xr' cr', e = .returned (.tuple #[rcV (loadS s z) xi ci xr' cr', .int .i64 (loadE s z)]) ∧ Sl w' xr' cr' (loadS s z).ram ∧ (xr' = xr ∨ Newer w.heap.size xr') ∧ Kept w w' := by
  have sl := save_len s ⟨hs, hb⟩
  have E : loadE s z = 5 := by unfold loadE; rw [if_neg (by rw [hs, hb]; decide), if_pos hz]
  have E2 : loadS s z = s := by unfold loadS; rw [E, if_neg (by decide)]
  rw [E, E2]
  have rl := O.rlen
  have SI := hid (save_in s O)
  have HO := hid (loadS_ok s z O sb.row.2.1)
  have C1 := hid (fun u (g : Kept w u) => rcsave_any s xi ci xr cr u O (sl_kept g sr))
  have SR := hid sr
  have SB := hid sb
  have hcb := sb.len
  have hcm := sb.max
  have hmx : maxLen = 9223372036854775807 := rfl
  clear E E2 sl
  obtain ⟨is, ⟨h0, h1, h2, h3, h4, h5, h6, h7, h8, h9⟩, img, ram, m, live, held, last⟩ := s
  simp only at hs hb rl C1 SI SR hz
  subst hs hb
  have B1 : Blk ((w.alloc (.cells (rcL ⟨true, ⟨h0, h1, h2, h3, true, h5, h6, h7, h8, h9⟩, img, ram, m, live, held, last⟩ xi ci xr cr).toArray 37)).alloc (.cells rc0.toArray 37)) w.heap.size 37 (rcL ⟨true, ⟨h0, h1, h2, h3, true, h5, h6, h7, h8, h9⟩, img, ram, m, live, held, last⟩ xi ci xr cr) := blk_past (blk_new w _ _) _
  have R1 : Blk ((w.alloc (.cells (rcL ⟨true, ⟨h0, h1, h2, h3, true, h5, h6, h7, h8, h9⟩, img, ram, m, live, held, last⟩ xi ci xr cr).toArray 37)).alloc (.cells rc0.toArray 37)) (w.heap.size + 1) 37 rc0 := by have h := blk_new (w.alloc (.cells (rcL ⟨true, ⟨h0, h1, h2, h3, true, h5, h6, h7, h8, h9⟩, img, ram, m, live, held, last⟩ xi ci xr cr).toArray 37)) rc0 37; rw [World.size_alloc] at h; exact h
  have K1 := hid (((Kept.refl w).alloc (.cells (rcL ⟨true, ⟨h0, h1, h2, h3, true, h5, h6, h7, h8, h9⟩, img, ram, m, live, held, last⟩ xi ci xr cr).toArray 37)).alloc (.cells rc0.toArray 37))
  have q1 := blk_cell B1
  clear O sr sb
  go_enter Tryz.func16, Tryz.ntmps16
  go_wp2_with ((with_reducible refine at_ld 37 ?_); refine wl_load0 rfl rfl rfl B1 Tryz.underlying37 rfl (by kernel_rfl) ?_)
  refine (C1.out _ K1.out).mono ?_
  rintro e u2 ⟨x2, rfl, o2, k2⟩
  have B2 : Blk u2 w.heap.size 37 (rcL ⟨true, ⟨h0, h1, h2, h3, true, h5, h6, h7, h8, h9⟩, img, ram, m, live, held, last⟩ xi ci xr cr) := blk_kept k2 B1
  have R2 : Blk u2 (w.heap.size + 1) 37 rc0 := blk_kept k2 R1
  have K2 := hid (K1.out.trans k2)
  have q2 := blk_cell B2
  clear B1 R1 q1
  obtain ⟨ax, cx, rfl, s2, n2⟩ := own_sl o2 SI.out
  clear k2 o2 s2 n2
  generalize (saveS ⟨true, ⟨h0, h1, h2, h3, true, h5, h6, h7, h8, h9⟩, img, ram, m, live, held, last⟩).length = N at *
  have dz : ((z.length : Int) != (N : Int)) = true := by simp; omega
  go_wp2_with (first
    | ((with_reducible refine at_ld 37 ?_); refine wl_load0 rfl rfl rfl B2 Tryz.underlying37 rfl (by kernel_rfl) ?_)
    | ((with_reducible refine at_st _ ?_); refine wl_store rfl rfl rfl rfl R2 (by kernel_rfl) rfl (Nat.le_of_ble_eq_true rfl) (fun u3 p3 => ?_); have K3 := hid (p3.kept _ K2.out (Nat.le_succ _)); have E3 : Blk u3 (w.heap.size + 1) 37 (rcL ⟨true, ⟨h0, h1, h2, h3, true, h5, h6, h7, h8, h9⟩, img, ram, m, live, held, last⟩ xi ci xr cr) := p3.blk; clear p3))
  exact bodyPost_ret (res_cell2 Tryz.results16 rfl E3 Tryz.underlying37 rfl (by kernel_rfl)) rfl ⟨_, _, rfl, sl_kept K3.out SR.out, .inl rfl, K3.out⟩
set_option maxRecDepth 100000 in
set_option maxHeartbeats 4000000 in
theorem rcload_ram (s : Cs) (xi : Option Addr) (ci : Nat) (xr : Option Addr) (cr : Nat) (z : List Int) (bx : Option Addr) (cb : Nat) (w : World) (O : CsOk s) (sr : Sl w xr cr s.ram) (sb : Sl w bx cb z) (hs : s.is = true) (hb : s.h.bat = true) (hc : s.h.clk = false) (hz : z.length = (saveS s).length) : Calls Tryz.prog 16 #[rcV s xi ci xr cr, .slice bx z.length cb] w fun e w' => ∃ xr' cr', e = .returned (.tuple #[rcV (loadS s z) xi ci xr' cr', .int .i64 (loadE s z)]) ∧ Sl w' xr' cr' (loadS s z).ram ∧ (xr' = xr ∨ Newer w.heap.size xr') ∧ Kept w w' := by
  have sl := save_len s ⟨hs, hb⟩
  rw [hc, if_neg (by decide), Nat.add_zero] at sl
  have E : loadE s z = 0 := by unfold loadE; rw [if_neg (by rw [hs, hb]; decide), if_neg (by rw [hz]; simp), if_neg (by rw [hc]; decide)]
  have E2 : loadS s z = { s with ram := z.take s.ram.length } := by unfold loadS; rw [E, if_pos rfl, hc]; rfl
  rw [E, E2]
  have hzl : z.length = s.ram.length := by omega
  have HT := hid (show (z.take s.ram.length).length = s.ram.length by rw [List.length_take]; omega)
  have rl := O.rlen
  have SI := hid (save_in s O)
  have HO := hid (loadS_ok s z O sb.row.2.1)
  have C1 := hid (fun u (g : Kept w u) => rcsave_any s xi ci xr cr u O (sl_kept g sr))
  have SR := hid sr
  have SB := hid sb
  have hcb := sb.len
  have hcm := sb.max
  have hmx : maxLen = 9223372036854775807 := rfl
  rw [E2] at HO
  have HB := hid HO.out.ram
  have ST := hid (show Sl w bx cb (z.take s.ram.length) from ⟨row_take _ sb.row, by rw [List.length_take]; omega, hcm, sb.nil⟩)
  clear E E2
  obtain ⟨is, ⟨h0, h1, h2, h3, h4, h5, h6, h7, h8, h9⟩, img, ram, m, live, held, last⟩ := s
  simp only at hs hb rl C1 SI SR hc hzl HT HO
  subst hs hb hc
  have B1 : Blk ((w.alloc (.cells (rcL ⟨true, ⟨h0, h1, h2, h3, true, false, h6, h7, h8, h9⟩, img, ram, m, live, held, last⟩ xi ci xr cr).toArray 37)).alloc (.cells rc0.toArray 37)) w.heap.size 37 (rcL ⟨true, ⟨h0, h1, h2, h3, true, false, h6, h7, h8, h9⟩, img, ram, m, live, held, last⟩ xi ci xr cr) := blk_past (blk_new w _ _) _
  have R1 : Blk ((w.alloc (.cells (rcL ⟨true, ⟨h0, h1, h2, h3, true, false, h6, h7, h8, h9⟩, img, ram, m, live, held, last⟩ xi ci xr cr).toArray 37)).alloc (.cells rc0.toArray 37)) (w.heap.size + 1) 37 rc0 := by have h := blk_new (w.alloc (.cells (rcL ⟨true, ⟨h0, h1, h2, h3, true, false, h6, h7, h8, h9⟩, img, ram, m, live, held, last⟩ xi ci xr cr).toArray 37)) rc0 37; rw [World.size_alloc] at h; exact h
  have K1 := hid (((Kept.refl w).alloc (.cells (rcL ⟨true, ⟨h0, h1, h2, h3, true, false, h6, h7, h8, h9⟩, img, ram, m, live, held, last⟩ xi ci xr cr).toArray 37)).alloc (.cells rc0.toArray 37))
  have q1 := blk_cell B1
  clear O sr sb
  go_enter Tryz.func16, Tryz.ntmps16
  go_wp2_with ((with_reducible refine at_ld 37 ?_); refine wl_load0 rfl rfl rfl B1 Tryz.underlying37 rfl (by kernel_rfl) ?_)
  refine (C1.out _ K1.out).mono ?_
  rintro e u2 ⟨x2, rfl, o2, k2⟩
  have B2 : Blk u2 w.heap.size 37 (rcL ⟨true, ⟨h0, h1, h2, h3, true, false, h6, h7, h8, h9⟩, img, ram, m, live, held, last⟩ xi ci xr cr) := blk_kept k2 B1
  have R2 : Blk u2 (w.heap.size + 1) 37 rc0 := blk_kept k2 R1
  have K2 := hid (K1.out.trans k2)
  have q2 := blk_cell B2
  clear B1 R1 q1
  obtain ⟨ax, cx, rfl, s2, n2⟩ := own_sl o2 SI.out
  clear k2 o2 s2 n2
  have HT2 := hid (show (z.take ram.length).length = ram.length from HT.out)
  generalize (saveS ⟨true, ⟨h0, h1, h2, h3, true, false, h6, h7, h8, h9⟩, img, ram, m, live, held, last⟩).length = N at *
  subst hz
  have dz : ((z.length : Int) != (z.length : Int)) = false := by simp
  have e1 : (ram.length : Int) ≤ (cb : Int) := by omega
  have z2 := blk_lt B2
  have y2 := blk_lt R2
  have O2 := hid (own_empty u2 (Nat.le_refl _))
  have SA := hid (sl_kept (K2.out.alloc (.cells #[] 5)) ST.out)
  have A2 := hid (blk_past B2 (.cells #[] 5))
  have AR := hid (blk_past R2 (.cells #[] 5))
  have KA := hid (K2.out.alloc (.cells #[] 5))
  go_wp2_with (first
    | (at_builtin; refine wl_append O2.out SA.out rfl rfl rfl rfl HT.out.symm (by simp) (by rw [HT.out]; simp; omega) (fun v' u3 o3 g3 => ?_); rw [List.nil_append] at o3; have B3 : Blk u3 w.heap.size 37 (rcL ⟨true, ⟨h0, h1, h2, h3, true, false, h6, h7, h8, h9⟩, img, ram, m, live, held, last⟩ xi ci xr cr) := blk_by g3 A2.out (by simp [Value.ownBlock]; omega); have R3 : Blk u3 (w.heap.size + 1) 37 rc0 := blk_by g3 AR.out (by simp [Value.ownBlock]; omega); have K3 := hid (KA.out.by g3 (fun j h => by simp [Value.ownBlock] at h; omega)); have q3 := blk_cell B3; obtain ⟨a3, c3, rfl, sl3, nw3⟩ := own_sl o3 HB.out; clear g3 B2 R2 q2 o3)
    | ((with_reducible refine at_st 22 ?_); refine wl_store rfl rfl rfl rfl B3 (by kernel_rfl) rfl (Nat.le_of_ble_eq_true rfl) (fun u4 p4 => ?_); have B4 : Blk u4 w.heap.size 37 (rcL ⟨true, ⟨h0, h1, h2, h3, true, false, h6, h7, h8, h9⟩, img, (z.take ram.length), m, live, held, last⟩ xi ci a3 c3) := (by have h := p4.blk; rw [← HT2.out] at h; exact h); have R4 := p4.other _ _ _ (Nat.succ_ne_self _) R3; have K4 := hid (p4.kept _ K3.out (Nat.le_refl _)); have SL4 := hid (sl_put p4 sl3 (fun x hx => by have := nw3 x hx; omega)); clear p4 B3 R3 q3)
    | ((with_reducible refine at_ld 37 ?_); refine wl_load0 rfl rfl rfl B4 Tryz.underlying37 rfl (by kernel_rfl) ?_)
    | ((with_reducible refine at_st _ ?_); refine wl_store rfl rfl rfl rfl R4 (by kernel_rfl) rfl (Nat.le_of_ble_eq_true rfl) (fun u5 p5 => ?_); have K5 := hid (p5.kept _ K4.out (Nat.le_succ _)); have E5 : Blk u5 (w.heap.size + 1) 37 (rcL ⟨true, ⟨h0, h1, h2, h3, true, false, h6, h7, h8, h9⟩, img, (z.take ram.length), m, live, held, last⟩ xi ci a3 c3) := p5.blk; have SL5 := hid (sl_put p5 SL4.out (fun x hx => by have := nw3 x hx; omega)); clear p5))
  exact bodyPost_ret (res_cell2 Tryz.results16 rfl E5 Tryz.underlying37 rfl (by kernel_rfl)) rfl ⟨_, _, rfl, SL5.out, .inr (fun x hx => by have := nw3 x hx; omega), K5.out⟩
end Go.Proofs.YtfmddnekooojkaaGreatDoor
namespace Go.Proofs.YtfmddnekooojkaaGreatDoor
open Go.RowKit
set_option linter.unusedVariables false
set_option linter.unusedSimpArgs false

set_option maxRecDepth 100000 in
set_option maxHeartbeats 4000000 in
theorem rcload_bad (s : Cs) (xi : Option Addr) (ci : Nat) (xr : Option Addr) (cr : Nat) (z : List Int) (bx : Option Addr) (cb : Nat) (w : World) (O : CsOk s) (sr : Sl w xr cr s.ram) (sb : Sl w bx cb z) (hs : s.is = true) (hb : s.h.bat = true) (hc : s.h.clk = true) (hz : z.length = (saveS s).length) (hE : ofE (z.drop s.ram.length) ≠ 0) : Calls Tryz.prog 16 #[rcV s xi ci xr cr, .slice bx z.length cb] w fun e w' => ∃ xr' cr', e = .returned (.tuple #[rcV (loadS s z) xi ci xr' cr', .int .i64 (loadE s z)]) ∧ Sl w' xr' cr' (loadS s z).ram ∧ (xr' = xr ∨ Newer w.heap.size xr') ∧ Kept w w' := by
  have sl := save_len s ⟨hs, hb⟩
  rw [hc, if_pos rfl] at sl
  have hzl : z.length = s.ram.length + 10 := by omega
  obtain ⟨x, rfl, hx, _⟩ := row_get sb.row (by omega)
  have HT := hid (show (z.take s.ram.length).length = s.ram.length by rw [List.length_take]; omega)
  have RD := hid (row_drop s.ram.length sb.row (by omega))
  have E : loadE s z = ofE (z.drop s.ram.length) := by unfold loadE; rw [if_neg (by rw [hs, hb]; decide), if_neg (by rw [hz]; simp), if_pos hc]
  have E2 : loadS s z = s := by unfold loadS; rw [E, if_neg hE]
  rw [E, E2]
  have rl := O.rlen
  have SI := hid (save_in s O)
  have HO := hid (loadS_ok s z O sb.row.2.1)
  have C1 := hid (fun u (g : Kept w u) => rcsave_any s xi ci xr cr u O (sl_kept g sr))
  have SR := hid sr
  have SB := hid sb
  have hcb := sb.len
  have hcm := sb.max
  have hmx : maxLen = 9223372036854775807 := rfl
  have C3 := hid (fun u (g : Kept w u) => rof_any (z.drop s.ram.length) (some (x.add s.ram.length)) (cb - s.ram.length) u (row_kept g RD.out) (by rw [List.length_drop]; omega) (by omega))
  rw [List.length_drop, hzl, Nat.add_sub_cancel_left] at C3
  clear E E2 HO
  obtain ⟨is, ⟨h0, h1, h2, h3, h4, h5, h6, h7, h8, h9⟩, img, ram, m, live, held, last⟩ := s
  simp only at hs hb rl C1 SI SR hc hzl HT C3 hE
  subst hs hb hc
  generalize ofX (z.drop ram.length) = XX at *
  generalize ofY (z.drop ram.length) = YY at *
  generalize ofE (z.drop ram.length) = EE at *
  have dE : (EE != 0) = true := by simpa using hE
  have B1 : Blk ((w.alloc (.cells (rcL ⟨true, ⟨h0, h1, h2, h3, true, true, h6, h7, h8, h9⟩, img, ram, m, live, held, last⟩ xi ci xr cr).toArray 37)).alloc (.cells rc0.toArray 37)) w.heap.size 37 (rcL ⟨true, ⟨h0, h1, h2, h3, true, true, h6, h7, h8, h9⟩, img, ram, m, live, held, last⟩ xi ci xr cr) := blk_past (blk_new w _ _) _
  have R1 : Blk ((w.alloc (.cells (rcL ⟨true, ⟨h0, h1, h2, h3, true, true, h6, h7, h8, h9⟩, img, ram, m, live, held, last⟩ xi ci xr cr).toArray 37)).alloc (.cells rc0.toArray 37)) (w.heap.size + 1) 37 rc0 := by have h := blk_new (w.alloc (.cells (rcL ⟨true, ⟨h0, h1, h2, h3, true, true, h6, h7, h8, h9⟩, img, ram, m, live, held, last⟩ xi ci xr cr).toArray 37)) rc0 37; rw [World.size_alloc] at h; exact h
  have K1 := hid (((Kept.refl w).alloc (.cells (rcL ⟨true, ⟨h0, h1, h2, h3, true, true, h6, h7, h8, h9⟩, img, ram, m, live, held, last⟩ xi ci xr cr).toArray 37)).alloc (.cells rc0.toArray 37))
  have q1 := blk_cell B1
  clear O sr sb
  go_enter Tryz.func16, Tryz.ntmps16
  go_wp2_with ((with_reducible refine at_ld 37 ?_); refine wl_load0 rfl rfl rfl B1 Tryz.underlying37 rfl (by kernel_rfl) ?_)
  refine (C1.out _ K1.out).mono ?_
  rintro e u2 ⟨x2, rfl, o2, k2⟩
  have B2 : Blk u2 w.heap.size 37 (rcL ⟨true, ⟨h0, h1, h2, h3, true, true, h6, h7, h8, h9⟩, img, ram, m, live, held, last⟩ xi ci xr cr) := blk_kept k2 B1
  have R2 : Blk u2 (w.heap.size + 1) 37 rc0 := blk_kept k2 R1
  have K2 := hid (K1.out.trans k2)
  have q2 := blk_cell B2
  clear B1 R1 q1
  obtain ⟨ax, cx, rfl, s2, n2⟩ := own_sl o2 SI.out
  clear k2 o2 s2 n2
  generalize (saveS ⟨true, ⟨h0, h1, h2, h3, true, true, h6, h7, h8, h9⟩, img, ram, m, live, held, last⟩).length = N at *
  subst hz
  have dz : ((z.length : Int) != (z.length : Int)) = false := by simp
  have e1 : (ram.length : Int) ≤ (z.length : Int) := by omega
  have e2 : (z.length : Int) ≤ (cb : Int) := by omega
  have e3 : ¬ cb = ram.length := by omega
  have e4 : ¬ (cb : Int) = (ram.length : Int) := by omega
  have e5 : ((z.length : Int) - (ram.length : Int)).toNat = z.length - ram.length := by omega
  have e6 : ((cb : Int) - (ram.length : Int)).toNat = cb - ram.length := by omega
  go_wp2_with fail
  refine (C3.out _ K2.out).mono ?_
  rintro e u3 ⟨rfl, g3⟩
  have B3 : Blk u3 w.heap.size 37 (rcL ⟨true, ⟨h0, h1, h2, h3, true, true, h6, h7, h8, h9⟩, img, ram, m, live, held, last⟩ xi ci xr cr) := blk_kept (Kept.of g3) B2
  have R3 : Blk u3 (w.heap.size + 1) 37 rc0 := blk_kept (Kept.of g3) R2
  have K3 := hid (K2.out.trans (Kept.of g3))
  have q3 := blk_cell B3
  clear B2 R2 q2
  have y3 := blk_lt R3
  have B4 : Blk ((u3.alloc (.cells ([.int .u8 XX.sec, .int .u8 XX.min, .int .u8 XX.hour, .int .u16 XX.day, .bool XX.halt, .bool XX.carry] : List Value).toArray 35)).alloc (.cells ([.int .u8 YY.sec, .int .u8 YY.min, .int .u8 YY.hour, .int .u16 YY.day, .bool YY.halt, .bool YY.carry] : List Value).toArray 35)) w.heap.size 37 (rcL ⟨true, ⟨h0, h1, h2, h3, true, true, h6, h7, h8, h9⟩, img, ram, m, live, held, last⟩ xi ci xr cr) := blk_past (blk_past B3 _) _
  have R4 : Blk ((u3.alloc (.cells ([.int .u8 XX.sec, .int .u8 XX.min, .int .u8 XX.hour, .int .u16 XX.day, .bool XX.halt, .bool XX.carry] : List Value).toArray 35)).alloc (.cells ([.int .u8 YY.sec, .int .u8 YY.min, .int .u8 YY.hour, .int .u16 YY.day, .bool YY.halt, .bool YY.carry] : List Value).toArray 35)) (w.heap.size + 1) 37 rc0 := blk_past (blk_past R3 _) _
  have K4 := hid ((K3.out.alloc (.cells ([.int .u8 XX.sec, .int .u8 XX.min, .int .u8 XX.hour, .int .u16 XX.day, .bool XX.halt, .bool XX.carry] : List Value).toArray 35)).alloc (.cells ([.int .u8 YY.sec, .int .u8 YY.min, .int .u8 YY.hour, .int .u16 YY.day, .bool YY.halt, .bool YY.carry] : List Value).toArray 35))
  have q4 := blk_cell B4
  clear g3 B3 R3 q3
  go_wp2_with (first
    | ((with_reducible refine at_ld 37 ?_); refine wl_load0 rfl rfl rfl B4 Tryz.underlying37 rfl (by kernel_rfl) ?_)
    | ((with_reducible refine at_st _ ?_); refine wl_store rfl rfl rfl rfl R4 (by kernel_rfl) rfl (Nat.le_of_ble_eq_true rfl) (fun u5 p5 => ?_); have K5 := hid (p5.kept _ K4.out (Nat.le_succ _)); have E5 : Blk u5 (w.heap.size + 1) 37 (rcL ⟨true, ⟨h0, h1, h2, h3, true, true, h6, h7, h8, h9⟩, img, ram, m, live, held, last⟩ xi ci xr cr) := p5.blk; clear p5))
  exact bodyPost_ret (res_cell2 Tryz.results16 rfl E5 Tryz.underlying37 rfl (by kernel_rfl)) rfl ⟨_, _, rfl, sl_kept K5.out SR.out, .inl rfl, K5.out⟩
set_option maxRecDepth 100000 in
set_option maxHeartbeats 4000000 in
theorem rcload_good (s : Cs) (xi : Option Addr) (ci : Nat) (xr : Option Addr) (cr : Nat) (z : List Int) (bx : Option Addr) (cb : Nat) (w : World) (O : CsOk s) (sr : Sl w xr cr s.ram) (sb : Sl w bx cb z) (hs : s.is = true) (hb : s.h.bat = true) (hc : s.h.clk = true) (hz : z.length = (saveS s).length) (hE : ofE (z.drop s.ram.length) = 0) : Calls Tryz.prog 16 #[rcV s xi ci xr cr, .slice bx z.length cb] w fun e w' => ∃ xr' cr', e = .returned (.tuple #[rcV (loadS s z) xi ci xr' cr', .int .i64 (loadE s z)]) ∧ Sl w' xr' cr' (loadS s z).ram ∧ (xr' = xr ∨ Newer w.heap.size xr') ∧ Kept w w' := by
  have sl := save_len s ⟨hs, hb⟩
  rw [hc, if_pos rfl] at sl
  have hzl : z.length = s.ram.length + 10 := by omega
  obtain ⟨x, rfl, hx, _⟩ := row_get sb.row (by omega)
  have HT := hid (show (z.take s.ram.length).length = s.ram.length by rw [List.length_take]; omega)
  have RD := hid (row_drop s.ram.length sb.row (by omega))
  have E : loadE s z = 0 := by unfold loadE; rw [if_neg (by rw [hs, hb]; decide), if_neg (by rw [hz]; simp), if_pos hc, hE]
  have E2 : loadS s z = { s with ram := z.take s.ram.length, live := ofX (z.drop s.ram.length), held := ofY (z.drop s.ram.length) } := by unfold loadS; rw [E, if_pos rfl, if_pos hc, if_pos hc]
  rw [E, E2]
  have rl := O.rlen
  have SI := hid (save_in s O)
  have HO := hid (loadS_ok s z O sb.row.2.1)
  have C1 := hid (fun u (g : Kept w u) => rcsave_any s xi ci xr cr u O (sl_kept g sr))
  have SR := hid sr
  have SB := hid sb
  have hcb := sb.len
  have hcm := sb.max
  have hmx : maxLen = 9223372036854775807 := rfl
  have C3 := hid (fun u (g : Kept w u) => rof_any (z.drop s.ram.length) (some (x.add s.ram.length)) (cb - s.ram.length) u (row_kept g RD.out) (by rw [List.length_drop]; omega) (by omega))
  rw [List.length_drop, hzl, Nat.add_sub_cancel_left] at C3
  rw [hE] at C3
  rw [E2] at HO
  have HB := hid HO.out.ram
  have ST := hid (show Sl w (some x) cb (z.take s.ram.length) from ⟨row_take _ sb.row, by rw [List.length_take]; omega, hcm, sb.nil⟩)
  clear E E2 hE
  obtain ⟨is, ⟨h0, h1, h2, h3, h4, h5, h6, h7, h8, h9⟩, img, ram, m, live, held, last⟩ := s
  simp only at hs hb rl C1 SI SR hc hzl HT C3 HO HB ST
  subst hs hb hc
  generalize ofX (z.drop ram.length) = XX at *
  generalize ofY (z.drop ram.length) = YY at *
  have B1 : Blk ((w.alloc (.cells (rcL ⟨true, ⟨h0, h1, h2, h3, true, true, h6, h7, h8, h9⟩, img, ram, m, live, held, last⟩ xi ci xr cr).toArray 37)).alloc (.cells rc0.toArray 37)) w.heap.size 37 (rcL ⟨true, ⟨h0, h1, h2, h3, true, true, h6, h7, h8, h9⟩, img, ram, m, live, held, last⟩ xi ci xr cr) := blk_past (blk_new w _ _) _
  have R1 : Blk ((w.alloc (.cells (rcL ⟨true, ⟨h0, h1, h2, h3, true, true, h6, h7, h8, h9⟩, img, ram, m, live, held, last⟩ xi ci xr cr).toArray 37)).alloc (.cells rc0.toArray 37)) (w.heap.size + 1) 37 rc0 := by have h := blk_new (w.alloc (.cells (rcL ⟨true, ⟨h0, h1, h2, h3, true, true, h6, h7, h8, h9⟩, img, ram, m, live, held, last⟩ xi ci xr cr).toArray 37)) rc0 37; rw [World.size_alloc] at h; exact h
  have K1 := hid (((Kept.refl w).alloc (.cells (rcL ⟨true, ⟨h0, h1, h2, h3, true, true, h6, h7, h8, h9⟩, img, ram, m, live, held, last⟩ xi ci xr cr).toArray 37)).alloc (.cells rc0.toArray 37))
  have q1 := blk_cell B1
  clear O sr sb
  go_enter Tryz.func16, Tryz.ntmps16
  go_wp2_with ((with_reducible refine at_ld 37 ?_); refine wl_load0 rfl rfl rfl B1 Tryz.underlying37 rfl (by kernel_rfl) ?_)
  refine (C1.out _ K1.out).mono ?_
  rintro e u2 ⟨x2, rfl, o2, k2⟩
  have B2 : Blk u2 w.heap.size 37 (rcL ⟨true, ⟨h0, h1, h2, h3, true, true, h6, h7, h8, h9⟩, img, ram, m, live, held, last⟩ xi ci xr cr) := blk_kept k2 B1
  have R2 : Blk u2 (w.heap.size + 1) 37 rc0 := blk_kept k2 R1
  have K2 := hid (K1.out.trans k2)
  have q2 := blk_cell B2
  clear B1 R1 q1
  obtain ⟨ax, cx, rfl, s2, n2⟩ := own_sl o2 SI.out
  clear k2 o2 s2 n2
  generalize (saveS ⟨true, ⟨h0, h1, h2, h3, true, true, h6, h7, h8, h9⟩, img, ram, m, live, held, last⟩).length = N at *
  subst hz
  have dz : ((z.length : Int) != (z.length : Int)) = false := by simp
  have e1 : (ram.length : Int) ≤ (z.length : Int) := by omega
  have e2 : (z.length : Int) ≤ (cb : Int) := by omega
  have e3 : ¬ cb = ram.length := by omega
  have e4 : ¬ (cb : Int) = (ram.length : Int) := by omega
  have e5 : ((z.length : Int) - (ram.length : Int)).toNat = z.length - ram.length := by omega
  have e6 : ((cb : Int) - (ram.length : Int)).toNat = cb - ram.length := by omega
  have HT2 := hid (show (z.take ram.length).length = ram.length from HT.out)
  clear HO
  go_wp2_with fail
  refine (C3.out _ K2.out).mono ?_
  rintro e u3 ⟨rfl, g3⟩
  have B3 : Blk u3 w.heap.size 37 (rcL ⟨true, ⟨h0, h1, h2, h3, true, true, h6, h7, h8, h9⟩, img, ram, m, live, held, last⟩ xi ci xr cr) := blk_kept (Kept.of g3) B2
  have R3 : Blk u3 (w.heap.size + 1) 37 rc0 := blk_kept (Kept.of g3) R2
  have K3 := hid (K2.out.trans (Kept.of g3))
  have q3 := blk_cell B3
  clear B2 R2 q2
  have y3 := blk_lt R3
  have B4 : Blk ((u3.alloc (.cells ([.int .u8 XX.sec, .int .u8 XX.min, .int .u8 XX.hour, .int .u16 XX.day, .bool XX.halt, .bool XX.carry] : List Value).toArray 35)).alloc (.cells ([.int .u8 YY.sec, .int .u8 YY.min, .int .u8 YY.hour, .int .u16 YY.day, .bool YY.halt, .bool YY.carry] : List Value).toArray 35)) w.heap.size 37 (rcL ⟨true, ⟨h0, h1, h2, h3, true, true, h6, h7, h8, h9⟩, img, ram, m, live, held, last⟩ xi ci xr cr) := blk_past (blk_past B3 _) _
  have R4 : Blk ((u3.alloc (.cells ([.int .u8 XX.sec, .int .u8 XX.min, .int .u8 XX.hour, .int .u16 XX.day, .bool XX.halt, .bool XX.carry] : List Value).toArray 35)).alloc (.cells ([.int .u8 YY.sec, .int .u8 YY.min, .int .u8 YY.hour, .int .u16 YY.day, .bool YY.halt, .bool YY.carry] : List Value).toArray 35)) (w.heap.size + 1) 37 rc0 := blk_past (blk_past R3 _) _
  have K4 := hid ((K3.out.alloc (.cells ([.int .u8 XX.sec, .int .u8 XX.min, .int .u8 XX.hour, .int .u16 XX.day, .bool XX.halt, .bool XX.carry] : List Value).toArray 35)).alloc (.cells ([.int .u8 YY.sec, .int .u8 YY.min, .int .u8 YY.hour, .int .u16 YY.day, .bool YY.halt, .bool YY.carry] : List Value).toArray 35))
  have q4 := blk_cell B4
  clear g3 B3 R3 q3
  have X4 : Blk ((u3.alloc (.cells ([.int .u8 XX.sec, .int .u8 XX.min, .int .u8 XX.hour, .int .u16 XX.day, .bool XX.halt, .bool XX.carry] : List Value).toArray 35)).alloc (.cells ([.int .u8 YY.sec, .int .u8 YY.min, .int .u8 YY.hour, .int .u16 YY.day, .bool YY.halt, .bool YY.carry] : List Value).toArray 35)) u3.heap.size 35 [.int .u8 XX.sec, .int .u8 XX.min, .int .u8 XX.hour, .int .u16 XX.day, .bool XX.halt, .bool XX.carry] := blk_past (blk_new u3 _ _) _
  have Y4 : Blk ((u3.alloc (.cells ([.int .u8 XX.sec, .int .u8 XX.min, .int .u8 XX.hour, .int .u16 XX.day, .bool XX.halt, .bool XX.carry] : List Value).toArray 35)).alloc (.cells ([.int .u8 YY.sec, .int .u8 YY.min, .int .u8 YY.hour, .int .u16 YY.day, .bool YY.halt, .bool YY.carry] : List Value).toArray 35)) (u3.heap.size + 1) 35 [.int .u8 YY.sec, .int .u8 YY.min, .int .u8 YY.hour, .int .u16 YY.day, .bool YY.halt, .bool YY.carry] := by have h := blk_new (u3.alloc (.cells ([.int .u8 XX.sec, .int .u8 XX.min, .int .u8 XX.hour, .int .u16 XX.day, .bool XX.halt, .bool XX.carry] : List Value).toArray 35)) [.int .u8 YY.sec, .int .u8 YY.min, .int .u8 YY.hour, .int .u16 YY.day, .bool YY.halt, .bool YY.carry] 35; rw [World.size_alloc] at h; exact h
  have x4 := blk_cell X4
  go_wp2_with (first
    | ((with_reducible refine at_st _ ?_); refine wl_store rfl rfl rfl rfl B4 (by kernel_rfl) rfl (Nat.le_of_ble_eq_true rfl) (fun u5 p5 => ?_); have B5 : Blk u5 w.heap.size 37 (rcL ⟨true, ⟨h0, h1, h2, h3, true, true, h6, h7, h8, h9⟩, img, ram, m, XX, held, last⟩ xi ci xr cr) := p5.blk; have R5 := p5.other _ _ _ (Nat.succ_ne_self _) R4; have Y5 := p5.other _ _ _ (show u3.heap.size + 1 ≠ w.heap.size by omega) Y4; have K5 := hid (p5.kept _ K4.out (Nat.le_refl _)); have y5 := blk_cell Y5; clear p5 B4 R4 q4 X4 Y4 x4)
    | ((with_reducible refine at_st _ ?_); refine wl_store rfl rfl rfl rfl B5 (by kernel_rfl) rfl (Nat.le_of_ble_eq_true rfl) (fun u6 p6 => ?_); have B6 : Blk u6 w.heap.size 37 (rcL ⟨true, ⟨h0, h1, h2, h3, true, true, h6, h7, h8, h9⟩, img, ram, m, XX, YY, last⟩ xi ci xr cr) := p6.blk; have R6 := p6.other _ _ _ (Nat.succ_ne_self _) R5; have K6 := hid (p6.kept _ K5.out (Nat.le_refl _)); have q6 := blk_cell B6; clear p6 B5 R5 Y5 y5; refine Hid.out ?_))
  refine hid ?_
  have z6 := blk_lt B6
  have y6 := blk_lt R6
  have O6 := hid (own_empty u6 (Nat.le_refl _))
  have SA := hid (sl_kept (K6.out.alloc (.cells #[] 5)) ST.out)
  have A6 := hid (blk_past B6 (.cells #[] 5))
  have AR := hid (blk_past R6 (.cells #[] 5))
  have KA := hid (K6.out.alloc (.cells #[] 5))
  go_wp2_with (first
    | (at_builtin; refine wl_append O6.out SA.out rfl rfl rfl rfl HT.out.symm (by simp) (by rw [HT.out]; simp; omega) (fun v' u7 o7 g7 => ?_); rw [List.nil_append] at o7; have B7 : Blk u7 w.heap.size 37 (rcL ⟨true, ⟨h0, h1, h2, h3, true, true, h6, h7, h8, h9⟩, img, ram, m, XX, YY, last⟩ xi ci xr cr) := blk_by g7 A6.out (by simp [Value.ownBlock]; omega); have R7 : Blk u7 (w.heap.size + 1) 37 rc0 := blk_by g7 AR.out (by simp [Value.ownBlock]; omega); have K7 := hid (KA.out.by g7 (fun j h => by simp [Value.ownBlock] at h; omega)); have q7 := blk_cell B7; obtain ⟨a7, c7, rfl, sl7, nw7⟩ := own_sl o7 HB.out; clear g7 B6 R6 q6 o7)
    | ((with_reducible refine at_st 22 ?_); refine wl_store rfl rfl rfl rfl B7 (by kernel_rfl) rfl (Nat.le_of_ble_eq_true rfl) (fun u8 p8 => ?_); have B8 : Blk u8 w.heap.size 37 (rcL ⟨true, ⟨h0, h1, h2, h3, true, true, h6, h7, h8, h9⟩, img, (z.take ram.length), m, XX, YY, last⟩ xi ci a7 c7) := (by have h := p8.blk; rw [← HT2.out] at h; exact h); have R8 := p8.other _ _ _ (Nat.succ_ne_self _) R7; have K8 := hid (p8.kept _ K7.out (Nat.le_refl _)); have SL8 := hid (sl_put p8 sl7 (fun x hx => by have := nw7 x hx; omega)); clear p8 B7 R7 q7)
    | ((with_reducible refine at_ld 37 ?_); refine wl_load0 rfl rfl rfl B8 Tryz.underlying37 rfl (by kernel_rfl) ?_)
    | ((with_reducible refine at_st _ ?_); refine wl_store rfl rfl rfl rfl R8 (by kernel_rfl) rfl (Nat.le_of_ble_eq_true rfl) (fun u9 p9 => ?_); have K9 := hid (p9.kept _ K8.out (Nat.le_succ _)); have E9 : Blk u9 (w.heap.size + 1) 37 (rcL ⟨true, ⟨h0, h1, h2, h3, true, true, h6, h7, h8, h9⟩, img, (z.take ram.length), m, XX, YY, last⟩ xi ci a7 c7) := p9.blk; have SL9 := hid (sl_put p9 SL8.out (fun x hx => by have := nw7 x hx; omega)); clear p9))
  exact bodyPost_ret (res_cell2 Tryz.results16 rfl E9 Tryz.underlying37 rfl (by kernel_rfl)) rfl ⟨_, _, rfl, SL9.out, .inr (fun x hx => by have := nw7 x hx; omega), K9.out⟩
theorem rcload_any (s : Cs) (xi : Option Addr) (ci : Nat) (xr : Option Addr) (cr : Nat) (z : List Int) (bx : Option Addr) (cb : Nat) (w : World) (O : CsOk s) (sr : Sl w xr cr s.ram) (sb : Sl w bx cb z) : Calls Tryz.prog 16 #[rcV s xi ci xr cr, .slice bx z.length cb] w fun e w' => ∃ xr' cr', e = .returned (.tuple #[rcV (loadS s z) xi ci xr' cr', .int .i64 (loadE s z)]) ∧ Sl w' xr' cr' (loadS s z).ram ∧ (xr' = xr ∨ Newer w.heap.size xr') ∧ Kept w w' := by
  by_cases q : s.is = true ∧ s.h.bat = true
  · by_cases hz : z.length = (saveS s).length
    · cases hc : s.h.clk
      · exact rcload_ram s xi ci xr cr z bx cb w O sr sb q.1 q.2 hc hz
      · by_cases hE : ofE (z.drop s.ram.length) = 0
        · exact rcload_good s xi ci xr cr z bx cb w O sr sb q.1 q.2 hc hz hE
        · exact rcload_bad s xi ci xr cr z bx cb w O sr sb q.1 q.2 hc hz hE
    · exact rcload_size s xi ci xr cr z bx cb w O sr sb q.1 q.2 hz
  · exact rcload_no s xi ci xr cr z bx cb w O sr sb q
end Go.Proofs.YtfmddnekooojkaaGreatDoor
