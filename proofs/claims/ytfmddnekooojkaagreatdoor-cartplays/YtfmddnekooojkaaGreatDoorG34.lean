/- The program's cart: hold, put, writeChip. The program's cart: Read. The program's cart: Write, Tick. The program's cart: Save. -/
import Derived.Test.YtfmddnekooojkaaGreatDoorG31
import Derived.Test.YtfmddnekooojkaaGreatDoorG18
import Derived.Test.YtfmddnekooojkaaGreatDoorG16
import Derived.Test.YtfmddnekooojkaaGreatDoorG24
import Derived.Test.YtfmddnekooojkaaGreatDoorG32
namespace Go.Proofs.YtfmddnekooojkaaGreatDoor
open Go.RowKit
set_option linter.unusedVariables false
set_option linter.unusedSimpArgs false

def holdS (s : Cs) (v : Int) : Cs := { s with held := if v = 1 ∧ s.last = 0 then s.live else s.held, last := v }
set_option maxRecDepth 100000 in
set_option maxHeartbeats 4000000 in
theorem khold_in (s : Cs) (p : Nat) (xi : Option Addr) (ci : Nat) (xr : Option Addr) (cr : Nat) (v : Int) (w : World) (B : Blk w p 64 (cartL s xi ci xr cr)) : Calls Tryz.prog 63 #[.pointer (some ⟨p, 6, none⟩), .int .u8 v] w fun e w' => e = .returned (.tuple #[]) ∧ Blk w' p 64 (cartL (holdS s v) xi ci xr cr) ∧ KeptX (fun k => k = p) w w' := by
  have pw := blk_lt B
  by_cases q : v = 1 ∧ s.last = 0
  · have E : holdS s v = { s with held := s.live, last := v } := by unfold holdS; rw [if_pos q]
    rw [E]
    obtain ⟨rfl, q2⟩ := q
    obtain ⟨is, ⟨h0, h1, h2, h3, h4, h5, h6, h7, h8, h9⟩, img, ram, m, live, held, last⟩ := s
    simp only at q2
    subst q2
    have c0 := blk_cell B
    clear E
    go_enter Tryz.func63, Tryz.ntmps63
    go_wp2_with (first
      | ((with_reducible refine at_st 35 ?_); refine wl_store rfl rfl rfl rfl B (by kernel_rfl) rfl (Nat.le_of_ble_eq_true rfl) (fun u2 p_u2 => ?_); have B2 : Blk u2 p 64 (cartL ⟨is, ⟨h0, h1, h2, h3, h4, h5, h6, h7, h8, h9⟩, img, ram, m, live, live, 0⟩ xi ci xr cr) := p_u2.blk; have K2 := hid (p_u2.keptX (fun k => k = p) w (KeptX.refl w) (.inl rfl)); have c_u2 := blk_cell B2; clear p_u2 c0 B)
      | ((with_reducible refine at_st 5 ?_); refine wl_store rfl rfl rfl rfl B2 (by kernel_rfl) rfl (Nat.le_of_ble_eq_true rfl) (fun u3 p_u3 => ?_); have B3 : Blk u3 p 64 (cartL ⟨is, ⟨h0, h1, h2, h3, h4, h5, h6, h7, h8, h9⟩, img, ram, m, live, live, 1⟩ xi ci xr cr) := p_u3.blk; have K3 := hid (p_u3.keptX (fun k => k = p) w K2.out (.inl rfl)); have c_u3 := blk_cell B3; clear p_u3 c_u2 B2))
    go_end0
    exact ⟨rfl, B3, K3.out⟩
  · have E : holdS s v = { s with held := s.held, last := v } := by unfold holdS; rw [if_neg q]
    rw [E]
    have d : (s.last == 0) = false ∨ ((s.last == 0) = true ∧ (v == 1) = false) := by
      by_cases q1 : s.last = 0
      · exact .inr ⟨by simpa using q1, by simp; exact fun e => q ⟨e, q1⟩⟩
      · exact .inl (by simpa using q1)
    obtain ⟨is, ⟨h0, h1, h2, h3, h4, h5, h6, h7, h8, h9⟩, img, ram, m, live, held, last⟩ := s
    simp only at d
    have c0 := blk_cell B
    clear E q
    rcases d with d | ⟨d, d2⟩
    all_goals
      go_enter Tryz.func63, Tryz.ntmps63
      go_wp2_with (first
        | ((with_reducible refine at_st 5 ?_); refine wl_store rfl rfl rfl rfl B (by kernel_rfl) rfl (Nat.le_of_ble_eq_true rfl) (fun u3 p_u3 => ?_); have B3 : Blk u3 p 64 (cartL ⟨is, ⟨h0, h1, h2, h3, h4, h5, h6, h7, h8, h9⟩, img, ram, m, live, held, v⟩ xi ci xr cr) := p_u3.blk; have K3 := hid (p_u3.keptX (fun k => k = p) w (KeptX.refl w) (.inl rfl)); have c_u3 := blk_cell B3; clear p_u3 c0 B))
      go_end0
      exact ⟨rfl, B3, K3.out⟩
set_option maxRecDepth 100000 in
set_option maxHeartbeats 4000000 in
theorem kput_in (s : Cs) (p : Nat) (xi : Option Addr) (ci : Nat) (xr : Option Addr) (cr : Nat) (R v : Int) (w : World) (B : Blk w p 64 (cartL s xi ci xr cr)) (I : CkIn s.live) (hR : regE R = 0) (v0 : 0 ≤ v) (v1 : v ≤ 255) : Calls Tryz.prog 34 #[.pointer (some ⟨p, 6, none⟩), .int .i64 R, .int .u8 v] w fun e w' => e = .returned (.tuple #[]) ∧ Blk w' p 64 (cartL { s with live := writeC s.live R v } xi ci xr cr) ∧ KeptX (fun k => k = p) w w' := by
  have pw := blk_lt B
  have CC := hid (fun u => cwrite_any s.live R v u I v0 v1)
  rw [hR] at CC
  have c0 := blk_cell B
  obtain ⟨is, ⟨h0, h1, h2, h3, h4, h5, h6, h7, h8, h9⟩, img, ram, m, live, held, last⟩ := s
  simp only at CC
  generalize writeC live R v = L at *
  clear I
  go_enter Tryz.func34, Tryz.ntmps34
  go_wp2_with fail
  refine (CC.out _).mono ?_
  rintro e u1 ⟨rfl, k1⟩
  have B1 := blk_past (blk_kept k1 B) (.cells #[.int .u8 L.sec, .int .u8 L.min, .int .u8 L.hour, .int .u16 L.day, .bool L.halt, .bool L.carry] 35)
  have K1 : KeptX (fun k => k = p) w (u1.alloc (.cells #[.int .u8 L.sec, .int .u8 L.min, .int .u8 L.hour, .int .u16 L.day, .bool L.halt, .bool L.carry] 35)) := .of (k1.alloc _)
  have HK := hid K1
  have pw1 : p < u1.heap.size := blk_lt (blk_kept k1 B)
  clear k1 B c0 K1
  go_wp2_with (first
      | ((with_reducible refine at_st 35 ?_); refine wl_store rfl rfl rfl rfl B1 (by kernel_rfl) rfl (Nat.le_of_ble_eq_true rfl) (fun u2 p_u2 => ?_); have B2 : Blk u2 p 64 (cartL ⟨is, ⟨h0, h1, h2, h3, h4, h5, h6, h7, h8, h9⟩, img, ram, m, L, held, last⟩ xi ci xr cr) := p_u2.blk; have K2 := hid (p_u2.keptX (fun k => k = p) w HK.out (.inl rfl)); have c_u2 := blk_cell B2; clear p_u2 B1))
  go_end0
  exact ⟨rfl, B2, K2.out⟩
set_option maxRecDepth 100000 in
set_option maxHeartbeats 4000000 in
theorem kchip_in (s : Cs) (p : Nat) (xi : Option Addr) (ci : Nat) (xr : Option Addr) (cr : Nat) (a v : Int) (w : World) (B : Blk w p 64 (cartL s xi ci xr cr)) (O : CsOk s) (a0 : 0 ≤ a) (a1 : a ≤ 65535) (v0 : 0 ≤ v) (v1 : v ≤ 255) : Calls Tryz.prog 33 #[.pointer (some ⟨p, 0, none⟩), .int .u16 a, .int .u8 v] w fun e w' => e = .returned (.tuple #[]) ∧ Blk w' p 64 (cartL (lowS s a v) xi ci xr cr) ∧ KeptX (fun k => k = p) w w' := by
  have pw := blk_lt B
  have CC := hid (fun u => mwrite_any s.m a v u a0 a1 v0 v1 O.m)
  have c0 := blk_cell B
  by_cases q : s.h.clk = true ∧ 24576 ≤ a
  · have E : lowS s a v = holdS { s with m := writeM s.m a v } v := by
      unfold lowS holdS
      rw [if_pos q]
      congr 1
      by_cases q2 : v = 1 ∧ s.last = 0
      · rw [if_pos q2, if_pos ⟨q.1, q.2, q2⟩]
      · rw [if_neg q2, if_neg (fun h => q2 h.2.2)]
    rw [E]
    have CH := hid (fun u B => khold_in { s with m := writeM s.m a v } p xi ci xr cr v u B)
    have qa := q.2
    have qc := q.1
    obtain ⟨is, ⟨h0, h1, h2, h3, h4, h5, h6, h7, h8, h9⟩, img, ram, m, live, held, last⟩ := s
    simp only at CC qc CH
    subst qc
    generalize writeM m a v = M at *
    have d1 : decide (24576 ≤ a) = true := decide_eq_true qa
    have d2 : decide (a < 24576) = false := decide_eq_false (by omega)
    clear E O q
    go_enter Tryz.func33, Tryz.ntmps33
    go_wp2_with fail
    refine (CC.out _).mono ?_
    rintro e u1 ⟨rfl, k1⟩
    have B1 := blk_kept k1 B
    have c1 := blk_cell B1
    have HK : KeptX (fun k => k = p) w u1 := .of k1
    have HK := hid HK
    have pw1 : p < u1.heap.size := blk_lt B1
    clear k1 B c0
    go_wp2_with (first
        | ((with_reducible refine at_st 33 ?_); refine wl_store rfl rfl rfl rfl B1 (by kernel_rfl) rfl (Nat.le_of_ble_eq_true rfl) (fun u2 p_u2 => ?_); have B2 : Blk u2 p 64 (cartL ⟨is, ⟨h0, h1, h2, h3, h4, true, h6, h7, h8, h9⟩, img, ram, M, live, held, last⟩ xi ci xr cr) := p_u2.blk; have K2 := hid (p_u2.keptX (fun k => k = p) w HK.out (.inl rfl)); have c_u2 := blk_cell B2; clear p_u2 c1 B1))
    refine (CH.out _ B2).mono ?_
    rintro e u3 ⟨rfl, B3, k3⟩
    have K3 := hid (K2.out.trans k3 (fun k h => .inl h))
    clear k3
    go_wp2
    go_end0
    exact ⟨rfl, B3, K3.out⟩
  · have E : lowS s a v = { s with m := writeM s.m a v } := by
      unfold lowS
      rw [if_neg q, if_neg (fun h => q ⟨h.1, h.2.1⟩)]
    rw [E]
    have d : s.h.clk = false ∨ (s.h.clk = true ∧ a < 24576) := by
      cases hc : s.h.clk
      · exact .inl rfl
      · exact .inr ⟨rfl, Int.not_le.1 fun h => q ⟨hc, h⟩⟩
    obtain ⟨is, ⟨h0, h1, h2, h3, h4, h5, h6, h7, h8, h9⟩, img, ram, m, live, held, last⟩ := s
    simp only at CC d
    generalize writeM m a v = M at *
    clear E O q
    rcases d with rfl | ⟨rfl, d⟩
    · skip
      go_enter Tryz.func33, Tryz.ntmps33
      go_wp2_with fail
      refine (CC.out _).mono ?_
      rintro e u1 ⟨rfl, k1⟩
      have B1 := blk_kept k1 B
      have c1 := blk_cell B1
      have HK : KeptX (fun k => k = p) w u1 := .of k1
      have HK := hid HK
      have pw1 : p < u1.heap.size := blk_lt B1
      clear k1 B c0
      go_wp2_with (first
          | ((with_reducible refine at_st 33 ?_); refine wl_store rfl rfl rfl rfl B1 (by kernel_rfl) rfl (Nat.le_of_ble_eq_true rfl) (fun u2 p_u2 => ?_); have B2 : Blk u2 p 64 (cartL ⟨is, ⟨h0, h1, h2, h3, h4, false, h6, h7, h8, h9⟩, img, ram, M, live, held, last⟩ xi ci xr cr) := p_u2.blk; have K2 := hid (p_u2.keptX (fun k => k = p) w HK.out (.inl rfl)); have c_u2 := blk_cell B2; clear p_u2 c1 B1))
      go_end0
      exact ⟨rfl, B2, K2.out⟩
    · have d1 : decide (24576 ≤ a) = false := decide_eq_false (by omega)
      have d2 : decide (a < 24576) = true := decide_eq_true d
      go_enter Tryz.func33, Tryz.ntmps33
      go_wp2_with fail
      refine (CC.out _).mono ?_
      rintro e u1 ⟨rfl, k1⟩
      have B1 := blk_kept k1 B
      have c1 := blk_cell B1
      have HK : KeptX (fun k => k = p) w u1 := .of k1
      have HK := hid HK
      have pw1 : p < u1.heap.size := blk_lt B1
      clear k1 B c0
      go_wp2_with (first
          | ((with_reducible refine at_st 33 ?_); refine wl_store rfl rfl rfl rfl B1 (by kernel_rfl) rfl (Nat.le_of_ble_eq_true rfl) (fun u2 p_u2 => ?_); have B2 : Blk u2 p 64 (cartL ⟨is, ⟨h0, h1, h2, h3, h4, true, h6, h7, h8, h9⟩, img, ram, M, live, held, last⟩ xi ci xr cr) := p_u2.blk; have K2 := hid (p_u2.keptX (fun k => k = p) w HK.out (.inl rfl)); have c_u2 := blk_cell B2; clear p_u2 c1 B1))
      go_end0
      exact ⟨rfl, B2, K2.out⟩
end Go.Proofs.YtfmddnekooojkaaGreatDoor
namespace Go.Proofs.YtfmddnekooojkaaGreatDoor
open Go.RowKit
set_option linter.unusedVariables false
set_option linter.unusedSimpArgs false

set_option maxRecDepth 100000 in
set_option maxHeartbeats 4000000 in
theorem kread_no (v : Value) (a : Int) (w : World) (h : NoCart w v) : Calls Tryz.prog 7 #[v, .int .u16 a] w fun e w' => e = .returned (.int .u8 255) ∧ Kept w w' := by
  have N := hid (fun u (k : Kept w u) => knob_no v u (h.kept k))
  clear h
  go_enter Tryz.func7, Tryz.ntmps7
  go_wp2_with fail
  refine (N.out _ (Kept.refl w)).mono ?_
  rintro e u1 ⟨rfl, rfl⟩
  go_wp2
  go_ret
  exact ⟨rfl, Kept.refl _⟩
set_option maxRecDepth 100000 in
set_option maxHeartbeats 4000000 in
theorem kread_low (s : Cs) (p i ci r cr : Nat) (a : Int) (w : World) (h : CartIn w s p i ci r cr) (a0 : 0 ≤ a) (ha : a < 32768) : Calls Tryz.prog 7 #[.pointer (some ⟨p, 0, none⟩), .int .u16 a] w fun e w' => e = .returned (.int .u8 (readS s a)) ∧ Kept w w' := by
  have E : readS s a = s.img.getD (romS s a).toNat 0 := by unfold readS; rw [if_neg (by rw [h.yes]; decide), if_pos ha]
  obtain ⟨r0, r1⟩ := rom_in s a h.ok a0 ha h.yes
  obtain ⟨k, hk⟩ : ∃ k : Nat, romS s a = (k : Int) := ⟨(romS s a).toNat, by omega⟩
  have hk2 : k < s.img.length := by omega
  have N := hid (fun u (k : Kept w u) => knob_in s p i ci r cr u (h.keep k))
  have il := h.ok.ilen
  have CC := hid (fun u => mrom_any s.m a (s.img.length : Int) u a0 (by omega) (by omega) (by omega) h.ok.m)
  rw [show romM s.m a (s.img.length : Int) = (k : Int) from hk] at CC
  have SI := ownB_sl h.img h.ok.img
  have B0 := hid h.blk
  have c0 := blk_cell h.blk
  have pw := blk_lt h.blk
  clear h
  generalize (⟨i, 0, none⟩ : Addr) = x at *
  obtain ⟨y, hy, hx, hc⟩ := row_cell SI.row k hk2
  obtain rfl : x = y := Option.some.inj hy
  clear hy
  have li := SI.len
  have mi := SI.max
  rw [E, hk, Int.toNat_natCast]
  obtain ⟨is, ⟨h0, h1, h2, h3, h4, h5, h6, h7, h8, h9⟩, img, ram, m, live, held, last⟩ := s
  simp only at CC hk2 li il hc c0 B0
  generalize img.getD k 0 = V at *
  have hk3 : (k : Int) < (img.length : Int) := by omega
  have d1 : decide (a < 32768) = true := decide_eq_true ha
  clear E SI hk r0 r1
  go_enter Tryz.func7, Tryz.ntmps7
  go_wp2_with fail
  refine (N.out _ (Kept.refl w)).mono ?_
  rintro e u1 ⟨rfl, rfl⟩
  go_wp2_with fail
  go_region_held3 (fun w' => w'.cell? ⟨p, 29, none⟩ = some (.slice (some x) img.length ci) ∧ w'.cell? ⟨p, 0, none⟩ = some (.int .i64 m.kind) ∧ w'.cell? ⟨p, 1, none⟩ = some (.bool m.op) ∧ w'.cell? ⟨p, 2, none⟩ = some (.int .u8 m.low) ∧ w'.cell? ⟨p, 3, none⟩ = some (.int .u8 m.high) ∧ w'.cell? ⟨p, 4, none⟩ = some (.int .u8 m.ram) ∧ w'.cell? ⟨p, 5, none⟩ = some (.bool m.mode) ∧ w'.cell? (x.add k) = some (.int .u8 V)) (go_keep) (first | (go_at_call 25; refine (CC.out _).mono ?_; rintro e v1 ⟨rfl, q1⟩; have c1 := blk_cell (blk_kept q1 (blk_drew B0.out)); have hc1 := (q1.cell (x := x.add k) (by rw [addB]; exact hx)).trans hc; have K1 := hid (((Kept.refl _).drew).trans q1)))
  all_goals
    go_wp2
    go_ret
    exact ⟨rfl, K1.out⟩
set_option maxRecDepth 100000 in
set_option maxHeartbeats 4000000 in
theorem kread_reg (s : Cs) (p i ci r cr : Nat) (a : Int) (w : World) (h : CartIn w s p i ci r cr) (a0 : 0 ≤ a) (a1 : a ≤ 65535) (ha : ¬ a < 32768) (hr : regS s a ≠ 0) : Calls Tryz.prog 7 #[.pointer (some ⟨p, 0, none⟩), .int .u16 a] w fun e w' => e = .returned (.int .u8 (readS s a)) ∧ Kept w w' := by
  have E : readS s a = readC s.held (regS s a) := by unfold readS; rw [if_neg (by rw [h.yes]; decide), if_neg ha, if_pos hr]
  rw [E]
  have N := hid (fun u (k : Kept w u) => knob_in s p i ci r cr u (h.keep k))
  have C1 := hid (fun u (k : Kept w u) => kreg_in s p i ci r cr a u (h.keep k) a0 a1)
  have C2 := hid (fun u => cread_any s.held (regS s a) u h.ok.held)
  have B0 := hid h.blk
  clear h
  generalize regS s a = R at *
  obtain ⟨is, ⟨h0, h1, h2, h3, h4, h5, h6, h7, h8, h9⟩, img, ram, m, live, held, last⟩ := s
  simp only at C2
  generalize readC held R = V at *
  generalize regE R = RE at *
  have d1 : decide (a < 32768) = false := decide_eq_false ha
  have d2 : (R != 0) = true := by simpa using hr
  clear E
  go_enter Tryz.func7, Tryz.ntmps7
  go_wp2_with fail
  refine (N.out _ (Kept.refl w)).mono ?_
  rintro e u1 ⟨rfl, rfl⟩
  go_wp2_with fail
  refine (C1.out _ (Kept.refl _)).mono ?_
  rintro e u1 ⟨rfl, k1⟩
  have c1 := blk_cell (blk_kept k1 B0.out)
  have pw := blk_lt (blk_kept k1 B0.out)
  have K1 := hid k1
  clear k1
  go_wp2_with fail
  refine (C2.out _).mono ?_
  rintro e u2 ⟨rfl, k2⟩
  have K2 := hid (K1.out.trans k2)
  clear k2
  go_wp2
  go_ret
  exact ⟨rfl, K2.out⟩
set_option maxRecDepth 100000 in
set_option maxHeartbeats 4000000 in
theorem kread_ram (s : Cs) (p i ci r cr : Nat) (a : Int) (w : World) (h : CartIn w s p i ci r cr) (a0 : 0 ≤ a) (a1 : a ≤ 65535) (ha : ¬ a < 32768) (hr : regS s a = 0) (hm : 0 ≤ ramS s a) : Calls Tryz.prog 7 #[.pointer (some ⟨p, 0, none⟩), .int .u16 a] w fun e w' => e = .returned (.int .u8 (readS s a)) ∧ Kept w w' := by
  have E : readS s a = s.ram.getD (ramS s a).toNat 0 := by unfold readS; rw [if_neg (by rw [h.yes]; decide), if_neg ha, if_neg (by simpa using hr), if_neg (by omega)]
  obtain ⟨k, hk⟩ : ∃ k : Nat, ramS s a = (k : Int) := ⟨(ramS s a).toNat, by omega⟩
  have hk2 : k < s.ram.length := by rcases ram_in s a with q | q <;> omega
  have N := hid (fun u (k : Kept w u) => knob_in s p i ci r cr u (h.keep k))
  have C1 := hid (fun u (k : Kept w u) => kreg_in s p i ci r cr a u (h.keep k) a0 a1)
  have C2 := hid (fun u (k : Kept w u) => kplace_in s p i ci r cr a u (h.keep k) a0 a1)
  rw [hr] at C1
  rw [hk] at C2
  have SI := ownB_sl h.ram h.ok.ram
  have rl := h.ok.rlen
  have B0 := hid h.blk
  clear h
  generalize (⟨r, 0, none⟩ : Addr) = x at *
  obtain ⟨y, hy, hx, hc⟩ := row_cell SI.row k hk2
  obtain rfl : x = y := Option.some.inj hy
  clear hy
  have li := SI.len
  have mi := SI.max
  rw [E, hk, Int.toNat_natCast]
  obtain ⟨is, ⟨h0, h1, h2, h3, h4, h5, h6, h7, h8, h9⟩, img, ram, m, live, held, last⟩ := s
  simp only at hk2 li hc rl B0
  generalize ram.getD k 0 = V at *
  have hk3 : (k : Int) < (ram.length : Int) := by omega
  have d1 : decide (a < 32768) = false := decide_eq_false ha
  clear E SI hk
  go_enter Tryz.func7, Tryz.ntmps7
  go_wp2_with fail
  refine (N.out _ (Kept.refl w)).mono ?_
  rintro e u1 ⟨rfl, rfl⟩
  go_wp2_with fail
  refine (C1.out _ (Kept.refl _)).mono ?_
  rintro e u1 ⟨rfl, k1⟩
  have K1 := hid k1
  clear k1
  go_wp2_with fail
  refine (C2.out _ K1.out).mono ?_
  rintro e u2 ⟨rfl, k2⟩
  have K2 := hid (K1.out.trans k2)
  have c2 := blk_cell (blk_kept K2.out B0.out)
  have pw := blk_lt (blk_kept K2.out B0.out)
  have hc2 := (K2.out.cell (x := x.add k) (by rw [addB]; exact hx)).trans hc
  clear k2
  go_wp2
  go_ret
  exact ⟨rfl, K2.out⟩
set_option maxRecDepth 100000 in
set_option maxHeartbeats 4000000 in
theorem kread_none (s : Cs) (p i ci r cr : Nat) (a : Int) (w : World) (h : CartIn w s p i ci r cr) (a0 : 0 ≤ a) (a1 : a ≤ 65535) (ha : ¬ a < 32768) (hr : regS s a = 0) (hm : ¬ 0 ≤ ramS s a) : Calls Tryz.prog 7 #[.pointer (some ⟨p, 0, none⟩), .int .u16 a] w fun e w' => e = .returned (.int .u8 (readS s a)) ∧ Kept w w' := by
  have E : readS s a = 255 := by unfold readS; rw [if_neg (by rw [h.yes]; decide), if_neg ha, if_neg (by simpa using hr), if_pos (by omega)]
  have hk : ramS s a = -1 := by rcases ram_in s a with q | q <;> omega
  have N := hid (fun u (k : Kept w u) => knob_in s p i ci r cr u (h.keep k))
  have C1 := hid (fun u (k : Kept w u) => kreg_in s p i ci r cr a u (h.keep k) a0 a1)
  have C2 := hid (fun u (k : Kept w u) => kplace_in s p i ci r cr a u (h.keep k) a0 a1)
  rw [hr] at C1
  rw [hk] at C2
  rw [E]
  clear h
  have d1 : decide (a < 32768) = false := decide_eq_false ha
  clear E hk hm
  go_enter Tryz.func7, Tryz.ntmps7
  go_wp2_with fail
  refine (N.out _ (Kept.refl w)).mono ?_
  rintro e u1 ⟨rfl, rfl⟩
  go_wp2_with fail
  refine (C1.out _ (Kept.refl _)).mono ?_
  rintro e u1 ⟨rfl, k1⟩
  have K1 := hid k1
  clear k1
  go_wp2_with fail
  refine (C2.out _ K1.out).mono ?_
  rintro e u2 ⟨rfl, k2⟩
  have K2 := hid (K1.out.trans k2)
  clear k2
  go_wp2
  go_ret
  exact ⟨rfl, K2.out⟩
theorem kread_any (s : Cs) (v : Value) (F : Nat → Prop) (a : Int) (w : World) (h : CartAt w s v F) (a0 : 0 ≤ a) (a1 : a ≤ 65535) : Calls Tryz.prog 7 #[v, .int .u16 a] w fun e w' => e = .returned (.int .u8 (readS s a)) ∧ Kept w w' := by
  rcases cart_cases h with ⟨rfl, hn⟩ | ⟨p, i, ci, r, cr, rfl, h, _⟩
  · exact kread_no v a w hn
  · by_cases ha : a < 32768
    · exact kread_low s p i ci r cr a w h a0 ha
    · by_cases hr : regS s a = 0
      · by_cases hm : 0 ≤ ramS s a
        · exact kread_ram s p i ci r cr a w h a0 a1 ha hr hm
        · exact kread_none s p i ci r cr a w h a0 a1 ha hr hm
      · exact kread_reg s p i ci r cr a w h a0 a1 ha hr
end Go.Proofs.YtfmddnekooojkaaGreatDoor
namespace Go.Proofs.YtfmddnekooojkaaGreatDoor
open Go.RowKit
set_option linter.unusedVariables false
set_option linter.unusedSimpArgs false

theorem CartIn.turn {w u : World} {s t : Cs} {p i ci r cr : Nat} (h : CartIn w s p i ci r cr) (ok : CsOk t) (yes : t.is = true) (hi : t.img = s.img) (hr : t.ram = s.ram) (B : Blk u p 64 (cartL t (some ⟨i, 0, none⟩) ci (some ⟨r, 0, none⟩) cr)) (k : KeptX (fun k => k = p) w u) : CartIn u t p i ci r cr :=
  ⟨ok, yes, B, by rw [hi]; exact ownB_blk h.img (k.block i (ownB_lt h.img).2 (fun e => h.pi e.symm)), by rw [hr]; exact ownB_blk h.ram (k.block r (ownB_lt h.ram).2 (fun e => h.pr e.symm)), h.pi, h.pr, h.ir, by rw [hr]; exact h.cap⟩
theorem KeptX.more {F G : Nat → Prop} {W w : World} (h : KeptX F W w) (hs : ∀ k, F k → G k) : KeptX G W w := ⟨h.os, h.output, h.size, fun k hk hg => h.block k hk (fun q => hg (hs k q))⟩
set_option maxRecDepth 100000 in
set_option maxHeartbeats 4000000 in
theorem kwrite_no (v : Value) (a x : Int) (w : World) (h : NoCart w v) : Calls Tryz.prog 9 #[v, .int .u16 a, .int .u8 x] w fun e w' => e = .returned (.tuple #[]) ∧ w' = w := by
  have N := hid (fun u (k : Kept w u) => knob_no v u (h.kept k))
  clear h
  go_enter Tryz.func9, Tryz.ntmps9
  go_wp2_with fail
  refine (N.out _ (Kept.refl w)).mono ?_
  rintro e u1 ⟨rfl, hu⟩
  go_wp2
  go_returns
  exact ⟨rfl, rfl⟩
set_option maxRecDepth 100000 in
set_option maxHeartbeats 4000000 in
theorem kwrite_low (s : Cs) (p i ci r cr : Nat) (a x : Int) (w : World) (h : CartIn w s p i ci r cr) (a0 : 0 ≤ a) (a1 : a ≤ 65535) (x0 : 0 ≤ x) (x1 : x ≤ 255) (ha : a < 32768) : Calls Tryz.prog 9 #[.pointer (some ⟨p, 0, none⟩), .int .u16 a, .int .u8 x] w fun e w' => e = .returned (.tuple #[]) ∧ CartIn w' (writeS s a x) p i ci r cr ∧ KeptX (fun k => k = p ∨ k = i ∨ k = r) w w' := by
  have N := hid (fun u (k : Kept w u) => knob_in s p i ci r cr u (h.keep k))
  have E : writeS s a x = lowS s a x := by unfold writeS; rw [if_neg (by rw [h.yes]; decide), if_pos ha]
  have OK := writeS_ok s a x h.ok x0 x1
  rw [E] at OK
  rw [E]
  have CC := hid (kchip_in s p _ _ _ _ a x w h.blk h.ok a0 a1 x0 x1)
  have FIN := hid (fun u B k => h.turn (u := u) (t := lowS s a x) OK h.yes rfl rfl B k)
  have d1 : decide (a < 32768) = true := decide_eq_true ha
  clear h E OK
  go_enter Tryz.func9, Tryz.ntmps9
  go_wp2_with fail
  refine (N.out _ (Kept.refl w)).mono ?_
  rintro e u1 ⟨rfl, rfl⟩
  go_wp2_with fail
  refine CC.out.mono ?_
  rintro e u2 ⟨rfl, B2, k2⟩
  have Z := hid (And.intro (FIN.out _ B2 k2) (k2.more (G := (fun k => k = p ∨ k = i ∨ k = r)) fun k e => .inl e))
  clear B2 k2
  go_wp2
  go_returns
  exact ⟨rfl, Z.out.1, Z.out.2⟩
set_option maxRecDepth 100000 in
set_option maxHeartbeats 4000000 in
theorem kwrite_reg (s : Cs) (p i ci r cr : Nat) (a x : Int) (w : World) (h : CartIn w s p i ci r cr) (a0 : 0 ≤ a) (a1 : a ≤ 65535) (x0 : 0 ≤ x) (x1 : x ≤ 255) (ha : ¬ a < 32768) (hr : regS s a ≠ 0) : Calls Tryz.prog 9 #[.pointer (some ⟨p, 0, none⟩), .int .u16 a, .int .u8 x] w fun e w' => e = .returned (.tuple #[]) ∧ CartIn w' (writeS s a x) p i ci r cr ∧ KeptX (fun k => k = p ∨ k = i ∨ k = r) w w' := by
  have N := hid (fun u (k : Kept w u) => knob_in s p i ci r cr u (h.keep k))
  have E : writeS s a x = { s with live := writeC s.live (regS s a) x } := by unfold writeS; rw [if_neg (by rw [h.yes]; decide), if_neg ha, if_pos hr]
  have OK := writeS_ok s a x h.ok x0 x1
  rw [E] at OK
  rw [E]
  have C1 := hid (kreg_in s p i ci r cr a w h a0 a1)
  have CC := hid (fun u (k : Kept w u) => kput_in s p _ _ _ _ (regS s a) x u (h.keep k).blk h.ok.live (regE_in _ ((reg_in s a).resolve_left hr)) x0 x1)
  have FIN := hid (fun u0 (k0 : Kept w u0) u B k => (h.keep k0).turn (u := u) (t := { s with live := writeC s.live (regS s a) x }) OK h.yes rfl rfl B k)
  generalize regS s a = R at *
  have d1 : decide (a < 32768) = false := decide_eq_false ha
  have d2 : (R != 0) = true := by simpa using hr
  clear h E OK
  go_enter Tryz.func9, Tryz.ntmps9
  go_wp2_with fail
  refine (N.out _ (Kept.refl w)).mono ?_
  rintro e u1 ⟨rfl, rfl⟩
  go_wp2_with fail
  refine C1.out.mono ?_
  rintro e u2 ⟨rfl, k2⟩
  have K2 := hid k2
  clear k2
  go_wp2_with fail
  refine (CC.out _ K2.out).mono ?_
  rintro e u3 ⟨rfl, B3, k3⟩
  have Z := hid (And.intro (FIN.out _ K2.out _ B3 k3) ((KeptX.of K2.out).trans k3 (F := (fun k => k = p ∨ k = i ∨ k = r)) fun k e => .inl (.inl e)))
  clear B3 k3
  go_wp2
  go_returns
  exact ⟨rfl, Z.out.1, Z.out.2⟩
set_option maxRecDepth 100000 in
set_option maxHeartbeats 4000000 in
theorem kwrite_none (s : Cs) (p i ci r cr : Nat) (a x : Int) (w : World) (h : CartIn w s p i ci r cr) (a0 : 0 ≤ a) (a1 : a ≤ 65535) (x0 : 0 ≤ x) (x1 : x ≤ 255) (ha : ¬ a < 32768) (hr : regS s a = 0) (hm : ¬ 0 ≤ ramS s a) : Calls Tryz.prog 9 #[.pointer (some ⟨p, 0, none⟩), .int .u16 a, .int .u8 x] w fun e w' => e = .returned (.tuple #[]) ∧ CartIn w' (writeS s a x) p i ci r cr ∧ KeptX (fun k => k = p ∨ k = i ∨ k = r) w w' := by
  have N := hid (fun u (k : Kept w u) => knob_in s p i ci r cr u (h.keep k))
  have E : writeS s a x = s := by unfold writeS; rw [if_neg (by rw [h.yes]; decide), if_neg ha, if_neg (by simpa using hr), if_pos (by omega)]
  rw [E]
  have hk : ramS s a = -1 := by rcases ram_in s a with q | q <;> omega
  have C1 := hid (kreg_in s p i ci r cr a w h a0 a1)
  have C2 := hid (fun u (k : Kept w u) => kplace_in s p i ci r cr a u (h.keep k) a0 a1)
  have FIN := hid (fun u (k : Kept w u) => h.keep k)
  rw [hr] at C1
  rw [hk] at C2
  have d1 : decide (a < 32768) = false := decide_eq_false ha
  clear h E hk hm
  go_enter Tryz.func9, Tryz.ntmps9
  go_wp2_with fail
  refine (N.out _ (Kept.refl w)).mono ?_
  rintro e u1 ⟨rfl, rfl⟩
  go_wp2_with fail
  refine C1.out.mono ?_
  rintro e u2 ⟨rfl, k2⟩
  have K2 := hid k2
  clear k2
  go_wp2_with fail
  refine (C2.out _ K2.out).mono ?_
  rintro e u3 ⟨rfl, k3⟩
  have Z := hid (And.intro (FIN.out _ (K2.out.trans k3)) (KeptX.of (F := (fun k => k = p ∨ k = i ∨ k = r)) (K2.out.trans k3)))
  clear k3
  go_wp2
  go_returns
  exact ⟨rfl, Z.out.1, Z.out.2⟩
set_option maxRecDepth 100000 in
set_option maxHeartbeats 4000000 in
theorem kwrite_ram (s : Cs) (p i ci r cr : Nat) (a x : Int) (w : World) (h : CartIn w s p i ci r cr) (a0 : 0 ≤ a) (a1 : a ≤ 65535) (x0 : 0 ≤ x) (x1 : x ≤ 255) (ha : ¬ a < 32768) (hr : regS s a = 0) (hm : 0 ≤ ramS s a) : Calls Tryz.prog 9 #[.pointer (some ⟨p, 0, none⟩), .int .u16 a, .int .u8 x] w fun e w' => e = .returned (.tuple #[]) ∧ CartIn w' (writeS s a x) p i ci r cr ∧ KeptX (fun k => k = p ∨ k = i ∨ k = r) w w' := by
  have N := hid (fun u (k : Kept w u) => knob_in s p i ci r cr u (h.keep k))
  obtain ⟨k, hk⟩ : ∃ k : Nat, ramS s a = (k : Int) := ⟨(ramS s a).toNat, by omega⟩
  have hk2 : k < s.ram.length := by rcases ram_in s a with q | q <;> omega
  have E : writeS s a x = { s with ram := s.ram.set k x } := by unfold writeS; rw [if_neg (by rw [h.yes]; decide), if_neg ha, if_neg (by simpa using hr), if_neg (by omega), hk, Int.toNat_natCast]
  have OK := writeS_ok s a x h.ok x0 x1
  rw [E] at OK
  rw [E]
  have C1 := hid (kreg_in s p i ci r cr a w h a0 a1)
  have C2 := hid (fun u (k : Kept w u) => kplace_in s p i ci r cr a u (h.keep k) a0 a1)
  have FIN := hid (fun u0 (k0 : Kept w u0) => (show CartIn (u0.setCell ⟨r, k, none⟩ (.int .u8 x)) { s with ram := s.ram.set k x } p i ci r cr ∧ KeptX (fun k => k = p ∨ k = i ∨ k = r) w (u0.setCell ⟨r, k, none⟩ (.int .u8 x)) from by
    have g := h.keep k0
    refine ⟨⟨OK, h.yes, ?_, ?_, ownB_set g.ram k x, h.pi, h.pr, h.ir, by show (s.ram.set k x).length = cr; rw [List.length_set]; exact h.cap⟩, (KeptX.of k0).setCell (.inl (.inr (.inr rfl))) k _⟩
    · have b := blk_setCells_other (b := r) h.pr [.int .u8 x] k u0 g.blk
      show Blk _ _ _ [_, _, _, _, _, _, _, _, _, _, _, _, _, _, _, _, _, _, _, _, _, _, _, _, _, _, _, _, _, _, .slice _ (s.ram.set k x).length _]
      rw [List.length_set]
      exact b
    · exact ownB_blk g.img (heap_setCell_other u0 ⟨r, k, none⟩ i _ h.ir)))
  have AT := hid (fun u (k0 : Kept w u) => (show (∀ j, u.cell? ⟨p, j, none⟩ = (cartL s (some ⟨i, 0, none⟩) ci (some ⟨r, 0, none⟩) cr)[j]?) ∧ p < u.heap.size ∧ u.cell? ⟨r, k, none⟩ = some (.int .u8 (s.ram.getD k 0)) ∧ u.frozen? ⟨r, k, none⟩ = false from
    ⟨blk_cell (h.keep k0).blk, blk_lt (h.keep k0).blk, ownB_cell (h.keep k0).ram k hk2, ownB_frz (h.keep k0).ram k⟩))
  have ca := ownB_add r k
  have rl := h.ok.rlen
  rw [hr] at C1
  rw [hk] at C2
  have d1 : decide (a < 32768) = false := decide_eq_false ha
  have d3 : decide ((0 : Int) ≤ (k : Int)) = true := decide_eq_true (by omega)
  clear h E OK hk hm
  obtain ⟨is, ⟨h0, h1, h2, h3, h4, h5, h6, h7, h8, h9⟩, img, ram, m, live, held, last⟩ := s
  simp only at AT hk2 rl
  have hk3 : (k : Int) < (ram.length : Int) := by omega
  go_enter Tryz.func9, Tryz.ntmps9
  go_wp2_with fail
  refine (N.out _ (Kept.refl w)).mono ?_
  rintro e u1 ⟨rfl, rfl⟩
  go_wp2_with fail
  refine C1.out.mono ?_
  rintro e u2 ⟨rfl, k2⟩
  have K2 := hid k2
  clear k2
  go_wp2_with fail
  refine (C2.out _ K2.out).mono ?_
  rintro e u3 ⟨rfl, k3⟩
  obtain ⟨c3, pw3, cc3, cf3⟩ := AT.out _ (K2.out.trans k3)
  have Z := hid (FIN.out _ (K2.out.trans k3))
  clear k3
  go_wp2
  go_returns
  exact ⟨rfl, Z.out.1, Z.out.2⟩
theorem kwrite_in (s : Cs) (p i ci r cr : Nat) (a x : Int) (w : World) (h : CartIn w s p i ci r cr) (a0 : 0 ≤ a) (a1 : a ≤ 65535) (x0 : 0 ≤ x) (x1 : x ≤ 255) : Calls Tryz.prog 9 #[.pointer (some ⟨p, 0, none⟩), .int .u16 a, .int .u8 x] w fun e w' => e = .returned (.tuple #[]) ∧ CartIn w' (writeS s a x) p i ci r cr ∧ KeptX (fun k => k = p ∨ k = i ∨ k = r) w w' := by
  by_cases ha : a < 32768
  · exact kwrite_low s p i ci r cr a x w h a0 a1 x0 x1 ha
  · by_cases hr : regS s a = 0
    · by_cases hm : 0 ≤ ramS s a
      · exact kwrite_ram s p i ci r cr a x w h a0 a1 x0 x1 ha hr hm
      · exact kwrite_none s p i ci r cr a x w h a0 a1 x0 x1 ha hr hm
    · exact kwrite_reg s p i ci r cr a x w h a0 a1 x0 x1 ha hr
theorem cart_same {w : World} {s t : Cs} {v : Value} {F : Nat → Prop} (h : CartAt w s v F) (e : t = s) : ∃ F', CartAt w t v F' ∧ KeptX F w w ∧ (∀ k, F' k → F k ∨ w.heap.size ≤ k) := ⟨F, by rw [e]; exact h, KeptX.refl w, fun _ q => .inl q⟩
theorem CartIn.done {w u : World} {t : Cs} {p i ci r cr : Nat} {F : Nat → Prop} (h : CartIn u t p i ci r cr) (k : KeptX (fun k => k = p ∨ k = i ∨ k = r) w u) (hF : ∀ k, F k ↔ (k = p ∨ k = i ∨ k = r)) : ∃ F', CartAt u t (.pointer (some ⟨p, 0, none⟩)) F' ∧ KeptX F w u ∧ (∀ k, F' k → F k ∨ w.heap.size ≤ k) := ⟨F, h.at hF, k.more (fun k q => (hF k).2 q), fun _ q => .inl q⟩
theorem kwrite_any (s : Cs) (v : Value) (F : Nat → Prop) (a x : Int) (w : World) (h : CartAt w s v F) (a0 : 0 ≤ a) (a1 : a ≤ 65535) (x0 : 0 ≤ x) (x1 : x ≤ 255) : Calls Tryz.prog 9 #[v, .int .u16 a, .int .u8 x] w fun e w' => e = .returned (.tuple #[]) ∧ ∃ F', CartAt w' (writeS s a x) v F' ∧ KeptX F w w' ∧ (∀ k, F' k → F k ∨ w.heap.size ≤ k) := by
  rcases cart_cases h with ⟨rfl, hn⟩ | ⟨p, i, ci, r, cr, rfl, h, hF⟩
  · refine (kwrite_no v a x w hn).mono ?_
    rintro e u ⟨rfl, rfl⟩
    exact ⟨rfl, cart_same h rfl⟩
  · refine (kwrite_in s p i ci r cr a x w h a0 a1 x0 x1).mono ?_
    rintro e u ⟨rfl, c, k⟩
    exact ⟨rfl, c.done k hF⟩
set_option maxRecDepth 100000 in
set_option maxHeartbeats 4000000 in
theorem ktick_no (v : Value) (w : World) (h : NoCart w v) : Calls Tryz.prog 11 #[v] w fun e w' => e = .returned (.tuple #[]) ∧ w' = w := by
  have N := hid (fun u (k : Kept w u) => knob_no v u (h.kept k))
  clear h
  go_enter Tryz.func11, Tryz.ntmps11
  go_wp2_with fail
  refine (N.out _ (Kept.refl w)).mono ?_
  rintro e u1 ⟨rfl, hu⟩
  go_wp2
  go_returns
  exact ⟨rfl, rfl⟩
set_option maxRecDepth 100000 in
set_option maxHeartbeats 4000000 in
theorem ktick_in (s : Cs) (p i ci r cr : Nat) (w : World) (h : CartIn w s p i ci r cr) : Calls Tryz.prog 11 #[.pointer (some ⟨p, 0, none⟩)] w fun e w' => e = .returned (.tuple #[]) ∧ CartIn w' (tickS s) p i ci r cr ∧ KeptX (fun k => k = p ∨ k = i ∨ k = r) w w' := by
  have N := hid (fun u (k : Kept w u) => knob_in s p i ci r cr u (h.keep k))
  have OK := tickS_ok s h.ok
  by_cases q : s.h.clk = true
  · have E : tickS s = { s with live := tickC s.live } := by unfold tickS; rw [if_pos ⟨h.yes, q⟩]
    rw [E] at OK
    rw [E]
    have CC := hid (fun u => ctick_any s.live u h.ok.live)
    have FIN := hid (fun u B k => h.turn (u := u) (t := { s with live := tickC s.live }) OK h.yes rfl rfl B k)
    have B0 := hid h.blk
    have c0 := blk_cell h.blk
    have pw := blk_lt h.blk
    clear h E OK
    obtain ⟨is, ⟨h0, h1, h2, h3, h4, h5, h6, h7, h8, h9⟩, img, ram, m, live, held, last⟩ := s
    simp only at q CC FIN
    subst q
    generalize tickC live = L at *
    go_enter Tryz.func11, Tryz.ntmps11
    go_wp2_with fail
    refine (N.out _ (Kept.refl w)).mono ?_
    rintro e u1 ⟨rfl, hu⟩
    go_wp2_with fail
    refine (CC.out _).mono ?_
    rintro e u2 ⟨rfl, k2⟩
    have B2 := blk_kept k2 B0.out
    have HK : KeptX (fun k => k = p) w u2 := .of k2
    have HK := hid HK
    have pw2 := blk_lt B2
    clear k2 c0
    go_wp2_with (first
        | ((with_reducible refine at_st 35 ?_); refine wl_store rfl rfl rfl rfl B2 (by kernel_rfl) rfl (Nat.le_of_ble_eq_true rfl) (fun u3 p_u3 => ?_); have B3 : Blk u3 p 64 (cartL ⟨is, ⟨h0, h1, h2, h3, h4, true, h6, h7, h8, h9⟩, img, ram, m, L, held, last⟩ (some ⟨i, 0, none⟩) ci (some ⟨r, 0, none⟩) cr) := p_u3.blk; have K3 := hid (p_u3.keptX (fun k => k = p) w HK.out (.inl rfl)); have c_u3 := blk_cell B3; clear p_u3 B2))
    go_returns
    exact ⟨rfl, FIN.out _ B3 K3.out, K3.out.more fun k e => .inl e⟩
  · have E : tickS s = s := by unfold tickS; rw [if_neg (fun h => q h.2)]
    rw [E]
    have c0 := blk_cell h.blk
    have pw := blk_lt h.blk
    have HH := hid h
    clear h E OK
    obtain ⟨is, ⟨h0, h1, h2, h3, h4, h5, h6, h7, h8, h9⟩, img, ram, m, live, held, last⟩ := s
    simp only [Bool.not_eq_true] at q
    subst q
    go_enter Tryz.func11, Tryz.ntmps11
    go_wp2_with fail
    refine (N.out _ (Kept.refl w)).mono ?_
    rintro e u1 ⟨rfl, hu⟩
    go_wp2
    go_returns
    exact ⟨rfl, HH.out, KeptX.refl w⟩
theorem ktick_any (s : Cs) (v : Value) (F : Nat → Prop) (w : World) (h : CartAt w s v F) : Calls Tryz.prog 11 #[v] w fun e w' => e = .returned (.tuple #[]) ∧ ∃ F', CartAt w' (tickS s) v F' ∧ KeptX F w w' ∧ (∀ k, F' k → F k ∨ w.heap.size ≤ k) := by
  rcases cart_cases h with ⟨rfl, hn⟩ | ⟨p, i, ci, r, cr, rfl, h, hF⟩
  · refine (ktick_no v w hn).mono ?_
    rintro e u ⟨rfl, rfl⟩
    exact ⟨rfl, cart_same h rfl⟩
  · refine (ktick_in s p i ci r cr w h).mono ?_
    rintro e u ⟨rfl, c, k⟩
    exact ⟨rfl, c.done k hF⟩
end Go.Proofs.YtfmddnekooojkaaGreatDoor
namespace Go.Proofs.YtfmddnekooojkaaGreatDoor
open Go.RowKit
set_option linter.unusedVariables false
set_option linter.unusedSimpArgs false

/-- append(s, x...), s the call's own, x bytes, as one operation. -/
theorem wp_app10 {w : World} {o : Oper} {a : Act} {K : Act → World → Prop} {Q : Exit → Act → World → Prop} {s x : Operand} {base : Nat} {v : Value} {L : List Int} {y : Addr} {cap lz : Nat} {z : List Int}
    (own : w.ownsRow base 5 1 v L.length (L.map (Value.int .u8))) (sl : Sl w (some y) cap z) (ho : o.op = .call { callee := .builtin .append, args := #[s, x], argTypes := #[22, 22] })
    (hs : a.eval s = v) (hx : a.eval x = .slice (some y) lz cap) (hlz : lz = z.length) (hb : base ≤ w.heap.size) (hm : L.length + z.length ≤ 140737488355328)
    (h : ∀ v' u, u.ownsRow base 5 1 v' (L ++ z).length ((L ++ z).map (Value.int .u8)) → w.grownBy u v.ownBlock → K (a.put o.dst v') u) : o.wp Tryz.prog a w K Q := by
  obtain ⟨i0, hi, hz0, hz1, hz2⟩ := info_parts info10_u8
  subst hlz
  refine wp_append_own _ s x 22 ho base 5 i0 (.int .u8 0) 1 1 Tryz.underlying22 hi hz0 hz1 hz2 rfl (by decide) v _ _ hs own y z.length cap (z.map (Value.int .u8)) hx (by rw [List.length_map, Nat.mul_one]) (row_news10 sl.row) ?_ ?_ ?_ hb ?_
  · intro u hu; obtain ⟨q, _, rfl⟩ := List.mem_map.1 hu; rfl
  · unfold maxLen; omega
  · omega
  · intro v' u h1 h2 _
    refine h v' u ?_ h2
    rw [List.length_append, List.map_append]
    exact h1
set_option maxRecDepth 100000 in
set_option maxHeartbeats 4000000 in
theorem ksave_no (v : Value) (w : World) (h : NoCart w v) : Calls Tryz.prog 13 #[v] w fun e w' => ∃ r, e = .returned r ∧ w'.ownsRow w.heap.size 5 1 r (saveS cs0).length ((saveS cs0).map (Value.int .u8)) ∧ Kept w w' := by
  have N := hid (fun u (k : Kept w u) => knob_no v u (h.kept k))
  clear h
  go_enter Tryz.func13, Tryz.ntmps13
  go_wp2_with fail
  refine (N.out _ (Kept.refl w)).mono ?_
  rintro e u1 ⟨rfl, rfl⟩
  go_wp2
  go_ret
  exact ⟨_, rfl, World.ownsRow_nil _ _ _ _, Kept.refl _⟩
set_option maxRecDepth 100000 in
set_option maxHeartbeats 4000000 in
theorem ksave_bat (s : Cs) (p i ci r cr : Nat) (w : World) (h : CartIn w s p i ci r cr) (hb : s.h.bat = false) : Calls Tryz.prog 13 #[.pointer (some ⟨p, 0, none⟩)] w fun e w' => ∃ r, e = .returned r ∧ w'.ownsRow w.heap.size 5 1 r (saveS s).length ((saveS s).map (Value.int .u8)) ∧ Kept w w' := by
  have N := hid (fun u (k : Kept w u) => knob_in s p i ci r cr u (h.keep k))
  have E : saveS s = [] := by unfold saveS; rw [if_neg (by rw [hb]; simp)]
  rw [E]
  have c0 := blk_cell h.blk
  have pw := blk_lt h.blk
  clear h E
  obtain ⟨is, ⟨h0, h1, h2, h3, h4, h5, h6, h7, h8, h9⟩, img, ram, m, live, held, last⟩ := s
  simp only at hb
  subst hb
  go_enter Tryz.func13, Tryz.ntmps13
  go_wp2_with fail
  refine (N.out _ (Kept.refl w)).mono ?_
  rintro e u1 ⟨rfl, rfl⟩
  go_wp2
  go_ret
  exact ⟨_, rfl, World.ownsRow_nil _ _ _ _, Kept.refl _⟩
set_option maxRecDepth 100000 in
set_option maxHeartbeats 4000000 in
theorem ksave_ram (s : Cs) (p i ci r cr : Nat) (w : World) (h : CartIn w s p i ci r cr) (hb : s.h.bat = true) (hc : s.h.clk = false) : Calls Tryz.prog 13 #[.pointer (some ⟨p, 0, none⟩)] w fun e w' => ∃ r, e = .returned r ∧ w'.ownsRow w.heap.size 5 1 r (saveS s).length ((saveS s).map (Value.int .u8)) ∧ Kept w w' := by
  have N := hid (fun u (k : Kept w u) => knob_in s p i ci r cr u (h.keep k))
  have E : saveS s = s.ram := by unfold saveS; rw [if_pos ⟨h.yes, hb⟩, if_neg (by rw [hc]; decide), List.append_nil]
  rw [E]
  have rl := h.ok.rlen
  have CC := hid (kcopy_any s.ram (some ⟨r, 0, none⟩) cr w (ownB_sl h.ram h.ok.ram) (by omega))
  have B0 := hid h.blk
  have c0 := blk_cell h.blk
  have pw := blk_lt h.blk
  clear h E
  obtain ⟨is, ⟨h0, h1, h2, h3, h4, h5, h6, h7, h8, h9⟩, img, ram, m, live, held, last⟩ := s
  simp only at hb hc CC B0
  subst hb hc
  go_enter Tryz.func13, Tryz.ntmps13
  go_wp2_with fail
  refine (N.out _ (Kept.refl w)).mono ?_
  rintro e u1 ⟨rfl, rfl⟩
  go_wp2_with fail
  refine CC.out.mono ?_
  rintro e u2 ⟨v2, rfl, o2, k2⟩
  have c2 := blk_cell (blk_kept k2 B0.out)
  have pw2 := blk_lt (blk_kept k2 B0.out)
  have O2 := hid o2
  have K2 := hid k2
  clear o2 k2 c0
  go_wp2
  go_ret
  exact ⟨_, rfl, O2.out, K2.out⟩
set_option maxRecDepth 100000 in
set_option maxHeartbeats 4000000 in
theorem ksave_clk (s : Cs) (p i ci r cr : Nat) (w : World) (h : CartIn w s p i ci r cr) (hb : s.h.bat = true) (hc : s.h.clk = true) : Calls Tryz.prog 13 #[.pointer (some ⟨p, 0, none⟩)] w fun e w' => ∃ r, e = .returned r ∧ w'.ownsRow w.heap.size 5 1 r (saveS s).length ((saveS s).map (Value.int .u8)) ∧ Kept w w' := by
  have N := hid (fun u (k : Kept w u) => knob_in s p i ci r cr u (h.keep k))
  have E : saveS s = s.ram ++ bytesL s.live s.held := by unfold saveS; rw [if_pos ⟨h.yes, hb⟩, if_pos hc]
  rw [E]
  have rl := h.ok.rlen
  have CC := hid (kcopy_any s.ram (some ⟨r, 0, none⟩) cr w (ownB_sl h.ram h.ok.ram) (by omega))
  have CB := hid (fun u => cbytes_any s.live s.held u h.ok.live h.ok.held)
  have BI := hid (bytes_in s.live s.held h.ok.live h.ok.held)
  have B0 := hid h.blk
  have c0 := blk_cell h.blk
  have pw := blk_lt h.blk
  clear h E
  obtain ⟨is, ⟨h0, h1, h2, h3, h4, h5, h6, h7, h8, h9⟩, img, ram, m, live, held, last⟩ := s
  simp only at hb hc CC B0 CB BI rl
  subst hb hc
  have BL := hid (show (bytesL live held).length = 10 from rfl)
  generalize bytesL live held = L at *
  go_enter Tryz.func13, Tryz.ntmps13
  go_wp2_with fail
  refine (N.out _ (Kept.refl w)).mono ?_
  rintro e u1 ⟨rfl, hu1⟩
  go_wp2_with fail
  refine CC.out.mono ?_
  rintro e u2 ⟨v2, rfl, o2, k2⟩
  have B2 := hid (blk_kept k2 B0.out)
  have c2 := blk_cell (blk_kept k2 B0.out)
  have pw2 := blk_lt (blk_kept k2 B0.out)
  have O2 := hid o2
  have K2 := hid k2
  clear o2 k2 c0 CC N hu1
  go_wp2_with fail
  refine wp_region_held_drew (S := (fun w' => w'.cell? ⟨p, 6, none⟩ = some (.int .u8 live.sec) ∧ w'.cell? ⟨p, 7, none⟩ = some (.int .u8 live.min) ∧ w'.cell? ⟨p, 8, none⟩ = some (.int .u8 live.hour) ∧ w'.cell? ⟨p, 9, none⟩ = some (.int .u16 live.day) ∧ w'.cell? ⟨p, 10, none⟩ = some (.bool live.halt) ∧ w'.cell? ⟨p, 11, none⟩ = some (.bool live.carry) ∧ w'.cell? ⟨p, 12, none⟩ = some (.int .u8 held.sec) ∧ w'.cell? ⟨p, 13, none⟩ = some (.int .u8 held.min) ∧ w'.cell? ⟨p, 14, none⟩ = some (.int .u8 held.hour) ∧ w'.cell? ⟨p, 15, none⟩ = some (.int .u16 held.day) ∧ w'.cell? ⟨p, 16, none⟩ = some (.bool held.halt) ∧ w'.cell? ⟨p, 17, none⟩ = some (.bool held.carry))) (by kernel_rfl) (by go_keep) (fun hHeld => ?_)
  refine wpAnyH_take (i := 0) (v := ?_) rfl (by kernel_rfl) (by kernel_rfl) (by kernel_rfl) (fun _ _ _ h => h) (Or.inl ⟨by rfl, ?_⟩) (by assumption) ?_
  rotate_left
  · intro w hSw
    (try dsimp only at hSw)
    go_simp
    try with_reducible rfl
  simp only [Act.put, List.getElem_toArray, List.getElem_cons_succ, List.getElem_cons_zero, List.setIfInBounds_toArray, List.set_cons_zero, List.set_cons_succ]
  refine wpAnyH_take (i := 1) (v := ?_) rfl (by kernel_rfl) (by kernel_rfl) (by kernel_rfl) (fun _ _ _ h => h) (Or.inl ⟨by rfl, ?_⟩) (by assumption) ?_
  rotate_left
  · intro w hSw
    (try dsimp only at hSw)
    go_simp
    try with_reducible rfl
  simp only [Act.put, List.getElem_toArray, List.getElem_cons_succ, List.getElem_cons_zero, List.setIfInBounds_toArray, List.set_cons_zero, List.set_cons_succ]
  refine wpAnyH_take (i := 2) (v := ?_) rfl (by kernel_rfl) (by kernel_rfl) (by kernel_rfl) (fun _ _ _ h => h) (Or.inl ⟨by rfl, ?_⟩) (by assumption) ?_
  rotate_left
  · intro w hSw
    (try dsimp only at hSw)
    go_simp
    try with_reducible rfl
  simp only [Act.put, List.getElem_toArray, List.getElem_cons_succ, List.getElem_cons_zero, List.setIfInBounds_toArray, List.set_cons_zero, List.set_cons_succ]
  refine wpAnyH_take (i := 3) (v := ?_) rfl (by kernel_rfl) (by kernel_rfl) (by kernel_rfl) (fun _ _ _ h => h) (Or.inl ⟨by rfl, ?_⟩) (by assumption) ?_
  rotate_left
  · intro w hSw
    (try dsimp only at hSw)
    go_simp
    try with_reducible rfl
  simp only [Act.put, List.getElem_toArray, List.getElem_cons_succ, List.getElem_cons_zero, List.setIfInBounds_toArray, List.set_cons_zero, List.set_cons_succ]
  refine wpAnyH_take (i := 4) (v := ?_) rfl (by kernel_rfl) (by kernel_rfl) (by kernel_rfl) (fun _ _ _ h => h) (Or.inl ⟨by rfl, ?_⟩) (by assumption) ?_
  rotate_left
  · intro w hSw
    (try dsimp only at hSw)
    go_simp
    try with_reducible rfl
  simp only [Act.put, List.getElem_toArray, List.getElem_cons_succ, List.getElem_cons_zero, List.setIfInBounds_toArray, List.set_cons_zero, List.set_cons_succ]
  refine wpAnyH_take (i := 5) (v := ?_) rfl (by kernel_rfl) (by kernel_rfl) (by kernel_rfl) (fun _ _ _ h => h) (Or.inl ⟨by rfl, ?_⟩) (by assumption) ?_
  rotate_left
  · intro w hSw
    (try dsimp only at hSw)
    go_simp
    try with_reducible rfl
  simp only [Act.put, List.getElem_toArray, List.getElem_cons_succ, List.getElem_cons_zero, List.setIfInBounds_toArray, List.set_cons_zero, List.set_cons_succ]
  refine wpAnyH_take (i := 6) (v := ?_) rfl (by kernel_rfl) (by kernel_rfl) (by kernel_rfl) (fun _ _ _ h => h) (Or.inl ⟨by rfl, ?_⟩) (by assumption) ?_
  rotate_left
  · intro w hSw
    (try dsimp only at hSw)
    go_simp
    try with_reducible rfl
  simp only [Act.put, List.getElem_toArray, List.getElem_cons_succ, List.getElem_cons_zero, List.setIfInBounds_toArray, List.set_cons_zero, List.set_cons_succ]
  refine wpAnyH_take (i := 7) (v := ?_) rfl (by kernel_rfl) (by kernel_rfl) (by kernel_rfl) (fun _ _ _ h => h) (Or.inl ⟨by rfl, ?_⟩) (by assumption) ?_
  rotate_left
  · intro w hSw
    (try dsimp only at hSw)
    go_simp
    try with_reducible rfl
  simp only [Act.put, List.getElem_toArray, List.getElem_cons_succ, List.getElem_cons_zero, List.setIfInBounds_toArray, List.set_cons_zero, List.set_cons_succ]
  refine wpAnyH_take (i := 8) (v := ?_) rfl (by kernel_rfl) (by kernel_rfl) (by kernel_rfl) (fun _ _ _ h => h) (Or.inl ⟨by rfl, ?_⟩) (by assumption) ?_
  rotate_left
  · intro w hSw
    (try dsimp only at hSw)
    go_simp
    try with_reducible rfl
  simp only [Act.put, List.getElem_toArray, List.getElem_cons_succ, List.getElem_cons_zero, List.setIfInBounds_toArray, List.set_cons_zero, List.set_cons_succ]
  refine wpAnyH_take (i := 9) (v := ?_) rfl (by kernel_rfl) (by kernel_rfl) (by kernel_rfl) (fun _ _ _ h => h) (Or.inl ⟨by rfl, ?_⟩) (by assumption) ?_
  rotate_left
  · intro w hSw
    (try dsimp only at hSw)
    go_simp
    try with_reducible rfl
  simp only [Act.put, List.getElem_toArray, List.getElem_cons_succ, List.getElem_cons_zero, List.setIfInBounds_toArray, List.set_cons_zero, List.set_cons_succ]
  refine wpAnyH_take (i := 10) (v := ?_) rfl (by kernel_rfl) (by kernel_rfl) (by kernel_rfl) (fun _ _ _ h => h) (Or.inl ⟨by rfl, ?_⟩) (by assumption) ?_
  rotate_left
  · intro w hSw
    (try dsimp only at hSw)
    go_simp
    try with_reducible rfl
  simp only [Act.put, List.getElem_toArray, List.getElem_cons_succ, List.getElem_cons_zero, List.setIfInBounds_toArray, List.set_cons_zero, List.set_cons_succ]
  refine wpAnyH_ready (rs := [11]) (by kernel_rfl) (by simp) ?_
  refine AllReadyH.cons rfl (fun K hK => ?_) AllReadyH.nil
  go_simp
  refine (CB.out _).mono ?_
  rintro e u3 ⟨v3, rfl, o3, k3⟩
  have KD := (Kept.refl u2).drew.trans k3
  have c3 := blk_cell (blk_kept KD B2.out)
  obtain ⟨g3, cap3, rfl, hg3⟩ := own_slice o3 (by rw [BL.out]; decide)
  have S3 := ownB_sl (show OwnB u3 _ g3 cap3 L from o3) BI.out
  have O3 := owns_kept KD O2.out
  have K3 := hid (K2.out.trans KD)
  refine hK.out _ _ (by simp [c3]) (fun hHeld => ?_)
  clear hK K
  try simp only [Act.put, List.getElem_toArray, List.getElem_cons_succ, List.getElem_cons_zero, List.setIfInBounds_toArray, List.set_cons_zero, List.set_cons_succ]
  refine wpAnyH_ready (rs := [12]) (by kernel_rfl) (by simp) ?_
  refine AllReadyH.cons rfl (fun K hK => ?_) AllReadyH.nil
  rw [if_pos (by rfl)]
  refine wp_app10 O3 S3 rfl rfl rfl rfl K3.out.size (by have := BL.out; omega) (fun v4 u4 o4 g4 => ?_)
  have K4 := hid (K3.out.by g4 (fun j h => (O3.lt j h).1))
  have c4 := blk_cell (blk_by g4 (blk_kept KD B2.out) (fun e => by have := (O3.lt p e).1; omega))
  refine hK.out _ _ (by simp [c4]) (fun hHeld => ?_)
  clear hK K g4
  try simp only [Act.put, List.getElem_toArray, List.getElem_cons_succ, List.getElem_cons_zero, List.setIfInBounds_toArray, List.set_cons_zero, List.set_cons_succ]
  refine wpAnyH_take (i := 13) (v := ?_) rfl (by kernel_rfl) (by kernel_rfl) (by kernel_rfl) (fun _ _ _ h => h) (Or.inl ⟨by rfl, ?_⟩) (by assumption) ?_
  rotate_left
  · intro w hSw
    (try dsimp only at hSw)
    go_simp
    try with_reducible rfl
  simp only [Act.put, List.getElem_toArray, List.getElem_cons_succ, List.getElem_cons_zero, List.setIfInBounds_toArray, List.set_cons_zero, List.set_cons_succ]
  refine wpAnyH_done (by kernel_rfl) ?_ _
  go_wp2
  go_ret
  exact ⟨_, rfl, o4, K4.out⟩
theorem ksave_any (s : Cs) (v : Value) (F : Nat → Prop) (w : World) (h : CartAt w s v F) : Calls Tryz.prog 13 #[v] w fun e w' => ∃ r, e = .returned r ∧ w'.ownsRow w.heap.size 5 1 r (saveS s).length ((saveS s).map (Value.int .u8)) ∧ Kept w w' := by
  rcases cart_cases h with ⟨rfl, hn⟩ | ⟨p, i, ci, r, cr, rfl, h, _⟩
  · exact ksave_no v w hn
  · cases hb : s.h.bat
    · exact ksave_bat s p i ci r cr w h hb
    · cases hc : s.h.clk
      · exact ksave_ram s p i ci r cr w h hb hc
      · exact ksave_clk s p i ci r cr w h hb hc
end Go.Proofs.YtfmddnekooojkaaGreatDoor
