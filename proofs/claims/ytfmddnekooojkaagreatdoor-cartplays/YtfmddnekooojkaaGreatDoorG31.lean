/- The program's cart: the smaller calls. The program's cart: copies, sizes, places. The program's cart: Head, State, Ram. What the document's answers of layer 10 come to: reg, Tick. What the document's answers of layer 10 come to: Read. What the document's answers of layer 10 come to: Write. -/
import Derived.Test.YtfmddnekooojkaaGreatDoorG30
import Derived.Handy
import Derived.Deep.RegionHeld3
import Derived.Test.YtfmddnekooojkaaGreatDoorG20
import Derived.Test.YtfmddnekooojkaaGreatDoorG26
import Derived.Test.YtfmddnekooojkaaGreatDoorG10
import Derived.Test.YtfmddnekooojkaaGreatDoorG08
import Derived.Test.YtfmddnekooojkaaGreatDoorG05
import Derived.Test.YtfmddnekooojkaaGreatDoorG17
namespace Go.Proofs.YtfmddnekooojkaaGreatDoor
open Go.RowKit
set_option linter.unusedVariables false
set_option linter.unusedSimpArgs false

set_option maxRecDepth 100000 in
theorem knob_in (s : Cs) (p i ci r cr : Nat) (w : World) (h : CartIn w s p i ci r cr) : Calls Tryz.prog 24 #[.pointer (some ⟨p, 0, none⟩)] w fun e w' => e = .returned (.bool false) ∧ w' = w := by
  have n0 := h.ok.some h.yes
  have c0 := blk_cell h.blk
  have pw := blk_lt h.blk
  clear h
  obtain ⟨is, ⟨h0, h1, h2, h3, h4, h5, h6, h7, h8, h9⟩, img, ram, m, live, held, last⟩ := s
  simp only at n0
  have n1 : ((img.length : Int) == 0) = false := by rw [beq_eq_false_iff_ne]; omega
  go_enter Tryz.func24, Tryz.ntmps24
  go_wp2
  go_ret
  exact ⟨rfl, rfl⟩
theorem knob_zero (p : Nat) (w : World) (h : Blk w p 64 (cartL cs0 none 0 none 0)) : Calls Tryz.prog 24 #[.pointer (some ⟨p, 0, none⟩)] w fun e w' => e = .returned (.bool true) ∧ w' = w := by
  have c0 : w.cell? ⟨p, 29, none⟩ = some (.slice none 0 0) := blk_cell h 29
  have pw := blk_lt h
  clear h
  go_enter Tryz.func24, Tryz.ntmps24
  go_wp2
  go_ret
  exact ⟨rfl, rfl⟩
theorem knob_nil (w : World) : Calls Tryz.prog 24 #[.pointer none] w fun e w' => e = .returned (.bool true) ∧ w' = w := by
  go_enter Tryz.func24, Tryz.ntmps24
  go_wp2
  go_ret
  exact ⟨rfl, rfl⟩
end Go.Proofs.YtfmddnekooojkaaGreatDoor
namespace Go.Proofs.YtfmddnekooojkaaGreatDoor
open Go.RowKit
set_option linter.unusedVariables false
set_option linter.unusedSimpArgs false

set_option maxRecDepth 100000 in
set_option maxHeartbeats 4000000 in
theorem kcopy_any (z : List Int) (ax : Option Addr) (cap : Nat) (w : World) (sl : Sl w ax cap z) (hz : z.length ≤ 140737488355328) : Calls Tryz.prog 21 #[.slice ax z.length cap] w fun e w' => ∃ v, e = .returned v ∧ w'.ownsRow w.heap.size 5 1 v z.length (z.map (Value.int .u8)) ∧ Kept w w' := by
  have O := hid (World.ownsRow_nil w w.heap.size 5 1)
  have SL := hid sl
  have zl : ([] : List Int).length + z.length ≤ 140737488355328 := by simpa using hz
  clear sl
  go_enter Tryz.func21, Tryz.ntmps21
  go_wp2_with (at_builtin; refine wl_append (L := []) O.out SL.out rfl rfl rfl rfl rfl (Nat.le_refl _) zl (fun v' u2 o2 g2 => ?_); rw [List.nil_append] at o2; have K2 := hid ((Kept.refl w).by g2 (fun j h => (O.out.lt j h).1)); have O2 := hid o2; clear g2 o2)
  go_ret
  exact ⟨_, rfl, O2.out, K2.out⟩
set_option maxRecDepth 100000 in
set_option maxHeartbeats 4000000 in
theorem ksize_in (s : Cs) (p i ci r cr : Nat) (w : World) (h : CartIn w s p i ci r cr) : Calls Tryz.prog 41 #[.pointer (some ⟨p, 0, none⟩)] w fun e w' => e = .returned (.int .i64 ((s.ram.length : Int) + (if s.h.clk = true then 10 else 0))) ∧ w' = w := by
  have rl := h.ok.rlen
  have c0 := blk_cell h.blk
  have pw := blk_lt h.blk
  clear h
  obtain ⟨is, ⟨h0, h1, h2, h3, h4, h5, h6, h7, h8, h9⟩, img, ram, m, live, held, last⟩ := s
  simp only at rl
  cases h5
  · skip
    go_enter Tryz.func41, Tryz.ntmps41
    go_wp2
    go_ret
    exact ⟨rfl, rfl⟩
  · have e1 : wrap64 ((ram.length : Int) + 10) = (ram.length : Int) + 10 := by unfold wrap64; omega
    go_enter Tryz.func41, Tryz.ntmps41
    go_wp2
    go_ret
    exact ⟨rfl, rfl⟩
set_option maxRecDepth 100000 in
set_option maxHeartbeats 4000000 in
theorem kreg_in (s : Cs) (p i ci r cr : Nat) (a : Int) (w : World) (h : CartIn w s p i ci r cr) (a0 : 0 ≤ a) (a1 : a ≤ 65535) : Calls Tryz.prog 26 #[.pointer (some ⟨p, 0, none⟩), .int .u16 a] w fun e w' => e = .returned (.int .i64 (regS s a)) ∧ Kept w w' := by
  have CC := hid (fun u => mreg_any s.m a u a0 a1 h.ok.m)
  have c0 := blk_cell h.blk
  have pw := blk_lt h.blk
  clear h
  obtain ⟨is, ⟨h0, h1, h2, h3, h4, h5, h6, h7, h8, h9⟩, img, ram, m, live, held, last⟩ := s
  simp only at CC
  cases h5
  · have E := hid (show regS ⟨is, ⟨h0, h1, h2, h3, h4, false, h6, h7, h8, h9⟩, img, ram, m, live, held, last⟩ a = 0 from rfl)
    go_enter Tryz.func26, Tryz.ntmps26
    go_wp2
    go_ret
    exact ⟨by rw [E.out]; rfl, Kept.refl _⟩
  · have E := hid (show regS ⟨is, ⟨h0, h1, h2, h3, h4, true, h6, h7, h8, h9⟩, img, ram, m, live, held, last⟩ a = regM m a from rfl)
    go_enter Tryz.func26, Tryz.ntmps26
    go_wp2_with fail
    refine (CC.out _).mono ?_
    rintro e u1 ⟨rfl, k1⟩
    go_wp2
    go_ret
    exact ⟨by rw [E.out]; rfl, k1⟩
set_option maxRecDepth 100000 in
set_option maxHeartbeats 4000000 in
theorem kplace_in (s : Cs) (p i ci r cr : Nat) (a : Int) (w : World) (h : CartIn w s p i ci r cr) (a0 : 0 ≤ a) (a1 : a ≤ 65535) : Calls Tryz.prog 28 #[.pointer (some ⟨p, 0, none⟩), .int .u16 a] w fun e w' => e = .returned (.int .i64 (ramS s a)) ∧ Kept w w' := by
  have rl := h.ok.rlen
  have CC := hid (fun u => mram_any s.m a (s.ram.length : Int) u a0 a1 (by omega) (by omega) h.ok.m)
  have E : ramS s a = ramM s.m a (s.ram.length : Int) := rfl
  rw [E]
  have B0 := hid h.blk
  have c0 := blk_cell h.blk
  have pw := blk_lt h.blk
  clear h E
  obtain ⟨is, ⟨h0, h1, h2, h3, h4, h5, h6, h7, h8, h9⟩, img, ram, m, live, held, last⟩ := s
  simp only at CC rl
  generalize ramM m a (ram.length : Int) = R at *
  go_enter Tryz.func28, Tryz.ntmps28
  go_wp2_with fail
  go_region_held3 (fun w' => w'.cell? ⟨p, 0, none⟩ = some (.int .i64 m.kind) ∧ w'.cell? ⟨p, 1, none⟩ = some (.bool m.op) ∧ w'.cell? ⟨p, 2, none⟩ = some (.int .u8 m.low) ∧ w'.cell? ⟨p, 3, none⟩ = some (.int .u8 m.high) ∧ w'.cell? ⟨p, 4, none⟩ = some (.int .u8 m.ram) ∧ w'.cell? ⟨p, 5, none⟩ = some (.bool m.mode) ∧ w'.cell? ⟨p, 30, none⟩ = some (.slice (some ⟨r, 0, none⟩) ram.length cr)) (go_keep) (first | (go_at_call 57; refine (CC.out _).mono ?_; rintro e v1 ⟨rfl, q1⟩; have c1 := blk_cell (blk_kept q1 (blk_drew B0.out)); have K1 := hid (((Kept.refl w).drew).trans q1); clear q1))
  all_goals
    go_wp2
    go_ret
    exact ⟨rfl, K1.out⟩
end Go.Proofs.YtfmddnekooojkaaGreatDoor
namespace Go.Proofs.YtfmddnekooojkaaGreatDoor
open Go.RowKit
set_option linter.unusedVariables false
set_option linter.unusedSimpArgs false

abbrev hdVc (H : Hd) : Value := .agg #[.string H.title, .int .u8 H.kind, .int .i64 H.map, .bool H.ram, .bool H.bat, .bool H.clk, .int .i64 H.banks, .int .i64 H.size, .int .u8 H.sum, .int .u16 H.whole]
/-- Nobody's. -/
def NoCart (w : World) (v : Value) : Prop := v = .pointer none ∨ ∃ p, v = .pointer (some ⟨p, 0, none⟩) ∧ Blk w p 64 (cartL cs0 none 0 none 0)
theorem NoCart.kept {w u : World} {v : Value} (h : NoCart w v) (k : Kept w u) : NoCart u v := by
  rcases h with h | ⟨p, e, b⟩
  · exact .inl h
  · exact .inr ⟨p, e, blk_kept k b⟩
theorem knob_no (v : Value) (w : World) (h : NoCart w v) : Calls Tryz.prog 24 #[v] w fun e w' => e = .returned (.bool true) ∧ w' = w := by
  rcases h with rfl | ⟨p, rfl, b⟩
  · exact knob_nil w
  · exact knob_zero p w b
theorem cart_cases {w : World} {s : Cs} {v : Value} {F : Nat → Prop} (h : CartAt w s v F) : (s = cs0 ∧ NoCart w v) ∨ (∃ p i ci r cr, v = .pointer (some ⟨p, 0, none⟩) ∧ CartIn w s p i ci r cr ∧ ∀ k, F k ↔ (k = p ∨ k = i ∨ k = r)) := by
  rcases h with ⟨e, e2, _⟩ | ⟨e, p, e2, b, _⟩ | h
  · exact .inl ⟨e, .inl e2⟩
  · exact .inl ⟨e, .inr ⟨p, e2, b⟩⟩
  · exact .inr h
set_option maxRecDepth 100000 in
set_option maxHeartbeats 4000000 in
theorem kstate_no (v : Value) (w : World) (h : NoCart w v) : Calls Tryz.prog 44 #[v] w fun e w' => e = .returned (.tuple #[mpV cs0.m, ckV cs0.live, ckV cs0.held]) ∧ Kept w w' := by
  have N := hid (fun u (k : Kept w u) => knob_no v u (h.kept k))
  clear h
  go_enter Tryz.func44, Tryz.ntmps44
  go_wp2_with fail
  refine (N.out _ ((((Kept.refl w).alloc _).alloc _).alloc _)).mono ?_
  rintro e u1 ⟨rfl, rfl⟩
  go_wp2
  exact bodyPost_ret (v := .tuple #[mpV mp0, ckV ck0, ckV ck0]) (by simp [results, Tryz.results44, go_sem, mp0, ck0]; try rfl) rfl ⟨rfl, by repeat (first | with_reducible exact Kept.refl _ | with_reducible refine Kept.alloc ?_ _ | with_reducible refine Kept.drew ?_ | with_reducible refine Kept.drewN ?_ | (with_reducible refine Kept.setCell8 ?_ ?_ _ _; rotate_left; (first | exact Nat.le_refl _ | omega | (simp; done) | (simp; omega))))⟩
set_option maxRecDepth 100000 in
set_option maxHeartbeats 4000000 in
theorem kstate_in (s : Cs) (p i ci r cr : Nat) (w : World) (h : CartIn w s p i ci r cr) : Calls Tryz.prog 44 #[.pointer (some ⟨p, 0, none⟩)] w fun e w' => e = .returned (.tuple #[mpV s.m, ckV s.live, ckV s.held]) ∧ Kept w w' := by
  have N := hid (fun u (k : Kept w u) => knob_in s p i ci r cr u (h.keep k))
  have B0 := hid h.blk
  have pw := blk_lt h.blk
  have pn : p ≠ w.heap.size := by omega
  have pn1 : p ≠ w.heap.size + 1 := by omega
  have pn2 : p ≠ w.heap.size + 1 + 1 := by omega
  have np : w.heap.size ≠ p := by omega
  have np1 : w.heap.size + 1 ≠ p := by omega
  have np2 : w.heap.size + 1 + 1 ≠ p := by omega
  clear h
  obtain ⟨is, ⟨h0, h1, h2, h3, h4, h5, h6, h7, h8, h9⟩, img, ram, m, live, held, last⟩ := s
  go_enter Tryz.func44, Tryz.ntmps44
  go_wp2_with fail
  refine (N.out _ ((((Kept.refl w).alloc _).alloc _).alloc _)).mono ?_
  rintro e u1 ⟨rfl, hu⟩
  have c1 := blk_cell (show Blk u1 p 64 (cartL ⟨is, ⟨h0, h1, h2, h3, h4, h5, h6, h7, h8, h9⟩, img, ram, m, live, held, last⟩ (some ⟨i, 0, none⟩) ci (some ⟨r, 0, none⟩) cr) by rw [hu]; exact blk_past (blk_past (blk_past B0.out _) _) _)
  have Z0 : Blk u1 w.heap.size 33 [.int .i64 0, .bool false, .int .u8 0, .int .u8 0, .int .u8 0, .bool false] := by rw [hu]; exact blk_past (blk_past (blk_new w _ _) _) _
  have Z1 : Blk u1 (w.heap.size + 1) 35 [.int .u8 0, .int .u8 0, .int .u8 0, .int .u16 0, .bool false, .bool false] := by rw [hu]; have q := blk_new (w.alloc (.cells ([.int .i64 0, .bool false, .int .u8 0, .int .u8 0, .int .u8 0, .bool false] : List Value).toArray 33)) [.int .u8 0, .int .u8 0, .int .u8 0, .int .u16 0, .bool false, .bool false] 35; rw [World.size_alloc] at q; exact blk_past q _
  have Z2 : Blk u1 (w.heap.size + 1 + 1) 35 [.int .u8 0, .int .u8 0, .int .u8 0, .int .u16 0, .bool false, .bool false] := by rw [hu]; have q := blk_new ((w.alloc (.cells ([.int .i64 0, .bool false, .int .u8 0, .int .u8 0, .int .u8 0, .bool false] : List Value).toArray 33)).alloc (.cells ([.int .u8 0, .int .u8 0, .int .u8 0, .int .u16 0, .bool false, .bool false] : List Value).toArray 35)) [.int .u8 0, .int .u8 0, .int .u8 0, .int .u16 0, .bool false, .bool false] 35; rw [World.size_alloc, World.size_alloc] at q; exact q
  have K1 : Kept w u1 := by rw [hu]; exact (((Kept.refl w).alloc _).alloc _).alloc _
  have s1 : u1.heap.size = w.heap.size + 1 + 1 + 1 := by rw [hu]; simp
  clear hu N B0
  have z0 := blk_cell Z0
  have z1 := blk_cell Z1
  have z2 := blk_cell Z2
  have f0 := blk_froz Z0
  have f1 := blk_froz Z1
  have f2 := blk_froz Z2
  go_wp2_with fail
  go_region_held3 (fun w' => w'.cell? ⟨p, 0, none⟩ = some (.int .i64 m.kind) ∧ w'.cell? ⟨p, 1, none⟩ = some (.bool m.op) ∧ w'.cell? ⟨p, 2, none⟩ = some (.int .u8 m.low) ∧ w'.cell? ⟨p, 3, none⟩ = some (.int .u8 m.high) ∧ w'.cell? ⟨p, 4, none⟩ = some (.int .u8 m.ram) ∧ w'.cell? ⟨p, 5, none⟩ = some (.bool m.mode) ∧ w'.cell? ⟨p, 6, none⟩ = some (.int .u8 live.sec) ∧ w'.cell? ⟨p, 7, none⟩ = some (.int .u8 live.min) ∧ w'.cell? ⟨p, 8, none⟩ = some (.int .u8 live.hour) ∧ w'.cell? ⟨p, 9, none⟩ = some (.int .u16 live.day) ∧ w'.cell? ⟨p, 10, none⟩ = some (.bool live.halt) ∧ w'.cell? ⟨p, 11, none⟩ = some (.bool live.carry) ∧ w'.cell? ⟨p, 12, none⟩ = some (.int .u8 held.sec) ∧ w'.cell? ⟨p, 13, none⟩ = some (.int .u8 held.min) ∧ w'.cell? ⟨p, 14, none⟩ = some (.int .u8 held.hour) ∧ w'.cell? ⟨p, 15, none⟩ = some (.int .u16 held.day) ∧ w'.cell? ⟨p, 16, none⟩ = some (.bool held.halt) ∧ w'.cell? ⟨p, 17, none⟩ = some (.bool held.carry)) (go_keep) (fail)
  all_goals
    go_wp2
    exact bodyPost_ret (v := .tuple #[mpV m, ckV live, ckV held]) (by simp [results, Tryz.results44, go_sem, z0, z1, z2]) rfl ⟨rfl, by repeat (first | with_reducible exact K1 | with_reducible refine Kept.alloc ?_ _ | with_reducible refine Kept.drew ?_ | with_reducible refine Kept.drewN ?_ | (with_reducible refine Kept.setCell8 ?_ ?_ _ _; rotate_left; (first | exact Nat.le_refl _ | omega | (simp; done) | (simp; omega))))⟩
theorem kstate_any (s : Cs) (v : Value) (F : Nat → Prop) (w : World) (h : CartAt w s v F) : Calls Tryz.prog 44 #[v] w fun e w' => e = .returned (.tuple #[mpV s.m, ckV s.live, ckV s.held]) ∧ Kept w w' := by
  rcases cart_cases h with ⟨rfl, hn⟩ | ⟨p, i, ci, r, cr, rfl, h, _⟩
  · exact kstate_no v w hn
  · exact kstate_in s p i ci r cr w h
set_option maxRecDepth 100000 in
set_option maxHeartbeats 4000000 in
theorem kram_no (v : Value) (w : World) (h : NoCart w v) : Calls Tryz.prog 45 #[v] w fun e w' => ∃ r, e = .returned r ∧ w'.ownsRow w.heap.size 5 1 r cs0.ram.length (cs0.ram.map (Value.int .u8)) ∧ Kept w w' := by
  have N := hid (fun u (k : Kept w u) => knob_no v u (h.kept k))
  clear h
  go_enter Tryz.func45, Tryz.ntmps45
  go_wp2_with fail
  refine (N.out _ (Kept.refl w)).mono ?_
  rintro e u1 ⟨rfl, rfl⟩
  go_wp2
  go_ret
  exact ⟨_, rfl, World.ownsRow_nil _ _ _ _, Kept.refl _⟩
set_option maxRecDepth 100000 in
set_option maxHeartbeats 4000000 in
theorem kram_in (s : Cs) (p i ci r cr : Nat) (w : World) (h : CartIn w s p i ci r cr) : Calls Tryz.prog 45 #[.pointer (some ⟨p, 0, none⟩)] w fun e w' => ∃ r, e = .returned r ∧ w'.ownsRow w.heap.size 5 1 r s.ram.length (s.ram.map (Value.int .u8)) ∧ Kept w w' := by
  have N := hid (fun u (k : Kept w u) => knob_in s p i ci r cr u (h.keep k))
  have rl := h.ok.rlen
  have CC := hid (kcopy_any s.ram (some ⟨r, 0, none⟩) cr w (ownB_sl h.ram h.ok.ram) (by omega))
  have c0 := blk_cell h.blk
  have pw := blk_lt h.blk
  clear h
  obtain ⟨is, ⟨h0, h1, h2, h3, h4, h5, h6, h7, h8, h9⟩, img, ram, m, live, held, last⟩ := s
  simp only at CC rl
  go_enter Tryz.func45, Tryz.ntmps45
  go_wp2_with fail
  refine (N.out _ (Kept.refl w)).mono ?_
  rintro e u1 ⟨rfl, rfl⟩
  go_wp2_with fail
  refine CC.out.mono ?_
  rintro e u2 ⟨v2, rfl, o2, k2⟩
  have O2 := hid o2
  have K2 := hid k2
  clear o2 k2
  go_wp2
  go_ret
  exact ⟨_, rfl, O2.out, K2.out⟩
theorem kram_any (s : Cs) (v : Value) (F : Nat → Prop) (w : World) (h : CartAt w s v F) : Calls Tryz.prog 45 #[v] w fun e w' => ∃ r, e = .returned r ∧ w'.ownsRow w.heap.size 5 1 r s.ram.length (s.ram.map (Value.int .u8)) ∧ Kept w w' := by
  rcases cart_cases h with ⟨rfl, hn⟩ | ⟨p, i, ci, r, cr, rfl, h, _⟩
  · exact kram_no v w hn
  · exact kram_in s p i ci r cr w h
end Go.Proofs.YtfmddnekooojkaaGreatDoor
namespace Go.Proofs.YtfmddnekooojkaaGreatDoor
open Go.RowKit
set_option linter.unusedVariables false
set_option linter.unusedSimpArgs false

abbrev rcL (s : Cs) (xi : Option Addr) (ci : Nat) (xr : Option Addr) (cr : Nat) : List Value := [.bool s.is, .string s.h.title, .int .u8 s.h.kind, .int .i64 s.h.map, .bool s.h.ram, .bool s.h.bat, .bool s.h.clk, .int .i64 s.h.banks, .int .i64 s.h.size, .int .u8 s.h.sum, .int .u16 s.h.whole,
  .slice xi s.img.length ci, .slice xr s.ram.length cr, .int .i64 s.m.kind, .bool s.m.op, .int .u8 s.m.low, .int .u8 s.m.high, .int .u8 s.m.ram, .bool s.m.mode,
  .int .u8 s.live.sec, .int .u8 s.live.min, .int .u8 s.live.hour, .int .u16 s.live.day, .bool s.live.halt, .bool s.live.carry, .int .u8 s.held.sec, .int .u8 s.held.min, .int .u8 s.held.hour, .int .u16 s.held.day, .bool s.held.halt, .bool s.held.carry, .int .u8 s.last]
abbrev rcV (s : Cs) (xi : Option Addr) (ci : Nat) (xr : Option Addr) (cr : Nat) : Value := .agg (rcL s xi ci xr cr).toArray
abbrev rc0 : List Value := [.bool false, .string ⟨#[]⟩, .int .u8 0, .int .i64 0, .bool false, .bool false, .bool false, .int .i64 0, .int .i64 0, .int .u8 0, .int .u16 0, .slice none 0 0, .slice none 0 0, .int .i64 0, .bool false, .int .u8 0, .int .u8 0, .int .u8 0, .bool false,
  .int .u8 0, .int .u8 0, .int .u8 0, .int .u16 0, .bool false, .bool false, .int .u8 0, .int .u8 0, .int .u8 0, .int .u16 0, .bool false, .bool false, .int .u8 0]
set_option maxRecDepth 100000 in
theorem rcreg_any (s : Cs) (xi : Option Addr) (ci : Nat) (xr : Option Addr) (cr : Nat) (a : Int) (w : World) (a0 : 0 ≤ a) (a1 : a ≤ 65535) (M : MpIn s.m) :
    Calls Tryz.prog 30 #[rcV s xi ci xr cr, .int .u16 a] w fun e w' => e = .returned (.int .i64 (regS s a)) ∧ Kept w w' := by
  have C := hid (fun u => rreg_any s.m a u M)
  obtain ⟨is, ⟨h0, h1, h2, h3, h4, h5, h6, h7, h8, h9⟩, img, ram, m, live, held, last⟩ := s
  cases h5
  · have E := hid (show regS ⟨is, ⟨h0, h1, h2, h3, h4, false, h6, h7, h8, h9⟩, img, ram, m, live, held, last⟩ a = 0 from rfl)
    go_enter Tryz.func30, Tryz.ntmps30
    go_wp2
    go_ret
    exact ⟨by rw [E.out]; rfl, by repeat (first | with_reducible exact Kept.refl _ | with_reducible refine Kept.alloc ?_ _ | with_reducible refine Kept.drew ?_ | with_reducible refine Kept.drewN ?_)⟩
  · have E := hid (show regS ⟨is, ⟨h0, h1, h2, h3, h4, true, h6, h7, h8, h9⟩, img, ram, m, live, held, last⟩ a = regM m a from rfl)
    go_enter Tryz.func30, Tryz.ntmps30
    go_wp2_with fail
    refine (C.out _).mono ?_
    rintro e u1 ⟨rfl, k1⟩
    have K1 := hid (((Kept.refl w).alloc _).trans k1)
    clear k1
    go_wp2
    go_ret
    exact ⟨by rw [E.out]; rfl, K1.out⟩
set_option maxRecDepth 100000 in
set_option maxHeartbeats 4000000 in
theorem rctick_any (s : Cs) (xi : Option Addr) (ci : Nat) (xr : Option Addr) (cr : Nat) (w : World) (I : CkIn s.live) :
    Calls Tryz.prog 12 #[rcV s xi ci xr cr] w fun e w' => e = .returned (rcV (tickS s) xi ci xr cr) ∧ Kept w w' := by
  have C := hid (fun u => rtick_any s.live u I)
  by_cases q : s.is = true ∧ s.h.clk = true
  · have E : tickS s = { s with live := tickC s.live } := by unfold tickS; rw [if_pos q]
    rw [E]
    obtain ⟨is, ⟨h0, h1, h2, h3, h4, h5, h6, h7, h8, h9⟩, img, ram, m, live, held, last⟩ := s
    obtain ⟨q1, q2⟩ := q
    simp only at q1 q2
    subst q1 q2
    simp only at C
    generalize tickC live = T at *
    clear E I
    go_enter Tryz.func12, Tryz.ntmps12
    go_wp2_with fail
    refine (C.out _).mono ?_
    rintro e u1 ⟨rfl, g1⟩
    have B0 : Blk u1 w.heap.size 37 (rcL ⟨true, ⟨h0, h1, h2, h3, h4, true, h6, h7, h8, h9⟩, img, ram, m, live, held, last⟩ xi ci xr cr) := blk_kept (Kept.of g1) (blk_past (blk_new w _ _) _)
    have B1 : Blk u1 (w.heap.size + 1) 37 rc0 := by have h := blk_kept (Kept.of g1) (blk_new (w.alloc _) rc0 37); rw [World.size_alloc] at h; exact h
    have K1 := hid ((((Kept.refl w).alloc _).alloc _).trans (Kept.of g1))
    clear g1
    go_wp2_with (first
      | ((with_reducible refine at_st _ ?_); refine wl_store rfl rfl rfl rfl B0 (by kernel_rfl) rfl (Nat.le_of_ble_eq_true rfl) (fun u2 p2 => ?_); have D0 : Blk u2 w.heap.size 37 (rcL ⟨true, ⟨h0, h1, h2, h3, h4, true, h6, h7, h8, h9⟩, img, ram, m, T, held, last⟩ xi ci xr cr) := p2.blk; have D1 := p2.other _ _ _ (Nat.succ_ne_self _) B1; have K2 := hid (p2.kept _ K1.out (Nat.le_refl _)); clear p2 B0 B1)
      | ((with_reducible refine at_ld 37 ?_); refine wl_load0 rfl rfl rfl D0 Tryz.underlying37 rfl (by kernel_rfl) ?_)
      | ((with_reducible refine at_st _ ?_); refine wl_store rfl rfl rfl rfl D1 (by kernel_rfl) rfl (Nat.le_of_ble_eq_true rfl) (fun u3 p3 => ?_); have K3 := hid (p3.kept _ K2.out (Nat.le_succ _)); have E1 : Blk u3 (w.heap.size + 1) 37 (rcL ⟨true, ⟨h0, h1, h2, h3, h4, true, h6, h7, h8, h9⟩, img, ram, m, T, held, last⟩ xi ci xr cr) := p3.blk; clear p3))
    exact bodyPost_ret (res_cell Tryz.results12 rfl E1 Tryz.underlying37 rfl (by kernel_rfl)) rfl ⟨rfl, K3.out⟩
  · have E : tickS s = s := by unfold tickS; rw [if_neg q]
    rw [E]
    have B0 : Blk ((w.alloc (.cells (rcL s xi ci xr cr).toArray 37)).alloc (.cells rc0.toArray 37)) w.heap.size 37 (rcL s xi ci xr cr) := blk_past (blk_new w _ _) _
    have B1 : Blk ((w.alloc (.cells (rcL s xi ci xr cr).toArray 37)).alloc (.cells rc0.toArray 37)) (w.heap.size + 1) 37 rc0 := by have h := blk_new (w.alloc (.cells (rcL s xi ci xr cr).toArray 37)) rc0 37; rw [World.size_alloc] at h; exact h
    have K1 := hid (((Kept.refl w).alloc (.cells (rcL s xi ci xr cr).toArray 37)).alloc (.cells rc0.toArray 37))
    obtain ⟨is, ⟨h0, h1, h2, h3, h4, h5, h6, h7, h8, h9⟩, img, ram, m, live, held, last⟩ := s
    clear E I C
    cases is <;> cases h5
    all_goals try exact absurd ⟨rfl, rfl⟩ q
    all_goals
      go_enter Tryz.func12, Tryz.ntmps12
      go_wp2_with (first
        | ((with_reducible refine at_ld 37 ?_); refine wl_load0 rfl rfl rfl B0 Tryz.underlying37 rfl (by kernel_rfl) ?_)
        | ((with_reducible refine at_st _ ?_); refine wl_store rfl rfl rfl rfl B1 (by kernel_rfl) rfl (Nat.le_of_ble_eq_true rfl) (fun u3 p3 => ?_); have K3 := hid (p3.kept _ K1.out (Nat.le_succ _)); have E1 := p3.blk; clear p3))
      exact bodyPost_ret (res_cell Tryz.results12 rfl E1 Tryz.underlying37 rfl (by kernel_rfl)) rfl ⟨rfl, K3.out⟩
end Go.Proofs.YtfmddnekooojkaaGreatDoor
namespace Go.Proofs.YtfmddnekooojkaaGreatDoor
open Go.RowKit
set_option linter.unusedVariables false
set_option linter.unusedSimpArgs false

theorem row_cell {w : World} {a : Option Addr} {z : List Int} (r : Row w a z) (k : Nat) (hk : k < z.length) : ∃ x : Addr, a = some x ∧ x.block < w.heap.size ∧ w.cell? (x.add k) = some (.int .u8 (z.getD k 0)) := by
  obtain ⟨x, e, hx, hc⟩ := row_get r (by omega)
  exact ⟨x, e, hx, (hc k hk).1⟩
set_option maxRecDepth 100000 in
set_option maxHeartbeats 4000000 in
theorem rcread_no (s : Cs) (xi : Option Addr) (ci : Nat) (xr : Option Addr) (cr : Nat) (a : Int) (w : World) (a0 : 0 ≤ a) (a1 : a ≤ 65535) (O : CsOk s) (ri : Row w xi s.img) (li : s.img.length ≤ ci) (mi : ci ≤ maxLen) (rr : Row w xr s.ram) (lr : s.ram.length ≤ cr) (mr : cr ≤ maxLen) (hs : s.is = false) : Calls Tryz.prog 8 #[rcV s xi ci xr cr, .int .u16 a] w fun e w' => e = .returned (.int .u8 (readS s a)) ∧ Kept w w' := by
  have E : readS s a = 255 := by unfold readS; rw [if_pos hs]
  rw [E]
  obtain ⟨is, ⟨h0, h1, h2, h3, h4, h5, h6, h7, h8, h9⟩, img, ram, m, live, held, last⟩ := s
  simp only at hs
  subst hs
  clear E O ri rr li lr
  go_enter Tryz.func8, Tryz.ntmps8
  go_wp2
  go_ret
  exact ⟨rfl, by repeat (first | with_reducible exact Kept.refl _ | with_reducible refine Kept.alloc ?_ _ | with_reducible refine Kept.drew ?_ | with_reducible refine Kept.drewN ?_)⟩
set_option maxRecDepth 100000 in
set_option maxHeartbeats 4000000 in
theorem rcread_low (s : Cs) (xi : Option Addr) (ci : Nat) (xr : Option Addr) (cr : Nat) (a : Int) (w : World) (a0 : 0 ≤ a) (a1 : a ≤ 65535) (O : CsOk s) (ri : Row w xi s.img) (li : s.img.length ≤ ci) (mi : ci ≤ maxLen) (rr : Row w xr s.ram) (lr : s.ram.length ≤ cr) (mr : cr ≤ maxLen) (hs : s.is = true) (ha : a < 32768) : Calls Tryz.prog 8 #[rcV s xi ci xr cr, .int .u16 a] w fun e w' => e = .returned (.int .u8 (readS s a)) ∧ Kept w w' := by
  have E : readS s a = s.img.getD (romS s a).toNat 0 := by unfold readS; rw [if_neg (by rw [hs]; decide), if_pos ha]
  obtain ⟨r0, r1⟩ := rom_in s a O a0 ha hs
  obtain ⟨k, hk⟩ : ∃ k : Nat, romS s a = (k : Int) := ⟨(romS s a).toNat, by omega⟩
  have hk2 : k < s.img.length := by omega
  obtain ⟨x, rfl, hx, hc⟩ := row_cell ri k hk2
  rw [E, hk, Int.toNat_natCast]
  have il := O.ilen
  have C := hid (fun u => rrom_any s.m a (s.img.length : Int) u a0 a1 (by omega) (by omega) O.m)
  rw [show romM s.m a (s.img.length : Int) = (k : Int) from hk] at C
  obtain ⟨is, ⟨h0, h1, h2, h3, h4, h5, h6, h7, h8, h9⟩, img, ram, m, live, held, last⟩ := s
  simp only at hs C hk2 li il hc
  subst hs
  generalize img.getD k 0 = V at *
  have hk3 : (k : Int) < (img.length : Int) := by omega
  have hB := hid (blk_new w (rcL ⟨true, ⟨h0, h1, h2, h3, h4, h5, h6, h7, h8, h9⟩, img, ram, m, live, held, last⟩ (some x) ci xr cr) 37)
  have d1 : decide (a < 32768) = true := decide_eq_true ha
  have c0 := blk_cell hB.out
  have hx2 : x.block ≠ w.heap.size := by omega
  have hc0 : (w.alloc (.cells (rcL ⟨true, ⟨h0, h1, h2, h3, h4, h5, h6, h7, h8, h9⟩, img, ram, m, live, held, last⟩ (some x) ci xr cr).toArray 37)).cell? (x.add k) = some (.int .u8 V) := by rw [((Kept.refl w).alloc _).cell (by rw [addB]; exact hx)]; exact hc
  have hx1 : x.block < (w.alloc (.cells (rcL ⟨true, ⟨h0, h1, h2, h3, h4, h5, h6, h7, h8, h9⟩, img, ram, m, live, held, last⟩ (some x) ci xr cr).toArray 37)).heap.size := by rw [World.size_alloc]; omega
  clear E O ri rr hk r0 r1 hc
  go_enter Tryz.func8, Tryz.ntmps8
  go_wp2_with fail
  go_region_held3 (fun w' => w'.cell? ⟨w.heap.size, 11, none⟩ = some (.slice (some x) img.length ci) ∧ w'.cell? ⟨w.heap.size, 13, none⟩ = some (.int .i64 m.kind) ∧ w'.cell? ⟨w.heap.size, 14, none⟩ = some (.bool m.op) ∧ w'.cell? ⟨w.heap.size, 15, none⟩ = some (.int .u8 m.low) ∧ w'.cell? ⟨w.heap.size, 16, none⟩ = some (.int .u8 m.high) ∧ w'.cell? ⟨w.heap.size, 17, none⟩ = some (.int .u8 m.ram) ∧ w'.cell? ⟨w.heap.size, 18, none⟩ = some (.bool m.mode) ∧ w'.cell? (x.add k) = some (.int .u8 V)) (go_keep) (first | (go_at_call 29; refine (C.out _).mono ?_; rintro e v1 ⟨rfl, q1⟩; have c1 := blk_cell (blk_kept q1 (blk_drew hB.out)); have hc1 := (q1.cell (x := x.add k) (by rw [addB]; exact hx1)).trans hc0; have K1 := hid ((((Kept.refl w).alloc _).drew).trans q1)))
  all_goals
    go_wp2
    go_ret
    exact ⟨rfl, K1.out⟩
set_option maxRecDepth 100000 in
set_option maxHeartbeats 4000000 in
theorem rcread_reg (s : Cs) (xi : Option Addr) (ci : Nat) (xr : Option Addr) (cr : Nat) (a : Int) (w : World) (a0 : 0 ≤ a) (a1 : a ≤ 65535) (O : CsOk s) (ri : Row w xi s.img) (li : s.img.length ≤ ci) (mi : ci ≤ maxLen) (rr : Row w xr s.ram) (lr : s.ram.length ≤ cr) (mr : cr ≤ maxLen) (hs : s.is = true) (ha : ¬ a < 32768) (hr : regS s a ≠ 0) : Calls Tryz.prog 8 #[rcV s xi ci xr cr, .int .u16 a] w fun e w' => e = .returned (.int .u8 (readS s a)) ∧ Kept w w' := by
  have E : readS s a = readC s.held (regS s a) := by unfold readS; rw [if_neg (by rw [hs]; decide), if_neg ha, if_pos hr]
  rw [E]
  have C1 := hid (fun u => rcreg_any s xi ci xr cr a u a0 a1 O.m)
  have C2 := hid (fun u => rread_any s.held (regS s a) u O.held)
  generalize regS s a = R at *
  obtain ⟨is, ⟨h0, h1, h2, h3, h4, h5, h6, h7, h8, h9⟩, img, ram, m, live, held, last⟩ := s
  simp only at hs C2
  subst hs
  generalize readC held R = V at *
  generalize regE R = RE at *
  have hB := hid (blk_new w (rcL ⟨true, ⟨h0, h1, h2, h3, h4, h5, h6, h7, h8, h9⟩, img, ram, m, live, held, last⟩ xi ci xr cr) 37)
  have B0 := hB.out
  have d1 : decide (a < 32768) = false := decide_eq_false ha
  have d2 : (R != 0) = true := by simpa using hr
  clear E O ri rr
  go_enter Tryz.func8, Tryz.ntmps8
  go_wp2_with ((with_reducible refine at_ld 37 ?_); refine wl_load0 rfl rfl rfl B0 Tryz.underlying37 rfl (by kernel_rfl) ?_)
  refine (C1.out _).mono ?_
  rintro e u1 ⟨rfl, k1⟩
  have K1 := hid (((Kept.refl w).alloc _).trans k1)
  have B1 := hid (blk_kept k1 hB.out)
  have c1 := blk_cell B1.out
  clear k1 B0
  go_wp2_with fail
  refine (C2.out _).mono ?_
  rintro e u2 ⟨rfl, g2⟩
  have K2 := hid (K1.out.trans (Kept.of g2))
  clear g2
  go_wp2
  go_ret
  exact ⟨rfl, K2.out⟩
set_option maxRecDepth 100000 in
set_option maxHeartbeats 4000000 in
theorem rcread_ram (s : Cs) (xi : Option Addr) (ci : Nat) (xr : Option Addr) (cr : Nat) (a : Int) (w : World) (a0 : 0 ≤ a) (a1 : a ≤ 65535) (O : CsOk s) (ri : Row w xi s.img) (li : s.img.length ≤ ci) (mi : ci ≤ maxLen) (rr : Row w xr s.ram) (lr : s.ram.length ≤ cr) (mr : cr ≤ maxLen) (hs : s.is = true) (ha : ¬ a < 32768) (hr : regS s a = 0) : Calls Tryz.prog 8 #[rcV s xi ci xr cr, .int .u16 a] w fun e w' => e = .returned (.int .u8 (readS s a)) ∧ Kept w w' := by
  have E : readS s a = if ramS s a < 0 then 255 else s.ram.getD (ramS s a).toNat 0 := by unfold readS; rw [if_neg (by rw [hs]; decide), if_neg ha, if_neg (by rw [hr]; decide)]
  have rl := O.rlen
  have C1 := hid (fun u => rcreg_any s xi ci xr cr a u a0 a1 O.m)
  rw [hr] at C1
  have C2 := hid (fun u => rram_any s.m a (s.ram.length : Int) u a0 a1 (by omega) (by omega) O.m)
  have d1 : decide (a < 32768) = false := decide_eq_false ha
  have hB := hid (blk_new w (rcL s xi ci xr cr) 37)
  have B0 := hB.out
  rcases ram_in s a with q | ⟨q0, q1⟩
  · have E2 : readS s a = 255 := by rw [E, q, if_pos (by decide)]
    rw [E2]
    rw [show ramM s.m a (s.ram.length : Int) = -1 from q] at C2
    obtain ⟨is, ⟨h0, h1, h2, h3, h4, h5, h6, h7, h8, h9⟩, img, ram, m, live, held, last⟩ := s
    simp only at hs C2
    subst hs
    clear E E2 O ri rr q
    go_enter Tryz.func8, Tryz.ntmps8
    go_wp2_with ((with_reducible refine at_ld 37 ?_); refine wl_load0 rfl rfl rfl B0 Tryz.underlying37 rfl (by kernel_rfl) ?_)
    refine (C1.out _).mono ?_
    rintro e u1 ⟨rfl, k1⟩
    have K1 := hid (((Kept.refl w).alloc _).trans k1)
    have B1 := hid (blk_kept k1 hB.out)
    have c1 := blk_cell B1.out
    clear k1 B0
    go_wp2_with fail
    refine (C2.out _).mono ?_
    rintro e u2 ⟨rfl, k2⟩
    have K2 := hid (K1.out.trans k2)
    clear k2
    go_wp2
    go_ret
    exact ⟨rfl, K2.out⟩
  · obtain ⟨k, hk⟩ : ∃ k : Nat, ramS s a = (k : Int) := ⟨(ramS s a).toNat, by omega⟩
    have hk2 : k < s.ram.length := by omega
    obtain ⟨x, rfl, hx, hc⟩ := row_cell rr k hk2
    have E2 : readS s a = s.ram.getD k 0 := by rw [E, hk, if_neg (by omega), Int.toNat_natCast]
    rw [E2]
    rw [show ramM s.m a (s.ram.length : Int) = (k : Int) from hk] at C2
    obtain ⟨is, ⟨h0, h1, h2, h3, h4, h5, h6, h7, h8, h9⟩, img, ram, m, live, held, last⟩ := s
    simp only at hs C2 hk2 lr rl hc
    subst hs
    generalize ram.getD k 0 = V at *
    have hk3 : (k : Int) < (ram.length : Int) := by omega
    have d3 : decide ((k : Int) < 0) = false := decide_eq_false (by omega)
    clear E E2 O ri rr q0 q1 hk
    go_enter Tryz.func8, Tryz.ntmps8
    go_wp2_with ((with_reducible refine at_ld 37 ?_); refine wl_load0 rfl rfl rfl B0 Tryz.underlying37 rfl (by kernel_rfl) ?_)
    refine (C1.out _).mono ?_
    rintro e u1 ⟨rfl, k1⟩
    have K1 := hid (((Kept.refl w).alloc _).trans k1)
    have B1 := hid (blk_kept k1 hB.out)
    have c1 := blk_cell B1.out
    clear k1 B0
    go_wp2_with fail
    refine (C2.out _).mono ?_
    rintro e u2 ⟨rfl, k2⟩
    have K2 := hid (K1.out.trans k2)
    have c2 := blk_cell (blk_kept k2 B1.out)
    have hc2 := (K2.out.cell (x := x.add k) (by rw [addB]; exact hx)).trans hc
    clear k2 c1
    go_wp2
    go_ret
    exact ⟨rfl, K2.out⟩
theorem rcread_any (s : Cs) (xi : Option Addr) (ci : Nat) (xr : Option Addr) (cr : Nat) (a : Int) (w : World) (a0 : 0 ≤ a) (a1 : a ≤ 65535) (O : CsOk s) (ri : Row w xi s.img) (li : s.img.length ≤ ci) (mi : ci ≤ maxLen) (rr : Row w xr s.ram) (lr : s.ram.length ≤ cr) (mr : cr ≤ maxLen) : Calls Tryz.prog 8 #[rcV s xi ci xr cr, .int .u16 a] w fun e w' => e = .returned (.int .u8 (readS s a)) ∧ Kept w w' := by
  cases hs : s.is
  · exact rcread_no s xi ci xr cr a w a0 a1 O ri li mi rr lr mr hs
  by_cases ha : a < 32768
  · exact rcread_low s xi ci xr cr a w a0 a1 O ri li mi rr lr mr hs ha
  by_cases hr : regS s a = 0
  · exact rcread_ram s xi ci xr cr a w a0 a1 O ri li mi rr lr mr hs ha hr
  · exact rcread_reg s xi ci xr cr a w a0 a1 O ri li mi rr lr mr hs ha hr
end Go.Proofs.YtfmddnekooojkaaGreatDoor
namespace Go.Proofs.YtfmddnekooojkaaGreatDoor
open Go.RowKit
set_option linter.unusedVariables false
set_option linter.unusedSimpArgs false

set_option maxRecDepth 100000 in
set_option maxHeartbeats 4000000 in
theorem rcwrite_no (s : Cs) (xi : Option Addr) (ci : Nat) (xr : Option Addr) (cr : Nat) (a v : Int) (w : World) (a0 : 0 ≤ a) (a1 : a ≤ 65535) (v0 : 0 ≤ v) (v1 : v ≤ 255) (O : CsOk s) (sr : Sl w xr cr s.ram) (hs : s.is = false) : Calls Tryz.prog 10 #[rcV s xi ci xr cr, .int .u16 a, .int .u8 v] w fun e w' => ∃ xr' cr', e = .returned (rcV (writeS s a v) xi ci xr' cr') ∧ Sl w' xr' cr' (writeS s a v).ram ∧ (xr' = xr ∨ Newer w.heap.size xr') ∧ Kept w w' := by
  have E : writeS s a v = s := by unfold writeS; rw [if_pos hs]
  rw [E]
  obtain ⟨is, ⟨h0, h1, h2, h3, h4, h5, h6, h7, h8, h9⟩, img, ram, m, live, held, last⟩ := s
  simp only at hs
  subst hs
  have B1 : Blk ((w.alloc (.cells (rcL ⟨false, ⟨h0, h1, h2, h3, h4, h5, h6, h7, h8, h9⟩, img, ram, m, live, held, last⟩ xi ci xr cr).toArray 37)).alloc (.cells rc0.toArray 37)) w.heap.size 37 (rcL ⟨false, ⟨h0, h1, h2, h3, h4, h5, h6, h7, h8, h9⟩, img, ram, m, live, held, last⟩ xi ci xr cr) := blk_past (blk_new w _ _) _
  have R1 : Blk ((w.alloc (.cells (rcL ⟨false, ⟨h0, h1, h2, h3, h4, h5, h6, h7, h8, h9⟩, img, ram, m, live, held, last⟩ xi ci xr cr).toArray 37)).alloc (.cells rc0.toArray 37)) (w.heap.size + 1) 37 rc0 := by have h := blk_new (w.alloc (.cells (rcL ⟨false, ⟨h0, h1, h2, h3, h4, h5, h6, h7, h8, h9⟩, img, ram, m, live, held, last⟩ xi ci xr cr).toArray 37)) rc0 37; rw [World.size_alloc] at h; exact h
  have K1 := hid (((Kept.refl w).alloc (.cells (rcL ⟨false, ⟨h0, h1, h2, h3, h4, h5, h6, h7, h8, h9⟩, img, ram, m, live, held, last⟩ xi ci xr cr).toArray 37)).alloc (.cells rc0.toArray 37))
  have q1 := blk_cell B1
  clear E O
  go_enter Tryz.func10, Tryz.ntmps10
  go_wp2_with (first
    | ((with_reducible refine at_ld 37 ?_); refine wl_load0 rfl rfl rfl B1 Tryz.underlying37 rfl (by kernel_rfl) ?_)
    | ((with_reducible refine at_st _ ?_); refine wl_store rfl rfl rfl rfl R1 (by kernel_rfl) rfl (Nat.le_of_ble_eq_true rfl) (fun u2 p2 => ?_); have K2 := hid (p2.kept _ K1.out (Nat.le_succ _)); have E2 : Blk u2 (w.heap.size + 1) 37 (rcL ⟨false, ⟨h0, h1, h2, h3, h4, h5, h6, h7, h8, h9⟩, img, ram, m, live, held, last⟩ xi ci xr cr) := p2.blk; clear p2))
  exact bodyPost_ret (res_cell Tryz.results10 rfl E2 Tryz.underlying37 rfl (by kernel_rfl)) rfl ⟨_, _, rfl, sl_kept K2.out sr, .inl rfl, K2.out⟩
set_option maxRecDepth 100000 in
set_option maxHeartbeats 4000000 in
theorem rcwrite_low0 (s : Cs) (xi : Option Addr) (ci : Nat) (xr : Option Addr) (cr : Nat) (a v : Int) (w : World) (a0 : 0 ≤ a) (a1 : a ≤ 65535) (v0 : 0 ≤ v) (v1 : v ≤ 255) (O : CsOk s) (sr : Sl w xr cr s.ram) (hs : s.is = true) (ha : a < 32768) (hc : s.h.clk = false) : Calls Tryz.prog 10 #[rcV s xi ci xr cr, .int .u16 a, .int .u8 v] w fun e w' => ∃ xr' cr', e = .returned (rcV (writeS s a v) xi ci xr' cr') ∧ Sl w' xr' cr' (writeS s a v).ram ∧ (xr' = xr ∨ Newer w.heap.size xr') ∧ Kept w w' := by
  have C := hid (fun u => rwr_any s.m a v u a0 a1 v0 v1)
  have E : writeS s a v = lowS s a v := by unfold writeS; rw [if_neg (by rw [hs]; decide), if_pos ha]
  rw [E]
  obtain ⟨is, ⟨h0, h1, h2, h3, h4, h5, h6, h7, h8, h9⟩, img, ram, m, live, held, last⟩ := s
  simp only at hs C hc sr 
  subst hs hc
  unfold lowS
  simp only [Bool.false_eq_true, false_and, if_false]
  clear E O
  generalize writeM m a v = M at *
  have d1 : decide (a < 32768) = true := decide_eq_true ha
  go_enter Tryz.func10, Tryz.ntmps10
  go_wp2_with fail
  refine (C.out _).mono ?_
  rintro e u2 ⟨rfl, k2⟩
  have B2 : Blk u2 w.heap.size 37 (rcL ⟨true, ⟨h0, h1, h2, h3, h4, false, h6, h7, h8, h9⟩, img, ram, m, live, held, last⟩ xi ci xr cr) := blk_kept k2 (blk_past (blk_new w _ _) _)
  have R2 : Blk u2 (w.heap.size + 1) 37 rc0 := by have h := blk_kept k2 (blk_new (w.alloc _) rc0 37); rw [World.size_alloc] at h; exact h
  have K2 := hid ((((Kept.refl w).alloc _).alloc _).trans k2)
  have q2 := blk_cell B2
  clear k2
  go_wp2_with (first
    | ((with_reducible refine at_st _ ?_); refine wl_store rfl rfl rfl rfl B2 (by kernel_rfl) rfl (Nat.le_of_ble_eq_true rfl) (fun u3 p3 => ?_); have B3 : Blk u3 w.heap.size 37 (rcL ⟨true, ⟨h0, h1, h2, h3, h4, false, h6, h7, h8, h9⟩, img, ram, M, live, held, last⟩ xi ci xr cr) := p3.blk; have R3 := p3.other _ _ _ (Nat.succ_ne_self _) R2; have K3 := hid (p3.kept _ K2.out (Nat.le_refl _)); have q3 := blk_cell B3; clear p3 B2 R2 q2)
    | ((with_reducible refine at_ld 37 ?_); refine wl_load0 rfl rfl rfl B3 Tryz.underlying37 rfl (by kernel_rfl) ?_)
    | ((with_reducible refine at_st _ ?_); refine wl_store rfl rfl rfl rfl R3 (by kernel_rfl) rfl (Nat.le_of_ble_eq_true rfl) (fun u4 p4 => ?_); have K4 := hid (p4.kept _ K3.out (Nat.le_succ _)); have E4 : Blk u4 (w.heap.size + 1) 37 (rcL ⟨true, ⟨h0, h1, h2, h3, h4, false, h6, h7, h8, h9⟩, img, ram, M, live, held, last⟩ xi ci xr cr) := p4.blk; clear p4))
  exact bodyPost_ret (res_cell Tryz.results10 rfl E4 Tryz.underlying37 rfl (by kernel_rfl)) rfl ⟨_, _, rfl, sl_kept K4.out sr, .inl rfl, K4.out⟩
set_option maxRecDepth 100000 in
set_option maxHeartbeats 4000000 in
theorem rcwrite_low1 (s : Cs) (xi : Option Addr) (ci : Nat) (xr : Option Addr) (cr : Nat) (a v : Int) (w : World) (a0 : 0 ≤ a) (a1 : a ≤ 65535) (v0 : 0 ≤ v) (v1 : v ≤ 255) (O : CsOk s) (sr : Sl w xr cr s.ram) (hs : s.is = true) (ha : a < 32768) (hc : s.h.clk = true) (hh : a < 24576) : Calls Tryz.prog 10 #[rcV s xi ci xr cr, .int .u16 a, .int .u8 v] w fun e w' => ∃ xr' cr', e = .returned (rcV (writeS s a v) xi ci xr' cr') ∧ Sl w' xr' cr' (writeS s a v).ram ∧ (xr' = xr ∨ Newer w.heap.size xr') ∧ Kept w w' := by
  have C := hid (fun u => rwr_any s.m a v u a0 a1 v0 v1)
  have E : writeS s a v = lowS s a v := by unfold writeS; rw [if_neg (by rw [hs]; decide), if_pos ha]
  rw [E]
  obtain ⟨is, ⟨h0, h1, h2, h3, h4, h5, h6, h7, h8, h9⟩, img, ram, m, live, held, last⟩ := s
  simp only at hs C hc sr 
  subst hs hc
  unfold lowS
  have d2 : decide (24576 ≤ a) = false := decide_eq_false (by omega)
  have d3 : ¬ (24576 ≤ a) := by omega
  simp only [d3, false_and, and_false, if_false]
  clear E O
  generalize writeM m a v = M at *
  have d1 : decide (a < 32768) = true := decide_eq_true ha
  go_enter Tryz.func10, Tryz.ntmps10
  go_wp2_with fail
  refine (C.out _).mono ?_
  rintro e u2 ⟨rfl, k2⟩
  have B2 : Blk u2 w.heap.size 37 (rcL ⟨true, ⟨h0, h1, h2, h3, h4, true, h6, h7, h8, h9⟩, img, ram, m, live, held, last⟩ xi ci xr cr) := blk_kept k2 (blk_past (blk_new w _ _) _)
  have R2 : Blk u2 (w.heap.size + 1) 37 rc0 := by have h := blk_kept k2 (blk_new (w.alloc _) rc0 37); rw [World.size_alloc] at h; exact h
  have K2 := hid ((((Kept.refl w).alloc _).alloc _).trans k2)
  have q2 := blk_cell B2
  clear k2
  go_wp2_with (first
    | ((with_reducible refine at_st _ ?_); refine wl_store rfl rfl rfl rfl B2 (by kernel_rfl) rfl (Nat.le_of_ble_eq_true rfl) (fun u3 p3 => ?_); have B3 : Blk u3 w.heap.size 37 (rcL ⟨true, ⟨h0, h1, h2, h3, h4, true, h6, h7, h8, h9⟩, img, ram, M, live, held, last⟩ xi ci xr cr) := p3.blk; have R3 := p3.other _ _ _ (Nat.succ_ne_self _) R2; have K3 := hid (p3.kept _ K2.out (Nat.le_refl _)); have q3 := blk_cell B3; clear p3 B2 R2 q2)
    | ((with_reducible refine at_ld 37 ?_); refine wl_load0 rfl rfl rfl B3 Tryz.underlying37 rfl (by kernel_rfl) ?_)
    | ((with_reducible refine at_st _ ?_); refine wl_store rfl rfl rfl rfl R3 (by kernel_rfl) rfl (Nat.le_of_ble_eq_true rfl) (fun u4 p4 => ?_); have K4 := hid (p4.kept _ K3.out (Nat.le_succ _)); have E4 : Blk u4 (w.heap.size + 1) 37 (rcL ⟨true, ⟨h0, h1, h2, h3, h4, true, h6, h7, h8, h9⟩, img, ram, M, live, held, last⟩ xi ci xr cr) := p4.blk; clear p4))
  exact bodyPost_ret (res_cell Tryz.results10 rfl E4 Tryz.underlying37 rfl (by kernel_rfl)) rfl ⟨_, _, rfl, sl_kept K4.out sr, .inl rfl, K4.out⟩
set_option maxRecDepth 100000 in
set_option maxHeartbeats 4000000 in
theorem rcwrite_low2 (s : Cs) (xi : Option Addr) (ci : Nat) (xr : Option Addr) (cr : Nat) (a v : Int) (w : World) (a0 : 0 ≤ a) (a1 : a ≤ 65535) (v0 : 0 ≤ v) (v1 : v ≤ 255) (O : CsOk s) (sr : Sl w xr cr s.ram) (hs : s.is = true) (ha : a < 32768) (hc : s.h.clk = true) (hh : 24576 ≤ a) (hv : v = 1) (hl : s.last = 0) : Calls Tryz.prog 10 #[rcV s xi ci xr cr, .int .u16 a, .int .u8 v] w fun e w' => ∃ xr' cr', e = .returned (rcV (writeS s a v) xi ci xr' cr') ∧ Sl w' xr' cr' (writeS s a v).ram ∧ (xr' = xr ∨ Newer w.heap.size xr') ∧ Kept w w' := by
  have C := hid (fun u => rwr_any s.m a v u a0 a1 v0 v1)
  have E : writeS s a v = lowS s a v := by unfold writeS; rw [if_neg (by rw [hs]; decide), if_pos ha]
  rw [E]
  obtain ⟨is, ⟨h0, h1, h2, h3, h4, h5, h6, h7, h8, h9⟩, img, ram, m, live, held, last⟩ := s
  simp only at hs C hc sr hl
  subst hs hc hv hl
  unfold lowS
  have d2 : decide (24576 ≤ a) = true := decide_eq_true hh
  simp only [hh, eq_self, true_and, and_self, if_true]
  clear E O
  generalize writeM m a 1 = M at *
  have d1 : decide (a < 32768) = true := decide_eq_true ha
  go_enter Tryz.func10, Tryz.ntmps10
  go_wp2_with fail
  refine (C.out _).mono ?_
  rintro e u2 ⟨rfl, k2⟩
  have B2 : Blk u2 w.heap.size 37 (rcL ⟨true, ⟨h0, h1, h2, h3, h4, true, h6, h7, h8, h9⟩, img, ram, m, live, held, 0⟩ xi ci xr cr) := blk_kept k2 (blk_past (blk_new w _ _) _)
  have R2 : Blk u2 (w.heap.size + 1) 37 rc0 := by have h := blk_kept k2 (blk_new (w.alloc _) rc0 37); rw [World.size_alloc] at h; exact h
  have K2 := hid ((((Kept.refl w).alloc _).alloc _).trans k2)
  have q2 := blk_cell B2
  clear k2
  go_wp2_with (first
    | ((with_reducible refine at_st _ ?_); refine wl_store rfl rfl rfl rfl B2 (by kernel_rfl) rfl (Nat.le_of_ble_eq_true rfl) (fun u3 p3 => ?_); have B3 : Blk u3 w.heap.size 37 (rcL ⟨true, ⟨h0, h1, h2, h3, h4, true, h6, h7, h8, h9⟩, img, ram, M, live, held, 0⟩ xi ci xr cr) := p3.blk; have R3 := p3.other _ _ _ (Nat.succ_ne_self _) R2; have K3 := hid (p3.kept _ K2.out (Nat.le_refl _)); have q3 := blk_cell B3; clear p3 B2 R2 q2)
    | ((with_reducible refine at_st _ ?_); refine wl_store rfl rfl rfl rfl B3 (by kernel_rfl) rfl (Nat.le_of_ble_eq_true rfl) (fun u4 p4 => ?_); have B4 : Blk u4 w.heap.size 37 (rcL ⟨true, ⟨h0, h1, h2, h3, h4, true, h6, h7, h8, h9⟩, img, ram, M, live, live, 0⟩ xi ci xr cr) := p4.blk; have R4 := p4.other _ _ _ (Nat.succ_ne_self _) R3; have K4 := hid (p4.kept _ K3.out (Nat.le_refl _)); have q4 := blk_cell B4; clear p4 B3 R3 q3)
    | ((with_reducible refine at_st _ ?_); refine wl_store rfl rfl rfl rfl B4 (by kernel_rfl) rfl (Nat.le_of_ble_eq_true rfl) (fun u5 p5 => ?_); have B5 : Blk u5 w.heap.size 37 (rcL ⟨true, ⟨h0, h1, h2, h3, h4, true, h6, h7, h8, h9⟩, img, ram, M, live, live, 1⟩ xi ci xr cr) := p5.blk; have R5 := p5.other _ _ _ (Nat.succ_ne_self _) R4; have K5 := hid (p5.kept _ K4.out (Nat.le_refl _)); have q5 := blk_cell B5; clear p5 B4 R4 q4)
    | ((with_reducible refine at_ld 37 ?_); refine wl_load0 rfl rfl rfl B5 Tryz.underlying37 rfl (by kernel_rfl) ?_)
    | ((with_reducible refine at_st _ ?_); refine wl_store rfl rfl rfl rfl R5 (by kernel_rfl) rfl (Nat.le_of_ble_eq_true rfl) (fun u6 p6 => ?_); have K6 := hid (p6.kept _ K5.out (Nat.le_succ _)); have E6 : Blk u6 (w.heap.size + 1) 37 (rcL ⟨true, ⟨h0, h1, h2, h3, h4, true, h6, h7, h8, h9⟩, img, ram, M, live, live, 1⟩ xi ci xr cr) := p6.blk; clear p6))
  exact bodyPost_ret (res_cell Tryz.results10 rfl E6 Tryz.underlying37 rfl (by kernel_rfl)) rfl ⟨_, _, rfl, sl_kept K6.out sr, .inl rfl, K6.out⟩
set_option maxRecDepth 100000 in
set_option maxHeartbeats 4000000 in
theorem rcwrite_low3 (s : Cs) (xi : Option Addr) (ci : Nat) (xr : Option Addr) (cr : Nat) (a v : Int) (w : World) (a0 : 0 ≤ a) (a1 : a ≤ 65535) (v0 : 0 ≤ v) (v1 : v ≤ 255) (O : CsOk s) (sr : Sl w xr cr s.ram) (hs : s.is = true) (ha : a < 32768) (hc : s.h.clk = true) (hh : 24576 ≤ a) (hv : v ≠ 1) : Calls Tryz.prog 10 #[rcV s xi ci xr cr, .int .u16 a, .int .u8 v] w fun e w' => ∃ xr' cr', e = .returned (rcV (writeS s a v) xi ci xr' cr') ∧ Sl w' xr' cr' (writeS s a v).ram ∧ (xr' = xr ∨ Newer w.heap.size xr') ∧ Kept w w' := by
  have C := hid (fun u => rwr_any s.m a v u a0 a1 v0 v1)
  have E : writeS s a v = lowS s a v := by unfold writeS; rw [if_neg (by rw [hs]; decide), if_pos ha]
  rw [E]
  obtain ⟨is, ⟨h0, h1, h2, h3, h4, h5, h6, h7, h8, h9⟩, img, ram, m, live, held, last⟩ := s
  simp only at hs C hc sr 
  subst hs hc
  unfold lowS
  have d2 : decide (24576 ≤ a) = true := decide_eq_true hh
  simp only [hh, hv, true_and, false_and, and_false, and_self, if_true, if_false]
  have b1 : (v == 1) = false := by simpa using hv
  clear E O
  generalize writeM m a v = M at *
  have d1 : decide (a < 32768) = true := decide_eq_true ha
  go_enter Tryz.func10, Tryz.ntmps10
  go_wp2_with fail
  refine (C.out _).mono ?_
  rintro e u2 ⟨rfl, k2⟩
  have B2 : Blk u2 w.heap.size 37 (rcL ⟨true, ⟨h0, h1, h2, h3, h4, true, h6, h7, h8, h9⟩, img, ram, m, live, held, last⟩ xi ci xr cr) := blk_kept k2 (blk_past (blk_new w _ _) _)
  have R2 : Blk u2 (w.heap.size + 1) 37 rc0 := by have h := blk_kept k2 (blk_new (w.alloc _) rc0 37); rw [World.size_alloc] at h; exact h
  have K2 := hid ((((Kept.refl w).alloc _).alloc _).trans k2)
  have q2 := blk_cell B2
  clear k2
  go_wp2_with (first
    | ((with_reducible refine at_st _ ?_); refine wl_store rfl rfl rfl rfl B2 (by kernel_rfl) rfl (Nat.le_of_ble_eq_true rfl) (fun u3 p3 => ?_); have B3 : Blk u3 w.heap.size 37 (rcL ⟨true, ⟨h0, h1, h2, h3, h4, true, h6, h7, h8, h9⟩, img, ram, M, live, held, last⟩ xi ci xr cr) := p3.blk; have R3 := p3.other _ _ _ (Nat.succ_ne_self _) R2; have K3 := hid (p3.kept _ K2.out (Nat.le_refl _)); have q3 := blk_cell B3; clear p3 B2 R2 q2)
    | ((with_reducible refine at_st _ ?_); refine wl_store rfl rfl rfl rfl B3 (by kernel_rfl) rfl (Nat.le_of_ble_eq_true rfl) (fun u4 p4 => ?_); have B4 : Blk u4 w.heap.size 37 (rcL ⟨true, ⟨h0, h1, h2, h3, h4, true, h6, h7, h8, h9⟩, img, ram, M, live, held, v⟩ xi ci xr cr) := p4.blk; have R4 := p4.other _ _ _ (Nat.succ_ne_self _) R3; have K4 := hid (p4.kept _ K3.out (Nat.le_refl _)); have q4 := blk_cell B4; clear p4 B3 R3 q3)
    | ((with_reducible refine at_ld 37 ?_); refine wl_load0 rfl rfl rfl B4 Tryz.underlying37 rfl (by kernel_rfl) ?_)
    | ((with_reducible refine at_st _ ?_); refine wl_store rfl rfl rfl rfl R4 (by kernel_rfl) rfl (Nat.le_of_ble_eq_true rfl) (fun u5 p5 => ?_); have K5 := hid (p5.kept _ K4.out (Nat.le_succ _)); have E5 : Blk u5 (w.heap.size + 1) 37 (rcL ⟨true, ⟨h0, h1, h2, h3, h4, true, h6, h7, h8, h9⟩, img, ram, M, live, held, v⟩ xi ci xr cr) := p5.blk; clear p5))
  exact bodyPost_ret (res_cell Tryz.results10 rfl E5 Tryz.underlying37 rfl (by kernel_rfl)) rfl ⟨_, _, rfl, sl_kept K5.out sr, .inl rfl, K5.out⟩
set_option maxRecDepth 100000 in
set_option maxHeartbeats 4000000 in
theorem rcwrite_low4 (s : Cs) (xi : Option Addr) (ci : Nat) (xr : Option Addr) (cr : Nat) (a v : Int) (w : World) (a0 : 0 ≤ a) (a1 : a ≤ 65535) (v0 : 0 ≤ v) (v1 : v ≤ 255) (O : CsOk s) (sr : Sl w xr cr s.ram) (hs : s.is = true) (ha : a < 32768) (hc : s.h.clk = true) (hh : 24576 ≤ a) (hv : v = 1) (hl : s.last ≠ 0) : Calls Tryz.prog 10 #[rcV s xi ci xr cr, .int .u16 a, .int .u8 v] w fun e w' => ∃ xr' cr', e = .returned (rcV (writeS s a v) xi ci xr' cr') ∧ Sl w' xr' cr' (writeS s a v).ram ∧ (xr' = xr ∨ Newer w.heap.size xr') ∧ Kept w w' := by
  have C := hid (fun u => rwr_any s.m a v u a0 a1 v0 v1)
  have E : writeS s a v = lowS s a v := by unfold writeS; rw [if_neg (by rw [hs]; decide), if_pos ha]
  rw [E]
  obtain ⟨is, ⟨h0, h1, h2, h3, h4, h5, h6, h7, h8, h9⟩, img, ram, m, live, held, last⟩ := s
  simp only at hs C hc sr hl
  subst hs hc hv
  unfold lowS
  have d2 : decide (24576 ≤ a) = true := decide_eq_true hh
  simp only [hh, hl, true_and, false_and, and_false, and_self, if_true, if_false]
  have b1 : (last == 0) = false := by simpa using hl
  clear E O
  generalize writeM m a 1 = M at *
  have d1 : decide (a < 32768) = true := decide_eq_true ha
  go_enter Tryz.func10, Tryz.ntmps10
  go_wp2_with fail
  refine (C.out _).mono ?_
  rintro e u2 ⟨rfl, k2⟩
  have B2 : Blk u2 w.heap.size 37 (rcL ⟨true, ⟨h0, h1, h2, h3, h4, true, h6, h7, h8, h9⟩, img, ram, m, live, held, last⟩ xi ci xr cr) := blk_kept k2 (blk_past (blk_new w _ _) _)
  have R2 : Blk u2 (w.heap.size + 1) 37 rc0 := by have h := blk_kept k2 (blk_new (w.alloc _) rc0 37); rw [World.size_alloc] at h; exact h
  have K2 := hid ((((Kept.refl w).alloc _).alloc _).trans k2)
  have q2 := blk_cell B2
  clear k2
  go_wp2_with (first
    | ((with_reducible refine at_st _ ?_); refine wl_store rfl rfl rfl rfl B2 (by kernel_rfl) rfl (Nat.le_of_ble_eq_true rfl) (fun u3 p3 => ?_); have B3 : Blk u3 w.heap.size 37 (rcL ⟨true, ⟨h0, h1, h2, h3, h4, true, h6, h7, h8, h9⟩, img, ram, M, live, held, last⟩ xi ci xr cr) := p3.blk; have R3 := p3.other _ _ _ (Nat.succ_ne_self _) R2; have K3 := hid (p3.kept _ K2.out (Nat.le_refl _)); have q3 := blk_cell B3; clear p3 B2 R2 q2)
    | ((with_reducible refine at_st _ ?_); refine wl_store rfl rfl rfl rfl B3 (by kernel_rfl) rfl (Nat.le_of_ble_eq_true rfl) (fun u4 p4 => ?_); have B4 : Blk u4 w.heap.size 37 (rcL ⟨true, ⟨h0, h1, h2, h3, h4, true, h6, h7, h8, h9⟩, img, ram, M, live, held, 1⟩ xi ci xr cr) := p4.blk; have R4 := p4.other _ _ _ (Nat.succ_ne_self _) R3; have K4 := hid (p4.kept _ K3.out (Nat.le_refl _)); have q4 := blk_cell B4; clear p4 B3 R3 q3)
    | ((with_reducible refine at_ld 37 ?_); refine wl_load0 rfl rfl rfl B4 Tryz.underlying37 rfl (by kernel_rfl) ?_)
    | ((with_reducible refine at_st _ ?_); refine wl_store rfl rfl rfl rfl R4 (by kernel_rfl) rfl (Nat.le_of_ble_eq_true rfl) (fun u5 p5 => ?_); have K5 := hid (p5.kept _ K4.out (Nat.le_succ _)); have E5 : Blk u5 (w.heap.size + 1) 37 (rcL ⟨true, ⟨h0, h1, h2, h3, h4, true, h6, h7, h8, h9⟩, img, ram, M, live, held, 1⟩ xi ci xr cr) := p5.blk; clear p5))
  exact bodyPost_ret (res_cell Tryz.results10 rfl E5 Tryz.underlying37 rfl (by kernel_rfl)) rfl ⟨_, _, rfl, sl_kept K5.out sr, .inl rfl, K5.out⟩
end Go.Proofs.YtfmddnekooojkaaGreatDoor
