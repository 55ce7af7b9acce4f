/- The program's cart: the smaller calls. The program's cart: copies, sizes, places. The program's cart: Head, State, Ram. What the document's answers of layer 10 come to: reg, Tick. What the document's answers of layer 10 come to: Read. What the document's answers of layer 10 come to: Write. -/
import Derived.Test.YtfmddnekooojkaaDoorG30
import Derived.Handy
import Derived.Deep.RegionHeld3
import Derived.Test.YtfmddnekooojkaaDoorG20
import Derived.Test.YtfmddnekooojkaaDoorG26
import Derived.Test.YtfmddnekooojkaaDoorG10
import Derived.Test.YtfmddnekooojkaaDoorG08
import Derived.Test.YtfmddnekooojkaaDoorG05
import Derived.Test.YtfmddnekooojkaaDoorG17
namespace Go.Proofs.YtfmddnekooojkaaDoor
open Go.RowKit
set_option linter.unusedVariables false
set_option linter.unusedSimpArgs false

set_option maxRecDepth 100000 in
theorem knob_in (s : Cs) (p i ci r cr : Nat) (w : World) (h : CartIn w s p i ci r cr) : Calls Tryd.prog 27 #[.pointer (some ⟨p, 0, none⟩)] w fun e w' => e = .returned (.bool false) ∧ w' = w := by
  have n0 := h.ok.some h.yes
  have c0 := blk_cell h.blk
  have pw := blk_lt h.blk
  clear h
  obtain ⟨is, ⟨h0, h1, h2, h3, h4, h5, h6, h7, h8, h9⟩, img, ram, m, live, held, last⟩ := s
  simp only at n0
  have n1 : ((img.length : Int) == 0) = false := by rw [beq_eq_false_iff_ne]; omega
  go_enter Tryd.func27, Tryd.ntmps27
  go_wp2
  go_ret
  exact ⟨rfl, rfl⟩
theorem knob_zero (p : Nat) (w : World) (h : Blk w p 58 (cartL cs0 none 0 none 0)) : Calls Tryd.prog 27 #[.pointer (some ⟨p, 0, none⟩)] w fun e w' => e = .returned (.bool true) ∧ w' = w := by
  have c0 : w.cell? ⟨p, 29, none⟩ = some (.slice none 0 0) := blk_cell h 29
  have pw := blk_lt h
  clear h
  go_enter Tryd.func27, Tryd.ntmps27
  go_wp2
  go_ret
  exact ⟨rfl, rfl⟩
theorem knob_nil (w : World) : Calls Tryd.prog 27 #[.pointer none] w fun e w' => e = .returned (.bool true) ∧ w' = w := by
  go_enter Tryd.func27, Tryd.ntmps27
  go_wp2
  go_ret
  exact ⟨rfl, rfl⟩
end Go.Proofs.YtfmddnekooojkaaDoor
namespace Go.Proofs.YtfmddnekooojkaaDoor
open Go.RowKit
set_option linter.unusedVariables false
set_option linter.unusedSimpArgs false

set_option maxRecDepth 100000 in
set_option maxHeartbeats 4000000 in
theorem kcopy_any (z : List Int) (ax : Option Addr) (cap : Nat) (w : World) (sl : Sl w ax cap z) (hz : z.length ≤ 140737488355328) : Calls Tryd.prog 24 #[.slice ax z.length cap] w fun e w' => ∃ v, e = .returned v ∧ w'.ownsRow w.heap.size 5 1 v z.length (z.map (Value.int .u8)) ∧ Kept w w' := by
  have O := hid (World.ownsRow_nil w w.heap.size 5 1)
  have SL := hid sl
  have zl : ([] : List Int).length + z.length ≤ 140737488355328 := by simpa using hz
  clear sl
  go_enter Tryd.func24, Tryd.ntmps24
  go_wp2_with (at_builtin; refine wl_append (L := []) O.out SL.out rfl rfl rfl rfl rfl (Nat.le_refl _) zl (fun v' u2 o2 g2 => ?_); rw [List.nil_append] at o2; have K2 := hid ((Kept.refl w).by g2 (fun j h => (O.out.lt j h).1)); have O2 := hid o2; clear g2 o2)
  go_ret
  exact ⟨_, rfl, O2.out, K2.out⟩
set_option maxRecDepth 100000 in
set_option maxHeartbeats 4000000 in
theorem ksize_in (s : Cs) (p i ci r cr : Nat) (w : World) (h : CartIn w s p i ci r cr) : Calls Tryd.prog 37 #[.pointer (some ⟨p, 0, none⟩)] w fun e w' => e = .returned (.int .i64 ((s.ram.length : Int) + (if s.h.clk = true then 10 else 0))) ∧ w' = w := by
  have rl := h.ok.rlen
  have c0 := blk_cell h.blk
  have pw := blk_lt h.blk
  clear h
  obtain ⟨is, ⟨h0, h1, h2, h3, h4, h5, h6, h7, h8, h9⟩, img, ram, m, live, held, last⟩ := s
  simp only at rl
  cases h5
  · skip
    go_enter Tryd.func37, Tryd.ntmps37
    go_wp2
    go_ret
    exact ⟨rfl, rfl⟩
  · have e1 : wrap64 ((ram.length : Int) + 10) = (ram.length : Int) + 10 := by unfold wrap64; omega
    go_enter Tryd.func37, Tryd.ntmps37
    go_wp2
    go_ret
    exact ⟨rfl, rfl⟩
set_option maxRecDepth 100000 in
set_option maxHeartbeats 4000000 in
theorem kreg_in (s : Cs) (p i ci r cr : Nat) (a : Int) (w : World) (h : CartIn w s p i ci r cr) (a0 : 0 ≤ a) (a1 : a ≤ 65535) : Calls Tryd.prog 29 #[.pointer (some ⟨p, 0, none⟩), .int .u16 a] w fun e w' => e = .returned (.int .i64 (regS s a)) ∧ Kept w w' := by
  have CC := hid (fun u => mreg_any s.m a u a0 a1 h.ok.m)
  have c0 := blk_cell h.blk
  have pw := blk_lt h.blk
  clear h
  obtain ⟨is, ⟨h0, h1, h2, h3, h4, h5, h6, h7, h8, h9⟩, img, ram, m, live, held, last⟩ := s
  simp only at CC
  cases h5
  · have E := hid (show regS ⟨is, ⟨h0, h1, h2, h3, h4, false, h6, h7, h8, h9⟩, img, ram, m, live, held, last⟩ a = 0 from rfl)
    go_enter Tryd.func29, Tryd.ntmps29
    go_wp2
    go_ret
    exact ⟨by rw [E.out]; rfl, Kept.refl _⟩
  · have E := hid (show regS ⟨is, ⟨h0, h1, h2, h3, h4, true, h6, h7, h8, h9⟩, img, ram, m, live, held, last⟩ a = regM m a from rfl)
    go_enter Tryd.func29, Tryd.ntmps29
    go_wp2_with fail
    refine (CC.out _).mono ?_
    rintro e u1 ⟨rfl, k1⟩
    go_wp2
    go_ret
    exact ⟨by rw [E.out]; rfl, k1⟩
set_option maxRecDepth 100000 in
set_option maxHeartbeats 4000000 in
theorem kplace_in (s : Cs) (p i ci r cr : Nat) (a : Int) (w : World) (h : CartIn w s p i ci r cr) (a0 : 0 ≤ a) (a1 : a ≤ 65535) : Calls Tryd.prog 31 #[.pointer (some ⟨p, 0, none⟩), .int .u16 a] w fun e w' => e = .returned (.int .i64 (ramS s a)) ∧ Kept w w' := by
  have rl := h.ok.rlen
  have CC := hid (fun u => mram_any s.m a (s.ram.length : Int) u a0 a1 (by omega) (by omega) h.ok.m)
  have E : ramS s a = ramM s.m a (s.ram.length : Int) := rfl
  rw [E]
  have B0 := hid h.blk
  have c0 := blk_cell h.blk
  have pw := blk_lt h.blk
  clear h E
  obtain ⟨is, ⟨h0, h1, h2, h3, h4, h5, h6, h7, h8, h9⟩, img, ram, m, live, held, last⟩ := s
  simp only at CC rl
  generalize ramM m a (ram.length : Int) = R at *
  go_enter Tryd.func31, Tryd.ntmps31
  go_wp2_with fail
  go_region_held3 (fun w' => w'.cell? ⟨p, 0, none⟩ = some (.int .i64 m.kind) ∧ w'.cell? ⟨p, 1, none⟩ = some (.bool m.op) ∧ w'.cell? ⟨p, 2, none⟩ = some (.int .u8 m.low) ∧ w'.cell? ⟨p, 3, none⟩ = some (.int .u8 m.high) ∧ w'.cell? ⟨p, 4, none⟩ = some (.int .u8 m.ram) ∧ w'.cell? ⟨p, 5, none⟩ = some (.bool m.mode) ∧ w'.cell? ⟨p, 30, none⟩ = some (.slice (some ⟨r, 0, none⟩) ram.length cr)) (go_keep) (first | (go_at_call 53; refine (CC.out _).mono ?_; rintro e v1 ⟨rfl, q1⟩; have c1 := blk_cell (blk_kept q1 (blk_drew B0.out)); have K1 := hid (((Kept.refl w).drew).trans q1); clear q1))
  all_goals
    go_wp2
    go_ret
    exact ⟨rfl, K1.out⟩
end Go.Proofs.YtfmddnekooojkaaDoor
namespace Go.Proofs.YtfmddnekooojkaaDoor
open Go.RowKit
set_option linter.unusedVariables false
set_option linter.unusedSimpArgs false

abbrev hdVc (H : Hd) : Value := .agg #[.string H.title, .int .u8 H.kind, .int .i64 H.map, .bool H.ram, .bool H.bat, .bool H.clk, .int .i64 H.banks, .int .i64 H.size, .int .u8 H.sum, .int .u16 H.whole]
/-- Nobody's. -/
def NoCart (w : World) (v : Value) : Prop := v = .pointer none ∨ ∃ p, v = .pointer (some ⟨p, 0, none⟩) ∧ Blk w p 58 (cartL cs0 none 0 none 0)
theorem NoCart.kept {w u : World} {v : Value} (h : NoCart w v) (k : Kept w u) : NoCart u v := by
  rcases h with h | ⟨p, e, b⟩
  · exact .inl h
  · exact .inr ⟨p, e, blk_kept k b⟩
theorem knob_no (v : Value) (w : World) (h : NoCart w v) : Calls Tryd.prog 27 #[v] w fun e w' => e = .returned (.bool true) ∧ w' = w := by
  rcases h with rfl | ⟨p, rfl, b⟩
  · exact knob_nil w
  · exact knob_zero p w b
theorem cart_cases {w : World} {s : Cs} {v : Value} {F : Nat → Prop} (h : CartAt w s v F) : (s = cs0 ∧ NoCart w v) ∨ (∃ p i ci r cr, v = .pointer (some ⟨p, 0, none⟩) ∧ CartIn w s p i ci r cr ∧ ∀ k, F k ↔ (k = p ∨ k = i ∨ k = r)) := by
  rcases h with ⟨e, e2, _⟩ | ⟨e, p, e2, b, _⟩ | h
  · exact .inl ⟨e, .inl e2⟩
  · exact .inl ⟨e, .inr ⟨p, e2, b⟩⟩
  · exact .inr h
set_option maxRecDepth 100000 in
set_option maxHeartbeats 4000000 in
theorem khead_no (v : Value) (w : World) (h : NoCart w v) : Calls Tryd.prog 11 #[v] w fun e w' => e = .returned (hdVc cs0.h) ∧ Kept w w' := by
  have N := hid (fun u (k : Kept w u) => knob_no v u (h.kept k))
  clear h
  go_enter Tryd.func11, Tryd.ntmps11
  go_wp2_with fail
  refine (N.out _ ((Kept.refl w).alloc _)).mono ?_
  rintro e u1 ⟨rfl, rfl⟩
  go_wp2
  exact bodyPost_ret (v := hdVc hd0) (by simp [results, Tryd.results11, go_sem, hd0]; try rfl) rfl ⟨rfl, by repeat (first | with_reducible exact Kept.refl _ | with_reducible refine Kept.alloc ?_ _ | with_reducible refine Kept.drew ?_ | with_reducible refine Kept.drewN ?_ | (with_reducible refine Kept.setCell8 ?_ ?_ _ _; rotate_left; (first | exact Nat.le_refl _ | omega | (simp; done) | (simp; omega))))⟩
set_option maxRecDepth 100000 in
set_option maxHeartbeats 4000000 in
theorem khead_in (s : Cs) (p i ci r cr : Nat) (w : World) (h : CartIn w s p i ci r cr) : Calls Tryd.prog 11 #[.pointer (some ⟨p, 0, none⟩)] w fun e w' => e = .returned (hdVc s.h) ∧ Kept w w' := by
  have N := hid (fun u (k : Kept w u) => knob_in s p i ci r cr u (h.keep k))
  have c0 := blk_cell h.blk
  have pw := blk_lt h.blk
  have pn : p ≠ w.heap.size := by omega
  clear h
  obtain ⟨is, ⟨h0, h1, h2, h3, h4, h5, h6, h7, h8, h9⟩, img, ram, m, live, held, last⟩ := s
  go_enter Tryd.func11, Tryd.ntmps11
  go_wp2_with fail
  refine (N.out _ ((Kept.refl w).alloc _)).mono ?_
  rintro e u1 ⟨rfl, rfl⟩
  go_wp2
  exact bodyPost_ret (v := hdVc ⟨h0, h1, h2, h3, h4, h5, h6, h7, h8, h9⟩) (by simp [results, Tryd.results11, go_sem]) rfl ⟨rfl, by repeat (first | with_reducible exact Kept.refl _ | with_reducible refine Kept.alloc ?_ _ | with_reducible refine Kept.drew ?_ | with_reducible refine Kept.drewN ?_ | (with_reducible refine Kept.setCell8 ?_ ?_ _ _; rotate_left; (first | exact Nat.le_refl _ | omega | (simp; done) | (simp; omega))))⟩
theorem khead_any (s : Cs) (v : Value) (F : Nat → Prop) (w : World) (h : CartAt w s v F) : Calls Tryd.prog 11 #[v] w fun e w' => e = .returned (hdVc s.h) ∧ Kept w w' := by
  rcases cart_cases h with ⟨rfl, hn⟩ | ⟨p, i, ci, r, cr, rfl, h, _⟩
  · exact khead_no v w hn
  · exact khead_in s p i ci r cr w h
set_option maxRecDepth 100000 in
set_option maxHeartbeats 4000000 in
theorem kstate_no (v : Value) (w : World) (h : NoCart w v) : Calls Tryd.prog 17 #[v] w fun e w' => e = .returned (.tuple #[mpV cs0.m, ckV cs0.live, ckV cs0.held]) ∧ Kept w w' := by
  have N := hid (fun u (k : Kept w u) => knob_no v u (h.kept k))
  clear h
  go_enter Tryd.func17, Tryd.ntmps17
  go_wp2_with fail
  refine (N.out _ ((((Kept.refl w).alloc _).alloc _).alloc _)).mono ?_
  rintro e u1 ⟨rfl, rfl⟩
  go_wp2
  exact bodyPost_ret (v := .tuple #[mpV mp0, ckV ck0, ckV ck0]) (by simp [results, Tryd.results17, go_sem, mp0, ck0]; try rfl) rfl ⟨rfl, by repeat (first | with_reducible exact Kept.refl _ | with_reducible refine Kept.alloc ?_ _ | with_reducible refine Kept.drew ?_ | with_reducible refine Kept.drewN ?_ | (with_reducible refine Kept.setCell8 ?_ ?_ _ _; rotate_left; (first | exact Nat.le_refl _ | omega | (simp; done) | (simp; omega))))⟩
set_option maxRecDepth 100000 in
set_option maxHeartbeats 4000000 in
theorem kstate_in (s : Cs) (p i ci r cr : Nat) (w : World) (h : CartIn w s p i ci r cr) : Calls Tryd.prog 17 #[.pointer (some ⟨p, 0, none⟩)] w fun e w' => e = .returned (.tuple #[mpV s.m, ckV s.live, ckV s.held]) ∧ Kept w w' := by
  have N := hid (fun u (k : Kept w u) => knob_in s p i ci r cr u (h.keep k))
  have B0 := hid h.blk
  have pw := blk_lt h.blk
  have pn : p ≠ w.heap.size := by omega
  have pn1 : p ≠ w.heap.size + 1 := by omega
  have pn2 : p ≠ w.heap.size + 1 + 1 := by omega
  have np : w.heap.size ≠ p := by omega
  have np1 : w.heap.size + 1 ≠ p := by omega
  have np2 : w.heap.size + 1 + 1 ≠ p := by omega
  clear h
  obtain ⟨is, ⟨h0, h1, h2, h3, h4, h5, h6, h7, h8, h9⟩, img, ram, m, live, held, last⟩ := s
  go_enter Tryd.func17, Tryd.ntmps17
  go_wp2_with fail
  refine (N.out _ ((((Kept.refl w).alloc _).alloc _).alloc _)).mono ?_
  rintro e u1 ⟨rfl, hu⟩
  have c1 := blk_cell (show Blk u1 p 58 (cartL ⟨is, ⟨h0, h1, h2, h3, h4, h5, h6, h7, h8, h9⟩, img, ram, m, live, held, last⟩ (some ⟨i, 0, none⟩) ci (some ⟨r, 0, none⟩) cr) by rw [hu]; exact blk_past (blk_past (blk_past B0.out _) _) _)
  have Z0 : Blk u1 w.heap.size 32 [.int .i64 0, .bool false, .int .u8 0, .int .u8 0, .int .u8 0, .bool false] := by rw [hu]; exact blk_past (blk_past (blk_new w _ _) _) _
  have Z1 : Blk u1 (w.heap.size + 1) 34 [.int .u8 0, .int .u8 0, .int .u8 0, .int .u16 0, .bool false, .bool false] := by rw [hu]; have q := blk_new (w.alloc (.cells ([.int .i64 0, .bool false, .int .u8 0, .int .u8 0, .int .u8 0, .bool false] : List Value).toArray 32)) [.int .u8 0, .int .u8 0, .int .u8 0, .int .u16 0, .bool false, .bool false] 34; rw [World.size_alloc] at q; exact blk_past q _
  have Z2 : Blk u1 (w.heap.size + 1 + 1) 34 [.int .u8 0, .int .u8 0, .int .u8 0, .int .u16 0, .bool false, .bool false] := by rw [hu]; have q := blk_new ((w.alloc (.cells ([.int .i64 0, .bool false, .int .u8 0, .int .u8 0, .int .u8 0, .bool false] : List Value).toArray 32)).alloc (.cells ([.int .u8 0, .int .u8 0, .int .u8 0, .int .u16 0, .bool false, .bool false] : List Value).toArray 34)) [.int .u8 0, .int .u8 0, .int .u8 0, .int .u16 0, .bool false, .bool false] 34; rw [World.size_alloc, World.size_alloc] at q; exact q
  have K1 : Kept w u1 := by rw [hu]; exact (((Kept.refl w).alloc _).alloc _).alloc _
  have s1 : u1.heap.size = w.heap.size + 1 + 1 + 1 := by rw [hu]; simp
  clear hu N B0
  have z0 := blk_cell Z0
  have z1 := blk_cell Z1
  have z2 := blk_cell Z2
  have f0 := blk_froz Z0
  have f1 := blk_froz Z1
  have f2 := blk_froz Z2
  go_wp2_with fail
  go_region_held3 (fun w' => w'.cell? ⟨p, 0, none⟩ = some (.int .i64 m.kind) ∧ w'.cell? ⟨p, 1, none⟩ = some (.bool m.op) ∧ w'.cell? ⟨p, 2, none⟩ = some (.int .u8 m.low) ∧ w'.cell? ⟨p, 3, none⟩ = some (.int .u8 m.high) ∧ w'.cell? ⟨p, 4, none⟩ = some (.int .u8 m.ram) ∧ w'.cell? ⟨p, 5, none⟩ = some (.bool m.mode) ∧ w'.cell? ⟨p, 6, none⟩ = some (.int .u8 live.sec) ∧ w'.cell? ⟨p, 7, none⟩ = some (.int .u8 live.min) ∧ w'.cell? ⟨p, 8, none⟩ = some (.int .u8 live.hour) ∧ w'.cell? ⟨p, 9, none⟩ = some (.int .u16 live.day) ∧ w'.cell? ⟨p, 10, none⟩ = some (.bool live.halt) ∧ w'.cell? ⟨p, 11, none⟩ = some (.bool live.carry) ∧ w'.cell? ⟨p, 12, none⟩ = some (.int .u8 held.sec) ∧ w'.cell? ⟨p, 13, none⟩ = some (.int .u8 held.min) ∧ w'.cell? ⟨p, 14, none⟩ = some (.int .u8 held.hour) ∧ w'.cell? ⟨p, 15, none⟩ = some (.int .u16 held.day) ∧ w'.cell? ⟨p, 16, none⟩ = some (.bool held.halt) ∧ w'.cell? ⟨p, 17, none⟩ = some (.bool held.carry)) (go_keep) (fail)
  all_goals
    go_wp2
    exact bodyPost_ret (v := .tuple #[mpV m, ckV live, ckV held]) (by simp [results, Tryd.results17, go_sem, z0, z1, z2]) rfl ⟨rfl, by repeat (first | with_reducible exact K1 | with_reducible refine Kept.alloc ?_ _ | with_reducible refine Kept.drew ?_ | with_reducible refine Kept.drewN ?_ | (with_reducible refine Kept.setCell8 ?_ ?_ _ _; rotate_left; (first | exact Nat.le_refl _ | omega | (simp; done) | (simp; omega))))⟩
theorem kstate_any (s : Cs) (v : Value) (F : Nat → Prop) (w : World) (h : CartAt w s v F) : Calls Tryd.prog 17 #[v] w fun e w' => e = .returned (.tuple #[mpV s.m, ckV s.live, ckV s.held]) ∧ Kept w w' := by
  rcases cart_cases h with ⟨rfl, hn⟩ | ⟨p, i, ci, r, cr, rfl, h, _⟩
  · exact kstate_no v w hn
  · exact kstate_in s p i ci r cr w h
set_option maxRecDepth 100000 in
set_option maxHeartbeats 4000000 in
theorem kram_no (v : Value) (w : World) (h : NoCart w v) : Calls Tryd.prog 14 #[v] w fun e w' => ∃ r, e = .returned r ∧ w'.ownsRow w.heap.size 5 1 r cs0.ram.length (cs0.ram.map (Value.int .u8)) ∧ Kept w w' := by
  have N := hid (fun u (k : Kept w u) => knob_no v u (h.kept k))
  clear h
  go_enter Tryd.func14, Tryd.ntmps14
  go_wp2_with fail
  refine (N.out _ (Kept.refl w)).mono ?_
  rintro e u1 ⟨rfl, rfl⟩
  go_wp2
  go_ret
  exact ⟨_, rfl, World.ownsRow_nil _ _ _ _, Kept.refl _⟩
set_option maxRecDepth 100000 in
set_option maxHeartbeats 4000000 in
theorem kram_in (s : Cs) (p i ci r cr : Nat) (w : World) (h : CartIn w s p i ci r cr) : Calls Tryd.prog 14 #[.pointer (some ⟨p, 0, none⟩)] w fun e w' => ∃ r, e = .returned r ∧ w'.ownsRow w.heap.size 5 1 r s.ram.length (s.ram.map (Value.int .u8)) ∧ Kept w w' := by
  have N := hid (fun u (k : Kept w u) => knob_in s p i ci r cr u (h.keep k))
  have rl := h.ok.rlen
  have CC := hid (kcopy_any s.ram (some ⟨r, 0, none⟩) cr w (ownB_sl h.ram h.ok.ram) (by omega))
  have c0 := blk_cell h.blk
  have pw := blk_lt h.blk
  clear h
  obtain ⟨is, ⟨h0, h1, h2, h3, h4, h5, h6, h7, h8, h9⟩, img, ram, m, live, held, last⟩ := s
  simp only at CC rl
  go_enter Tryd.func14, Tryd.ntmps14
  go_wp2_with fail
  refine (N.out _ (Kept.refl w)).mono ?_
  rintro e u1 ⟨rfl, rfl⟩
  go_wp2_with fail
  refine CC.out.mono ?_
  rintro e u2 ⟨v2, rfl, o2, k2⟩
  have O2 := hid o2
  have K2 := hid k2
  clear o2 k2
  go_wp2
  go_ret
  exact ⟨_, rfl, O2.out, K2.out⟩
theorem kram_any (s : Cs) (v : Value) (F : Nat → Prop) (w : World) (h : CartAt w s v F) : Calls Tryd.prog 14 #[v] w fun e w' => ∃ r, e = .returned r ∧ w'.ownsRow w.heap.size 5 1 r s.ram.length (s.ram.map (Value.int .u8)) ∧ Kept w w' := by
  rcases cart_cases h with ⟨rfl, hn⟩ | ⟨p, i, ci, r, cr, rfl, h, _⟩
  · exact kram_no v w hn
  · exact kram_in s p i ci r cr w h
end Go.Proofs.YtfmddnekooojkaaDoor
namespace Go.Proofs.YtfmddnekooojkaaDoor
open Go.RowKit
set_option linter.unusedVariables false
set_option linter.unusedSimpArgs false

abbrev rcL (s : Cs) (xi : Option Addr) (ci : Nat) (xr : Option Addr) (cr : Nat) : List Value := [.bool s.is, .string s.h.title, .int .u8 s.h.kind, .int .i64 s.h.map, .bool s.h.ram, .bool s.h.bat, .bool s.h.clk, .int .i64 s.h.banks, .int .i64 s.h.size, .int .u8 s.h.sum, .int .u16 s.h.whole,
  .slice xi s.img.length ci, .slice xr s.ram.length cr, .int .i64 s.m.kind, .bool s.m.op, .int .u8 s.m.low, .int .u8 s.m.high, .int .u8 s.m.ram, .bool s.m.mode,
  .int .u8 s.live.sec, .int .u8 s.live.min, .int .u8 s.live.hour, .int .u16 s.live.day, .bool s.live.halt, .bool s.live.carry, .int .u8 s.held.sec, .int .u8 s.held.min, .int .u8 s.held.hour, .int .u16 s.held.day, .bool s.held.halt, .bool s.held.carry, .int .u8 s.last]
abbrev rcV (s : Cs) (xi : Option Addr) (ci : Nat) (xr : Option Addr) (cr : Nat) : Value := .agg (rcL s xi ci xr cr).toArray
abbrev rc0 : List Value := [.bool false, .string ⟨#[]⟩, .int .u8 0, .int .i64 0, .bool false, .bool false, .bool false, .int .i64 0, .int .i64 0, .int .u8 0, .int .u16 0, .slice none 0 0, .slice none 0 0, .int .i64 0, .bool false, .int .u8 0, .int .u8 0, .int .u8 0, .bool false,
  .int .u8 0, .int .u8 0, .int .u8 0, .int .u16 0, .bool false, .bool false, .int .u8 0, .int .u8 0, .int .u8 0, .int .u16 0, .bool false, .bool false, .int .u8 0]
set_option maxRecDepth 100000 in
theorem rcreg_any (s : Cs) (xi : Option Addr) (ci : Nat) (xr : Option Addr) (cr : Nat) (a : Int) (w : World) (a0 : 0 ≤ a) (a1 : a ≤ 65535) (M : MpIn s.m) :
    Calls Tryd.prog 33 #[rcV s xi ci xr cr, .int .u16 a] w fun e w' => e = .returned (.int .i64 (regS s a)) ∧ Kept w w' := by
  have C := hid (fun u => rreg_any s.m a u M)
  obtain ⟨is, ⟨h0, h1, h2, h3, h4, h5, h6, h7, h8, h9⟩, img, ram, m, live, held, last⟩ := s
  cases h5
  · have E := hid (show regS ⟨is, ⟨h0, h1, h2, h3, h4, false, h6, h7, h8, h9⟩, img, ram, m, live, held, last⟩ a = 0 from rfl)
    go_enter Tryd.func33, Tryd.ntmps33
    go_wp2
    go_ret
    exact ⟨by rw [E.out]; rfl, by repeat (first | with_reducible exact Kept.refl _ | with_reducible refine Kept.alloc ?_ _ | with_reducible refine Kept.drew ?_ | with_reducible refine Kept.drewN ?_)⟩
  · have E := hid (show regS ⟨is, ⟨h0, h1, h2, h3, h4, true, h6, h7, h8, h9⟩, img, ram, m, live, held, last⟩ a = regM m a from rfl)
    go_enter Tryd.func33, Tryd.ntmps33
    go_wp2_with fail
    refine (C.out _).mono ?_
    rintro e u1 ⟨rfl, k1⟩
    have K1 := hid (((Kept.refl w).alloc _).trans k1)
    clear k1
    go_wp2
    go_ret
    exact ⟨by rw [E.out]; rfl, K1.out⟩
end Go.Proofs.YtfmddnekooojkaaDoor
namespace Go.Proofs.YtfmddnekooojkaaDoor
open Go.RowKit
set_option linter.unusedVariables false
set_option linter.unusedSimpArgs false

theorem row_cell {w : World} {a : Option Addr} {z : List Int} (r : Row w a z) (k : Nat) (hk : k < z.length) : ∃ x : Addr, a = some x ∧ x.block < w.heap.size ∧ w.cell? (x.add k) = some (.int .u8 (z.getD k 0)) := by
  obtain ⟨x, e, hx, hc⟩ := row_get r (by omega)
  exact ⟨x, e, hx, (hc k hk).1⟩
set_option maxRecDepth 100000 in
set_option maxHeartbeats 4000000 in
theorem rcread_no (s : Cs) (xi : Option Addr) (ci : Nat) (xr : Option Addr) (cr : Nat) (a : Int) (w : World) (a0 : 0 ≤ a) (a1 : a ≤ 65535) (O : CsOk s) (ri : Row w xi s.img) (li : s.img.length ≤ ci) (mi : ci ≤ maxLen) (rr : Row w xr s.ram) (lr : s.ram.length ≤ cr) (mr : cr ≤ maxLen) (hs : s.is = false) : Calls Tryd.prog 13 #[rcV s xi ci xr cr, .int .u16 a] w fun e w' => e = .returned (.int .u8 (readS s a)) ∧ Kept w w' := by
  have E : readS s a = 255 := by unfold readS; rw [if_pos hs]
  rw [E]
  obtain ⟨is, ⟨h0, h1, h2, h3, h4, h5, h6, h7, h8, h9⟩, img, ram, m, live, held, last⟩ := s
  simp only at hs
  subst hs
  clear E O ri rr li lr
  go_enter Tryd.func13, Tryd.ntmps13
  go_wp2
  go_ret
  exact ⟨rfl, by repeat (first | with_reducible exact Kept.refl _ | with_reducible refine Kept.alloc ?_ _ | with_reducible refine Kept.drew ?_ | with_reducible refine Kept.drewN ?_)⟩
set_option maxRecDepth 100000 in
set_option maxHeartbeats 4000000 in
theorem rcread_low (s : Cs) (xi : Option Addr) (ci : Nat) (xr : Option Addr) (cr : Nat) (a : Int) (w : World) (a0 : 0 ≤ a) (a1 : a ≤ 65535) (O : CsOk s) (ri : Row w xi s.img) (li : s.img.length ≤ ci) (mi : ci ≤ maxLen) (rr : Row w xr s.ram) (lr : s.ram.length ≤ cr) (mr : cr ≤ maxLen) (hs : s.is = true) (ha : a < 32768) : Calls Tryd.prog 13 #[rcV s xi ci xr cr, .int .u16 a] w fun e w' => e = .returned (.int .u8 (readS s a)) ∧ Kept w w' := by
  have E : readS s a = s.img.getD (romS s a).toNat 0 := by unfold readS; rw [if_neg (by rw [hs]; decide), if_pos ha]
  obtain ⟨r0, r1⟩ := rom_in s a O a0 ha hs
  obtain ⟨k, hk⟩ : ∃ k : Nat, romS s a = (k : Int) := ⟨(romS s a).toNat, by omega⟩
  have hk2 : k < s.img.length := by omega
  obtain ⟨x, rfl, hx, hc⟩ := row_cell ri k hk2
  rw [E, hk, Int.toNat_natCast]
  have il := O.ilen
  have C := hid (fun u => rrom_any s.m a (s.img.length : Int) u a0 a1 (by omega) (by omega) O.m)
  rw [show romM s.m a (s.img.length : Int) = (k : Int) from hk] at C
  obtain ⟨is, ⟨h0, h1, h2, h3, h4, h5, h6, h7, h8, h9⟩, img, ram, m, live, held, last⟩ := s
  simp only at hs C hk2 li il hc
  subst hs
  generalize img.getD k 0 = V at *
  have hk3 : (k : Int) < (img.length : Int) := by omega
  have hB := hid (blk_new w (rcL ⟨true, ⟨h0, h1, h2, h3, h4, h5, h6, h7, h8, h9⟩, img, ram, m, live, held, last⟩ (some x) ci xr cr) 36)
  have d1 : decide (a < 32768) = true := decide_eq_true ha
  have c0 := blk_cell hB.out
  have hx2 : x.block ≠ w.heap.size := by omega
  have hc0 : (w.alloc (.cells (rcL ⟨true, ⟨h0, h1, h2, h3, h4, h5, h6, h7, h8, h9⟩, img, ram, m, live, held, last⟩ (some x) ci xr cr).toArray 36)).cell? (x.add k) = some (.int .u8 V) := by rw [((Kept.refl w).alloc _).cell (by rw [addB]; exact hx)]; exact hc
  have hx1 : x.block < (w.alloc (.cells (rcL ⟨true, ⟨h0, h1, h2, h3, h4, h5, h6, h7, h8, h9⟩, img, ram, m, live, held, last⟩ (some x) ci xr cr).toArray 36)).heap.size := by rw [World.size_alloc]; omega
  clear E O ri rr hk r0 r1 hc
  go_enter Tryd.func13, Tryd.ntmps13
  go_wp2_with fail
  go_region_held3 (fun w' => w'.cell? ⟨w.heap.size, 11, none⟩ = some (.slice (some x) img.length ci) ∧ w'.cell? ⟨w.heap.size, 13, none⟩ = some (.int .i64 m.kind) ∧ w'.cell? ⟨w.heap.size, 14, none⟩ = some (.bool m.op) ∧ w'.cell? ⟨w.heap.size, 15, none⟩ = some (.int .u8 m.low) ∧ w'.cell? ⟨w.heap.size, 16, none⟩ = some (.int .u8 m.high) ∧ w'.cell? ⟨w.heap.size, 17, none⟩ = some (.int .u8 m.ram) ∧ w'.cell? ⟨w.heap.size, 18, none⟩ = some (.bool m.mode) ∧ w'.cell? (x.add k) = some (.int .u8 V)) (go_keep) (first | (go_at_call 32; refine (C.out _).mono ?_; rintro e v1 ⟨rfl, q1⟩; have c1 := blk_cell (blk_kept q1 (blk_drew hB.out)); have hc1 := (q1.cell (x := x.add k) (by rw [addB]; exact hx1)).trans hc0; have K1 := hid ((((Kept.refl w).alloc _).drew).trans q1)))
  all_goals
    go_wp2
    go_ret
    exact ⟨rfl, K1.out⟩
set_option maxRecDepth 100000 in
set_option maxHeartbeats 4000000 in
theorem rcread_reg (s : Cs) (xi : Option Addr) (ci : Nat) (xr : Option Addr) (cr : Nat) (a : Int) (w : World) (a0 : 0 ≤ a) (a1 : a ≤ 65535) (O : CsOk s) (ri : Row w xi s.img) (li : s.img.length ≤ ci) (mi : ci ≤ maxLen) (rr : Row w xr s.ram) (lr : s.ram.length ≤ cr) (mr : cr ≤ maxLen) (hs : s.is = true) (ha : ¬ a < 32768) (hr : regS s a ≠ 0) : Calls Tryd.prog 13 #[rcV s xi ci xr cr, .int .u16 a] w fun e w' => e = .returned (.int .u8 (readS s a)) ∧ Kept w w' := by
  have E : readS s a = readC s.held (regS s a) := by unfold readS; rw [if_neg (by rw [hs]; decide), if_neg ha, if_pos hr]
  rw [E]
  have C1 := hid (fun u => rcreg_any s xi ci xr cr a u a0 a1 O.m)
  have C2 := hid (fun u => rread_any s.held (regS s a) u O.held)
  generalize regS s a = R at *
  obtain ⟨is, ⟨h0, h1, h2, h3, h4, h5, h6, h7, h8, h9⟩, img, ram, m, live, held, last⟩ := s
  simp only at hs C2
  subst hs
  generalize readC held R = V at *
  generalize regE R = RE at *
  have hB := hid (blk_new w (rcL ⟨true, ⟨h0, h1, h2, h3, h4, h5, h6, h7, h8, h9⟩, img, ram, m, live, held, last⟩ xi ci xr cr) 36)
  have B0 := hB.out
  have d1 : decide (a < 32768) = false := decide_eq_false ha
  have d2 : (R != 0) = true := by simpa using hr
  clear E O ri rr
  go_enter Tryd.func13, Tryd.ntmps13
  go_wp2_with ((with_reducible refine at_ld 36 ?_); refine wl_load0 rfl rfl rfl B0 Tryd.underlying36 rfl (by kernel_rfl) ?_)
  refine (C1.out _).mono ?_
  rintro e u1 ⟨rfl, k1⟩
  have K1 := hid (((Kept.refl w).alloc _).trans k1)
  have B1 := hid (blk_kept k1 hB.out)
  have c1 := blk_cell B1.out
  clear k1 B0
  go_wp2_with fail
  refine (C2.out _).mono ?_
  rintro e u2 ⟨rfl, g2⟩
  have K2 := hid (K1.out.trans (Kept.of g2))
  clear g2
  go_wp2
  go_ret
  exact ⟨rfl, K2.out⟩
set_option maxRecDepth 100000 in
set_option maxHeartbeats 4000000 in
theorem rcread_ram (s : Cs) (xi : Option Addr) (ci : Nat) (xr : Option Addr) (cr : Nat) (a : Int) (w : World) (a0 : 0 ≤ a) (a1 : a ≤ 65535) (O : CsOk s) (ri : Row w xi s.img) (li : s.img.length ≤ ci) (mi : ci ≤ maxLen) (rr : Row w xr s.ram) (lr : s.ram.length ≤ cr) (mr : cr ≤ maxLen) (hs : s.is = true) (ha : ¬ a < 32768) (hr : regS s a = 0) : Calls Tryd.prog 13 #[rcV s xi ci xr cr, .int .u16 a] w fun e w' => e = .returned (.int .u8 (readS s a)) ∧ Kept w w' := by
  have E : readS s a = if ramS s a < 0 then 255 else s.ram.getD (ramS s a).toNat 0 := by unfold readS; rw [if_neg (by rw [hs]; decide), if_neg ha, if_neg (by rw [hr]; decide)]
  have rl := O.rlen
  have C1 := hid (fun u => rcreg_any s xi ci xr cr a u a0 a1 O.m)
  rw [hr] at C1
  have C2 := hid (fun u => rram_any s.m a (s.ram.length : Int) u a0 a1 (by omega) (by omega) O.m)
  have d1 : decide (a < 32768) = false := decide_eq_false ha
  have hB := hid (blk_new w (rcL s xi ci xr cr) 36)
  have B0 := hB.out
  rcases ram_in s a with q | ⟨q0, q1⟩
  · have E2 : readS s a = 255 := by rw [E, q, if_pos (by decide)]
    rw [E2]
    rw [show ramM s.m a (s.ram.length : Int) = -1 from q] at C2
    obtain ⟨is, ⟨h0, h1, h2, h3, h4, h5, h6, h7, h8, h9⟩, img, ram, m, live, held, last⟩ := s
    simp only at hs C2
    subst hs
    clear E E2 O ri rr q
    go_enter Tryd.func13, Tryd.ntmps13
    go_wp2_with ((with_reducible refine at_ld 36 ?_); refine wl_load0 rfl rfl rfl B0 Tryd.underlying36 rfl (by kernel_rfl) ?_)
    refine (C1.out _).mono ?_
    rintro e u1 ⟨rfl, k1⟩
    have K1 := hid (((Kept.refl w).alloc _).trans k1)
    have B1 := hid (blk_kept k1 hB.out)
    have c1 := blk_cell B1.out
    clear k1 B0
    go_wp2_with fail
    refine (C2.out _).mono ?_
    rintro e u2 ⟨rfl, k2⟩
    have K2 := hid (K1.out.trans k2)
    clear k2
    go_wp2
    go_ret
    exact ⟨rfl, K2.out⟩
  · obtain ⟨k, hk⟩ : ∃ k : Nat, ramS s a = (k : Int) := ⟨(ramS s a).toNat, by omega⟩
    have hk2 : k < s.ram.length := by omega
    obtain ⟨x, rfl, hx, hc⟩ := row_cell rr k hk2
    have E2 : readS s a = s.ram.getD k 0 := by rw [E, hk, if_neg (by omega), Int.toNat_natCast]
    rw [E2]
    rw [show ramM s.m a (s.ram.length : Int) = (k : Int) from hk] at C2
    obtain ⟨is, ⟨h0, h1, h2, h3, h4, h5, h6, h7, h8, h9⟩, img, ram, m, live, held, last⟩ := s
    simp only at hs C2 hk2 lr rl hc
    subst hs
    generalize ram.getD k 0 = V at *
    have hk3 : (k : Int) < (ram.length : Int) := by omega
    have d3 : decide ((k : Int) < 0) = false := decide_eq_false (by omega)
    clear E E2 O ri rr q0 q1 hk
    go_enter Tryd.func13, Tryd.ntmps13
    go_wp2_with ((with_reducible refine at_ld 36 ?_); refine wl_load0 rfl rfl rfl B0 Tryd.underlying36 rfl (by kernel_rfl) ?_)
    refine (C1.out _).mono ?_
    rintro e u1 ⟨rfl, k1⟩
    have K1 := hid (((Kept.refl w).alloc _).trans k1)
    have B1 := hid (blk_kept k1 hB.out)
    have c1 := blk_cell B1.out
    clear k1 B0
    go_wp2_with fail
    refine (C2.out _).mono ?_
    rintro e u2 ⟨rfl, k2⟩
    have K2 := hid (K1.out.trans k2)
    have c2 := blk_cell (blk_kept k2 B1.out)
    have hc2 := (K2.out.cell (x := x.add k) (by rw [addB]; exact hx)).trans hc
    clear k2 c1
    go_wp2
    go_ret
    exact ⟨rfl, K2.out⟩
theorem rcread_any (s : Cs) (xi : Option Addr) (ci : Nat) (xr : Option Addr) (cr : Nat) (a : Int) (w : World) (a0 : 0 ≤ a) (a1 : a ≤ 65535) (O : CsOk s) (ri : Row w xi s.img) (li : s.img.length ≤ ci) (mi : ci ≤ maxLen) (rr : Row w xr s.ram) (lr : s.ram.length ≤ cr) (mr : cr ≤ maxLen) : Calls Tryd.prog 13 #[rcV s xi ci xr cr, .int .u16 a] w fun e w' => e = .returned (.int .u8 (readS s a)) ∧ Kept w w' := by
  cases hs : s.is
  · exact rcread_no s xi ci xr cr a w a0 a1 O ri li mi rr lr mr hs
  by_cases ha : a < 32768
  · exact rcread_low s xi ci xr cr a w a0 a1 O ri li mi rr lr mr hs ha
  by_cases hr : regS s a = 0
  · exact rcread_ram s xi ci xr cr a w a0 a1 O ri li mi rr lr mr hs ha hr
  · exact rcread_reg s xi ci xr cr a w a0 a1 O ri li mi rr lr mr hs ha hr
end Go.Proofs.YtfmddnekooojkaaDoor
namespace Go.Proofs.YtfmddnekooojkaaDoor
open Go.RowKit
set_option linter.unusedVariables false
set_option linter.unusedSimpArgs false

end Go.Proofs.YtfmddnekooojkaaDoor
