/- What alike of the laws of layer 10 comes to. A cartridge of the program's and one of the document's beside each other. CartPlays, as a walk. -/
import Derived.Test.YtfmddnekooojkaaGreatDoorG40
import Derived.Test.YtfmddnekooojkaaGreatDoorG33
import Derived.Test.YtfmddnekooojkaaGreatDoorG25
namespace Go.Proofs.YtfmddnekooojkaaGreatDoor
open Go.RowKit
set_option linter.unusedVariables false
set_option linter.unusedSimpArgs false

set_option maxRecDepth 100000 in
set_option maxHeartbeats 8000000 in
theorem kalike_any (s : Cs) (v : Value) (F : Nat → Prop) (xi : Option Addr) (ci : Nat) (xr : Option Addr) (cr : Nat) (w : World) (h : CartAt w s v F) (sr : Sl w xr cr s.ram) :
    Calls Tryz.prog 17 #[v, rcV s xi ci xr cr] w fun e w' => e = .returned (.bool true) ∧ Kept w w' := by
  have C1 := hid (fun u (g : Kept w u) => kstate_any s v F u (cart_kept h g))
  have C2 := hid (fun u (g : Kept w u) => kram_any s v F u (cart_kept h g))
  have CV := hid (fun u (g : Kept w u) => conv_sl (sl_kept g sr))
  clear h sr
  go_enter Tryz.func17, Tryz.ntmps17
  go_wp2_with fail
  refine (C1.out _ ((Kept.refl w).alloc _)).mono ?_
  rintro e u1 ⟨rfl, k1⟩
  have K1 := hid (((Kept.refl w).alloc _).trans k1)
  have B1 := blk_kept k1 (blk_new w (rcL s xi ci xr cr) 37)
  have z1 := blk_lt B1
  have B2 : Blk (((u1.alloc (.cells ([.int .i64 s.m.kind, .bool s.m.op, .int .u8 s.m.low, .int .u8 s.m.high, .int .u8 s.m.ram, .bool s.m.mode] : List Value).toArray 33)).alloc (.cells ([.int .u8 s.live.sec, .int .u8 s.live.min, .int .u8 s.live.hour, .int .u16 s.live.day, .bool s.live.halt, .bool s.live.carry] : List Value).toArray 35)).alloc (.cells ([.int .u8 s.held.sec, .int .u8 s.held.min, .int .u8 s.held.hour, .int .u16 s.held.day, .bool s.held.halt, .bool s.held.carry] : List Value).toArray 35)) w.heap.size 37 (rcL s xi ci xr cr) := blk_past (blk_past (blk_past B1 _) _) _
  have M2 : Blk (((u1.alloc (.cells ([.int .i64 s.m.kind, .bool s.m.op, .int .u8 s.m.low, .int .u8 s.m.high, .int .u8 s.m.ram, .bool s.m.mode] : List Value).toArray 33)).alloc (.cells ([.int .u8 s.live.sec, .int .u8 s.live.min, .int .u8 s.live.hour, .int .u16 s.live.day, .bool s.live.halt, .bool s.live.carry] : List Value).toArray 35)).alloc (.cells ([.int .u8 s.held.sec, .int .u8 s.held.min, .int .u8 s.held.hour, .int .u16 s.held.day, .bool s.held.halt, .bool s.held.carry] : List Value).toArray 35)) u1.heap.size 33 [.int .i64 s.m.kind, .bool s.m.op, .int .u8 s.m.low, .int .u8 s.m.high, .int .u8 s.m.ram, .bool s.m.mode] := blk_past (blk_past (blk_new u1 _ _) _) _
  have L2 : Blk (((u1.alloc (.cells ([.int .i64 s.m.kind, .bool s.m.op, .int .u8 s.m.low, .int .u8 s.m.high, .int .u8 s.m.ram, .bool s.m.mode] : List Value).toArray 33)).alloc (.cells ([.int .u8 s.live.sec, .int .u8 s.live.min, .int .u8 s.live.hour, .int .u16 s.live.day, .bool s.live.halt, .bool s.live.carry] : List Value).toArray 35)).alloc (.cells ([.int .u8 s.held.sec, .int .u8 s.held.min, .int .u8 s.held.hour, .int .u16 s.held.day, .bool s.held.halt, .bool s.held.carry] : List Value).toArray 35)) (u1.heap.size + 1) 35 [.int .u8 s.live.sec, .int .u8 s.live.min, .int .u8 s.live.hour, .int .u16 s.live.day, .bool s.live.halt, .bool s.live.carry] := blk_past (by have h := blk_new (u1.alloc (.cells ([.int .i64 s.m.kind, .bool s.m.op, .int .u8 s.m.low, .int .u8 s.m.high, .int .u8 s.m.ram, .bool s.m.mode] : List Value).toArray 33)) [.int .u8 s.live.sec, .int .u8 s.live.min, .int .u8 s.live.hour, .int .u16 s.live.day, .bool s.live.halt, .bool s.live.carry] 35; rw [World.size_alloc] at h; exact h) _
  have H2 : Blk (((u1.alloc (.cells ([.int .i64 s.m.kind, .bool s.m.op, .int .u8 s.m.low, .int .u8 s.m.high, .int .u8 s.m.ram, .bool s.m.mode] : List Value).toArray 33)).alloc (.cells ([.int .u8 s.live.sec, .int .u8 s.live.min, .int .u8 s.live.hour, .int .u16 s.live.day, .bool s.live.halt, .bool s.live.carry] : List Value).toArray 35)).alloc (.cells ([.int .u8 s.held.sec, .int .u8 s.held.min, .int .u8 s.held.hour, .int .u16 s.held.day, .bool s.held.halt, .bool s.held.carry] : List Value).toArray 35)) (u1.heap.size + 1 + 1) 35 [.int .u8 s.held.sec, .int .u8 s.held.min, .int .u8 s.held.hour, .int .u16 s.held.day, .bool s.held.halt, .bool s.held.carry] := by have h := blk_new ((u1.alloc (.cells ([.int .i64 s.m.kind, .bool s.m.op, .int .u8 s.m.low, .int .u8 s.m.high, .int .u8 s.m.ram, .bool s.m.mode] : List Value).toArray 33)).alloc (.cells ([.int .u8 s.live.sec, .int .u8 s.live.min, .int .u8 s.live.hour, .int .u16 s.live.day, .bool s.live.halt, .bool s.live.carry] : List Value).toArray 35)) [.int .u8 s.held.sec, .int .u8 s.held.min, .int .u8 s.held.hour, .int .u16 s.held.day, .bool s.held.halt, .bool s.held.carry] 35; rw [World.size_alloc, World.size_alloc] at h; exact h
  have K2 := hid (((K1.out.alloc (.cells ([.int .i64 s.m.kind, .bool s.m.op, .int .u8 s.m.low, .int .u8 s.m.high, .int .u8 s.m.ram, .bool s.m.mode] : List Value).toArray 33)).alloc (.cells ([.int .u8 s.live.sec, .int .u8 s.live.min, .int .u8 s.live.hour, .int .u16 s.live.day, .bool s.live.halt, .bool s.live.carry] : List Value).toArray 35)).alloc (.cells ([.int .u8 s.held.sec, .int .u8 s.held.min, .int .u8 s.held.hour, .int .u16 s.held.day, .bool s.held.halt, .bool s.held.carry] : List Value).toArray 35))
  clear k1 B1
  go_wp2_with fail
  obtain ⟨W3, hW⟩ : ∃ W, (((u1.alloc (.cells ([.int .i64 s.m.kind, .bool s.m.op, .int .u8 s.m.low, .int .u8 s.m.high, .int .u8 s.m.ram, .bool s.m.mode] : List Value).toArray 33)).alloc (.cells ([.int .u8 s.live.sec, .int .u8 s.live.min, .int .u8 s.live.hour, .int .u16 s.live.day, .bool s.live.halt, .bool s.live.carry] : List Value).toArray 35)).alloc (.cells ([.int .u8 s.held.sec, .int .u8 s.held.min, .int .u8 s.held.hour, .int .u16 s.held.day, .bool s.held.halt, .bool s.held.carry] : List Value).toArray 35)) = W := ⟨_, rfl⟩
  rw [hW] at B2 M2 L2 H2 K2
  rw [show (((u1.alloc (.cells #[.int .i64 s.m.kind, .bool s.m.op, .int .u8 s.m.low, .int .u8 s.m.high, .int .u8 s.m.ram, .bool s.m.mode] 33)).alloc (.cells #[.int .u8 s.live.sec, .int .u8 s.live.min, .int .u8 s.live.hour, .int .u16 s.live.day, .bool s.live.halt, .bool s.live.carry] 35)).alloc (.cells #[.int .u8 s.held.sec, .int .u8 s.held.min, .int .u8 s.held.hour, .int .u16 s.held.day, .bool s.held.halt, .bool s.held.carry] 35)) = W3 from hW]
  clear hW
  have HB := hid B2
  have HM := hid M2
  have HL := hid L2
  have HH := hid H2
  have qb := blk_cell B2
  have qm := blk_cell M2
  have ql := blk_cell L2
  have qh := blk_cell H2
  have c2 := CV.out _ K2.out.drew
  clear B2 M2 L2 H2
  go_region_held (fun w' => w'.cell? ⟨w.heap.size, 12, none⟩ = some (.slice xr s.ram.length cr) ∧ w'.cell? ⟨w.heap.size, 13, none⟩ = some (.int .i64 s.m.kind) ∧ w'.cell? ⟨w.heap.size, 14, none⟩ = some (.bool s.m.op) ∧ w'.cell? ⟨w.heap.size, 15, none⟩ = some (.int .u8 s.m.low) ∧ w'.cell? ⟨w.heap.size, 16, none⟩ = some (.int .u8 s.m.high) ∧ w'.cell? ⟨w.heap.size, 17, none⟩ = some (.int .u8 s.m.ram) ∧ w'.cell? ⟨w.heap.size, 18, none⟩ = some (.bool s.m.mode) ∧ w'.cell? ⟨w.heap.size, 19, none⟩ = some (.int .u8 s.live.sec) ∧ w'.cell? ⟨w.heap.size, 20, none⟩ = some (.int .u8 s.live.min) ∧ w'.cell? ⟨w.heap.size, 21, none⟩ = some (.int .u8 s.live.hour) ∧ w'.cell? ⟨w.heap.size, 22, none⟩ = some (.int .u16 s.live.day) ∧ w'.cell? ⟨w.heap.size, 23, none⟩ = some (.bool s.live.halt) ∧ w'.cell? ⟨w.heap.size, 24, none⟩ = some (.bool s.live.carry) ∧ w'.cell? ⟨w.heap.size, 25, none⟩ = some (.int .u8 s.held.sec) ∧ w'.cell? ⟨w.heap.size, 26, none⟩ = some (.int .u8 s.held.min) ∧ w'.cell? ⟨w.heap.size, 27, none⟩ = some (.int .u8 s.held.hour) ∧ w'.cell? ⟨w.heap.size, 28, none⟩ = some (.int .u16 s.held.day) ∧ w'.cell? ⟨w.heap.size, 29, none⟩ = some (.bool s.held.halt) ∧ w'.cell? ⟨w.heap.size, 30, none⟩ = some (.bool s.held.carry) ∧ w'.cell? ⟨u1.heap.size, 0, none⟩ = some (.int .i64 s.m.kind) ∧ w'.cell? ⟨u1.heap.size, 1, none⟩ = some (.bool s.m.op) ∧ w'.cell? ⟨u1.heap.size, 2, none⟩ = some (.int .u8 s.m.low) ∧ w'.cell? ⟨u1.heap.size, 3, none⟩ = some (.int .u8 s.m.high) ∧ w'.cell? ⟨u1.heap.size, 4, none⟩ = some (.int .u8 s.m.ram) ∧ w'.cell? ⟨u1.heap.size, 5, none⟩ = some (.bool s.m.mode) ∧ w'.cell? ⟨u1.heap.size + 1, 0, none⟩ = some (.int .u8 s.live.sec) ∧ w'.cell? ⟨u1.heap.size + 1, 1, none⟩ = some (.int .u8 s.live.min) ∧ w'.cell? ⟨u1.heap.size + 1, 2, none⟩ = some (.int .u8 s.live.hour) ∧ w'.cell? ⟨u1.heap.size + 1, 3, none⟩ = some (.int .u16 s.live.day) ∧ w'.cell? ⟨u1.heap.size + 1, 4, none⟩ = some (.bool s.live.halt) ∧ w'.cell? ⟨u1.heap.size + 1, 5, none⟩ = some (.bool s.live.carry) ∧ w'.cell? ⟨u1.heap.size + 1 + 1, 0, none⟩ = some (.int .u8 s.held.sec) ∧ w'.cell? ⟨u1.heap.size + 1 + 1, 1, none⟩ = some (.int .u8 s.held.min) ∧ w'.cell? ⟨u1.heap.size + 1 + 1, 2, none⟩ = some (.int .u8 s.held.hour) ∧ w'.cell? ⟨u1.heap.size + 1 + 1, 3, none⟩ = some (.int .u16 s.held.day) ∧ w'.cell? ⟨u1.heap.size + 1 + 1, 4, none⟩ = some (.bool s.held.halt) ∧ w'.cell? ⟨u1.heap.size + 1 + 1, 5, none⟩ = some (.bool s.held.carry) ∧ (convert 22 9 (.slice xr s.ram.length cr)).run Tryz.prog w' = .ok (.string (strB s.ram)) w') (go_keep) (first | (go_at_call 45; refine (C2.out _ K2.out.drew).mono ?_; rintro e v1 ⟨r1, rfl, o1, k1⟩; have rb := blk_cell (blk_kept k1 (blk_drew HB.out)); have rm := blk_cell (blk_kept k1 (blk_drew HM.out)); have rl := blk_cell (blk_kept k1 (blk_drew HL.out)); have rh := blk_cell (blk_kept k1 (blk_drew HH.out)); have K3 := hid (K2.out.drew.trans k1); have c3 := CV.out _ K3.out; have c4 := conv_own10 o1))
  all_goals
    go_wp2
    go_ret
    exact ⟨rfl, K3.out⟩
end Go.Proofs.YtfmddnekooojkaaGreatDoor
namespace Go.Proofs.YtfmddnekooojkaaGreatDoor
open Go.RowKit
set_option linter.unusedVariables false
set_option linter.unusedSimpArgs false

/-- The program's cartridge v is in the state s, the document's in the state t, in the variable bD. -/
structure PlI (w0 w : World) (v : Value) (bD : Nat) (s t : Cs) (F : Nat → Prop) (xi : Option Addr) (ci : Nat) (xr : Option Addr) (cr : Nat) : Prop where
  cart : CartAt w s v F
  low : ∀ k, F k → w0.heap.size ≤ k
  blk : Blk w bD 37 (rcL t xi ci xr cr)
  base : w0.heap.size ≤ bD
  nF : ¬ F bD
  si : Sl w xi ci t.img
  oi : Off (fun k => F k ∨ k = bD) xi t.img
  sr : Sl w xr cr t.ram
  or : Off (fun k => F k ∨ k = bD) xr t.ram
  kept : Kept w0 w
/-- A slice of bytes that neither of them writes into. -/
structure Bs (w : World) (F : Nat → Prop) (bD : Nat) (a : Option Addr) (cap : Nat) (z : List Int) : Prop where
  sl : Sl w a cap z
  off : Off (fun k => F k ∨ k = bD) a z
theorem off_sub {F G : Nat → Prop} {a : Option Addr} {z : List Int} (h : Off F a z) (hs : ∀ k, G k → F k) : Off G a z := by
  rcases h with h | h
  · exact .inl h
  · exact .inr fun x hx q => h x hx (hs _ q)
theorem Bs.kept {w u : World} {F : Nat → Prop} {bD : Nat} {a : Option Addr} {cap : Nat} {z : List Int} (h : Bs w F bD a cap z) (k : Kept w u) : Bs u F bD a cap z := ⟨sl_kept k h.sl, h.off⟩
theorem Bs.cart {w u : World} {F G : Nat → Prop} {bD : Nat} {a : Option Addr} {cap : Nat} {z : List Int} (h : Bs w F bD a cap z) (k : KeptX F w u) (hG : ∀ k, G k → F k ∨ w.heap.size ≤ k) : Bs u G bD a cap z :=
  ⟨slX k h.sl (off_sub h.off fun _ q => .inl q), off_grow h.sl.row h.off fun k q => by
    rcases q with q | q
    · rcases hG k q with q | q
      · exact .inl (.inl q)
      · exact .inr q
    · exact .inl (.inr q)⟩
theorem Bs.put {w u : World} {F : Nat → Prop} {bD : Nat} {t : TypeId} {cs : List Value} {a : Option Addr} {cap : Nat} {z : List Int} (h : Bs w F bD a cap z) (p : Put w bD t cs u) : Bs u F bD a cap z :=
  ⟨slX (p.keptX (fun k => k = bD) w (KeptX.refl w) (.inl rfl)) h.sl (off_sub h.off fun _ q => .inr q), h.off⟩
theorem PlI.go {w0 w u : World} {v : Value} {bD : Nat} {s t : Cs} {F : Nat → Prop} {xi : Option Addr} {ci : Nat} {xr : Option Addr} {cr : Nat} (h : PlI w0 w v bD s t F xi ci xr cr) (k : Kept w u) : PlI w0 u v bD s t F xi ci xr cr :=
  ⟨cart_kept h.cart k, h.low, blk_kept k h.blk, h.base, h.nF, sl_kept k h.si, h.oi, sl_kept k h.sr, h.or, h.kept.trans k⟩
/-- The program's cartridge has done something. -/
theorem PlI.does {w0 w u : World} {v : Value} {bD : Nat} {s s2 t : Cs} {F G : Nat → Prop} {xi : Option Addr} {ci : Nat} {xr : Option Addr} {cr : Nat} (h : PlI w0 w v bD s t F xi ci xr cr) (c : CartAt u s2 v G) (k : KeptX F w u) (hG : ∀ k, G k → F k ∨ w.heap.size ≤ k) : PlI w0 u v bD s2 t G xi ci xr cr := by
  have b1 : Bs w F bD xi ci t.img := ⟨h.si, h.oi⟩
  have b2 : Bs w F bD xr cr t.ram := ⟨h.sr, h.or⟩
  refine ⟨c, fun j q => ?_, blkX k h.blk h.nF, h.base, fun q => ?_, (b1.cart k hG).sl, (b1.cart k hG).off, (b2.cart k hG).sl, (b2.cart k hG).off, k.kept h.kept h.low⟩
  · rcases hG j q with q | q
    · exact h.low j q
    · exact Nat.le_trans h.kept.size q
  · rcases hG bD q with q | q
    · exact h.nF q
    · have := blk_lt h.blk; omega
/-- The document's cartridge has done something, and lies in its variable again. -/
theorem PlI.put {w0 w u w2 : World} {v : Value} {bD : Nat} {s t t2 : Cs} {F : Nat → Prop} {xi : Option Addr} {ci : Nat} {xr : Option Addr} {cr : Nat} (h : PlI w0 w v bD s t F xi ci xr cr) (k : Kept w u) {yr : Option Addr} {dr : Nat} (hi : t2.img = t.img) (sr : Sl u yr dr t2.ram) (hn : yr = xr ∧ t2.ram.length = t.ram.length ∨ Newer w.heap.size yr) (hl : CartAt w s v F)
    (p : Put u bD 37 (rcL t2 xi ci yr dr) w2) : PlI w0 w2 v bD s t2 F xi ci yr dr := by
  have g := h.go k
  have b1 : Bs u F bD xi ci t.img := ⟨g.si, g.oi⟩
  have b2 : Bs u F bD yr dr t2.ram := ⟨sr, by
    rcases hn with ⟨e, e2⟩ | hn
    · rcases h.or with q | q
      · rw [q] at e2; exact .inl (List.eq_nil_of_length_eq_zero e2)
      · rw [e]; exact .inr q
    · exact .inr fun x hx q => by
        have := hn x hx
        rcases q with q | q
        · have := cart_lt hl _ q; omega
        · have := blk_lt h.blk; omega⟩
  have hk := p.keptX (fun j => j = bD) u (KeptX.refl u) (.inl rfl)
  refine ⟨cart_keep g.cart hk (fun j q e => h.nF (e ▸ q)), h.low, p.blk, h.base, h.nF, by rw [hi]; exact (b1.put p).sl, by rw [hi]; exact (b1.put p).off, (b2.put p).sl, (b2.put p).off, p.kept _ g.kept h.base⟩
/-- Both have just been made. -/
theorem pl_start {w u1 u2 u3 u4 : World} {v : Value} {F : Nat → Prop} {s : Cs} {a0 : Option Addr} {z0 : List Int} {xi : Option Addr} {ci : Nat} {xr : Option Addr} {cr : Nat} {o : Obj} (r0 : Row w a0 z0) (him : s.img = z0 ∨ s.img = []) (K1 : Kept w u1) (k2 : Kept u1 u2) (k3 : Kept u2 u3) (hc : CartAt u2 s v F) (hF : ∀ k, F k → u1.heap.size ≤ k)
    (hxi : xi = a0 ∨ xi = none) (si : Sl u3 xi ci s.img) (sr : Sl u3 xr cr s.ram) (nr : Newer u2.heap.size xr) (p : Put (u3.alloc o) u3.heap.size 37 (rcL s xi ci xr cr) u4) : PlI w u4 v u3.heap.size s s F xi ci xr cr := by
  have c1 := K1.size
  have c2 := k2.size
  have c3 := k3.size
  have low : ∀ k, F k → w.heap.size ≤ k := fun k q => by have := hF k q; omega
  have lt := cart_lt hc
  have k4 := p.keptX (fun j => j = u3.heap.size) u3 ((KeptX.refl u3).alloc o) (.inl rfl)
  have oi : Off (fun k => F k ∨ k = u3.heap.size) xi s.img := by
    rcases hxi with e | e
    · rcases him with q | q
      · rw [q, e]
        refine off_of r0 (fun k h => ?_)
        rcases h with h | h
        · exact low k h
        · omega
      · exact .inl q
    · exact .inr fun x hx => by rw [e] at hx; cases hx
  have or : Off (fun k => F k ∨ k = u3.heap.size) xr s.ram := by
    rcases sr.row.2.2 with q | ⟨x, e, hx, _⟩
    · exact .inl q
    · exact .inr fun y hy q => by
        rw [e] at hy
        cases hy
        have := nr x e
        rcases q with q | q
        · have := lt _ q; omega
        · omega
  refine ⟨cart_keep (cart_kept hc k3) k4 (fun j q e => by have := lt j q; omega), low, p.blk, by omega, fun q => by have := lt _ q; omega, slX k4 si (off_sub oi fun _ q => .inr q), oi, slX k4 sr (off_sub or fun _ q => .inr q), or, p.kept _ (((K1.trans k2).trans k3).alloc o) (by omega)⟩
end Go.Proofs.YtfmddnekooojkaaGreatDoor
namespace Go.Proofs.YtfmddnekooojkaaGreatDoor
open Go.RowKit
set_option linter.unusedVariables false
set_option linter.unusedSimpArgs false

set_option maxRecDepth 100000 in
set_option maxHeartbeats 8000000 in
theorem plays_any (a0 : Option Addr) (cap0 : Nat) (z0 : List Int) (a1 : Option Addr) (cap1 : Nat) (s1 : List Ac) (w : World) (lay : Lay7 w) (r0 : Row w a0 z0) (l0 : z0.length ≤ cap0) (m0 : cap0 ≤ maxLen) (n0 : a0 = none → cap0 = 0) (r1 : FRow w a1 4 (s1.map elA)) (q1 : ∀ x ∈ s1, AcIn w x) (l1 : s1.length ≤ cap1) (m1 : cap1 ≤ maxLen) :
    Calls Tryz.prog 3 #[.slice a0 z0.length cap0, .slice a1 s1.length cap1] w fun e w' => e = .returned (.bool true) ∧ Kept w w' := by
  have S := hid (kshown_any w lay)
  have SB : Sl w a0 cap0 z0 := ⟨r0, l0, m0, n0⟩
  have C1 := hid (fun u (g : Kept w u) => knew_any z0 a0 cap0 u (lay.kept g) (sl_kept g SB))
  have C2 := hid (fun u (g : Kept w u) => rcnew_any z0 a0 cap0 u (sl_kept g SB))
  have R0 := hid r0
  have IM := hid (new_img z0)
  obtain ⟨n, hn⟩ : ∃ n : Nat, s1.length = n := ⟨_, rfl⟩
  have HN := hid hn
  have FG := hid (frow_getD (⟨0, 0, 0, none, 0, []⟩ : Ac) r1)
  have WF := hid (fun j (h : j < n) => getD_mem (p := AcIn w) (⟨0, 0, 0, none, 0, []⟩ : Ac) q1 j (by rw [hn]; exact h))
  have n64 : n ≤ 9223372036854775807 := by rw [← hn]; have := m1; unfold maxLen at this; omega
  rw [hn] at l1 ⊢
  clear hn r1 q1 r0
  generalize newC z0 = S0 at *
  generalize parseE z0 = P at *
  go_enter Tryz.func3, Tryz.ntmps3
  go_wp2_with fail
  refine S.out.mono ?_
  rintro e u1 ⟨rfl, k1⟩
  have K1 := hid k1
  clear k1
  go_wp2_with fail
  refine (C1.out _ K1.out).mono ?_
  rintro e u2 ⟨v, F0, rfl, hv, hc, hF, k2⟩
  have K2 := hid k2
  go_wp2_with fail
  refine (C2.out _ (K1.out.trans K2.out)).mono ?_
  rintro e u3 ⟨xi, ci, xr, cr, rfl, hxi, si, sr, nr, k3⟩
  have R3 := blk_new u3 rc0 37
  have HV := hid hv
  have PS := hid (fun u4 (p : Put (u3.alloc (.cells rc0.toArray 37)) u3.heap.size 37 (rcL S0 xi ci xr cr) u4) => pl_start R0.out IM.out K1.out K2.out k3 hc hF hxi si sr nr p)
  clear k2 k3 hc hF hxi si sr nr hv
  go_wp2_with (((with_reducible refine at_st 37 ?_); refine wl_store rfl rfl rfl rfl R3 (by kernel_rfl) rfl (Nat.le_of_ble_eq_true rfl) (fun u4 p4 => ?_); have I4 := hid (PS.out u4 p4); clear p4 R3 PS; refine Hid.out ?_))
  refine hid ?_
  generalize u3.heap.size = bD at *
  clear S C1 C2 R0 IM K1 K2 SB
  have hq1 : ∀ u, (eqGuard .eql 25 (.tmp 37) (.const (.pointer none)) v (.pointer none)).run Tryz.prog u = .ok () u := by
    rcases HV.out with ⟨hP, rfl⟩ | ⟨hP, p, rfl⟩
    · intro u; kernel_rfl
    · intro u; kernel_rfl
  have hq2 : ∀ u, (binOp .eql 25 v (.pointer none)).run Tryz.prog u = .ok (.bool (P != 0)) u := by
    rcases HV.out with ⟨hP, rfl⟩ | ⟨hP, p, rfl⟩
    · intro u; rw [show (P != 0) = true by simpa using hP]; kernel_rfl
    · intro u; rw [hP]; kernel_rfl
  clear HV
  go_wp2_with fail
  clear hq1 hq2
  go_loopw [10, 11] (fun lv iv wr => ∃ (j : Nat) (s : Cs) (F : Nat → Prop) (xi : Option Addr) (ci : Nat) (xr : Option Addr) (cr : Nat) (al : Option Addr) (cl : Nat) (zl : List Int), j ≤ n ∧ iv = .int .i64 (j : Int) ∧ lv = .slice al zl.length cl ∧ PlI w wr v bD s s F xi ci xr cr ∧ Bs wr F bD al cl zl) (fun _ iv _ => n - (intOf iv).toNat)
  case atStart => exact ⟨0, S0, F0, xi, ci, xr, cr, none, 0, [], Nat.zero_le _, rfl, rfl, I4.out, ⟨sl_nil _, .inl rfl⟩⟩
  case round =>
    clear I4
    obtain ⟨j, s, F, xi, ci, xr, cr, al, cl, zl, hj, rfl, rfl, hI, hZ⟩ := hrel
    have I0 := hid hI
    have Z0 := hid hZ
    have OK := hid (cart_ok hI.cart)
    clear hI hZ
    by_cases hlt : j < n ∧ j < 60
    · obtain ⟨h1, h2⟩ := hlt
      have g1 : decide ((j : Int) < (n : Int)) = true := decide_eq_true (by omega)
      have g2 : decide ((j : Int) < 60) = true := decide_eq_true (by omega)
      have g3 : (j : Int) < (n : Int) := by omega
      obtain ⟨x, rfl, hx, hc⟩ := FG.out (by rw [HN.out]; omega)
      have c0 := hc j (by rw [HN.out]; exact h1) 0 (by decide)
      have c1 := hc j (by rw [HN.out]; exact h1) 1 (by decide)
      have c2 := hc j (by rw [HN.out]; exact h1) 2 (by decide)
      have c3 := hc j (by rw [HN.out]; exact h1) 3 (by decide)
      have Y := WF.out j h1
      obtain ⟨y, hy⟩ : ∃ y, s1.getD j ⟨0, 0, 0, none, 0, []⟩ = y := ⟨_, rfl⟩
      rw [hy] at c0 c1 c2 c3 Y
      obtain ⟨K, A, V, pb, cb, zb⟩ := y
      simp [elA] at c0 c1 c2 c3
      have xz : x.block < wr.heap.size := Nat.lt_of_lt_of_le hx I0.out.kept.size
      have off : ∀ i, 0 < i → x.add (j * 4 + i) = ⟨(x.add (j * 4)).block, (x.add (j * 4)).off + i, none⟩ := fun i hi => by rw [← addF]; unfold Addr.add; rw [if_neg (by omega)]
      have d0 := (I0.out.kept.cell (x := x.add (j * 4)) (by rw [addFB]; exact hx)).trans c0
      have d1 := (I0.out.kept.cell (x := x.add (j * 4 + 1)) (by rw [addFB]; exact hx)).trans c1
      have d2 := (I0.out.kept.cell (x := x.add (j * 4 + 2)) (by rw [addFB]; exact hx)).trans c2
      have d3 := (I0.out.kept.cell (x := x.add (j * 4 + 3)) (by rw [addFB]; exact hx)).trans c3
      rw [off _ (by decide)] at d1 d2 d3
      have A1 := hid (blk_new wr [.int .i64 K, .int .u16 A, .int .u8 V, .slice pb zb.length cb] 41)
      have I1 := hid (I0.out.go ((Kept.refl wr).alloc (.cells ([.int .i64 K, .int .u16 A, .int .u8 V, .slice pb zb.length cb] : List Value).toArray 41)))
      have Z1 := hid (Z0.out.kept ((Kept.refl wr).alloc (.cells ([.int .i64 K, .int .u16 A, .int .u8 V, .slice pb zb.length cb] : List Value).toArray 41)))
      have q1 := blk_cell A1.out
      clear hc c0 c1 c2 c3 hy off
      have kk : K = 1 ∨ K = 2 ∨ K = 3 ∨ K = 4 ∨ K = 5 ∨ K = 6 ∨ (K ≠ 1 ∧ K ≠ 2 ∧ K ≠ 3 ∧ K ≠ 4 ∧ K ≠ 5 ∧ K ≠ 6) := by omega
      rcases kk with rfl | rfl | rfl | rfl | rfl | rfl | ⟨e1, e2, e3, e4, e5, e6⟩
      · have HA := hid A1.out
        have CR1 := hid (fun u (g : Kept _ u) => kread_any s _ F A u (I1.out.go g).cart Y.a0 Y.a1)
        have CR2 := hid (fun u (g : Kept _ u) => rcread_any s xi ci xr cr A u Y.a0 Y.a1 OK.out (I1.out.go g).si.row I1.out.si.len I1.out.si.max (I1.out.go g).sr.row I1.out.sr.len I1.out.sr.max)
        generalize readS s A = RV at *
        go_wp2_with fail
        refine wp_region_held_drew (S := (fun w' => w'.cell? ⟨wr.heap.size, 1, none⟩ = some (.int .u16 A) ∧ w'.rangeAt bD 0 (rcL s xi ci xr cr))) (by kernel_rfl) ⟨by simp, (fun i u hu => by rw [blk_cell (blk_drew I1.out.blk), Nat.zero_add]; exact hu)⟩ (fun hHeld => ?_)
        refine wpAnyH_take (i := 0) (v := ?_) rfl (by kernel_rfl) (by kernel_rfl) (by kernel_rfl) (fun _ _ _ h => h) (Or.inl ⟨by rfl, ?_⟩) (by assumption) ?_
        rotate_left
        · intro w hSw
          (try dsimp only at hSw)
          go_simp
          try with_reducible rfl
        simp only [Act.put, List.getElem_toArray, List.getElem_cons_succ, List.getElem_cons_zero, List.setIfInBounds_toArray, List.set_cons_zero, List.set_cons_succ]
        refine wpAnyH_take (i := 1) (v := ?_) rfl (by kernel_rfl) (by kernel_rfl) (by kernel_rfl) (fun _ _ _ h => h) (Or.inl ⟨by rfl, ?_⟩) (by assumption) ?_
        rotate_left
        · intro w hSw
          (try dsimp only at hSw)
          go_simp
          try with_reducible rfl
        simp only [Act.put, List.getElem_toArray, List.getElem_cons_succ, List.getElem_cons_zero, List.setIfInBounds_toArray, List.set_cons_zero, List.set_cons_succ]
        refine wpAnyH_take (i := 2) (v := ?_) rfl (by kernel_rfl) (by kernel_rfl) (by kernel_rfl) (fun _ _ _ h => h) (Or.inl ⟨by rfl, ?_⟩) (by assumption) ?_
        rotate_left
        · intro w hSw
          (try dsimp only at hSw)
          go_simp
          try with_reducible rfl
        simp only [Act.put, List.getElem_toArray, List.getElem_cons_succ, List.getElem_cons_zero, List.setIfInBounds_toArray, List.set_cons_zero, List.set_cons_succ]
        refine' wpAnyH_take (i := 4) (v := _) rfl (by kernel_rfl) (by kernel_rfl) (by kernel_rfl) (fun _ _ _ h => h) (yieldsIf_load_mid (by rfl) _ _ rfl _ _ rfl (rcL s xi ci xr cr) _ (fun w' hSw => hSw.2) Tryz.underlying37 rfl (by kernel_rfl)) (by assumption) ?_
        simp only [Act.put, List.getElem_toArray, List.getElem_cons_succ, List.getElem_cons_zero, List.setIfInBounds_toArray, List.set_cons_zero, List.set_cons_succ]
        refine wpAnyH_take (i := 5) (v := ?_) rfl (by kernel_rfl) (by kernel_rfl) (by kernel_rfl) (fun _ _ _ h => h) (Or.inl ⟨by rfl, ?_⟩) (by assumption) ?_
        rotate_left
        · intro w hSw
          (try dsimp only at hSw)
          go_simp
          try with_reducible rfl
        simp only [Act.put, List.getElem_toArray, List.getElem_cons_succ, List.getElem_cons_zero, List.setIfInBounds_toArray, List.set_cons_zero, List.set_cons_succ]
        refine wpAnyH_take (i := 6) (v := ?_) rfl (by kernel_rfl) (by kernel_rfl) (by kernel_rfl) (fun _ _ _ h => h) (Or.inl ⟨by rfl, ?_⟩) (by assumption) ?_
        rotate_left
        · intro w hSw
          (try dsimp only at hSw)
          go_simp
          try with_reducible rfl
        simp only [Act.put, List.getElem_toArray, List.getElem_cons_succ, List.getElem_cons_zero, List.setIfInBounds_toArray, List.set_cons_zero, List.set_cons_succ]
        refine wpAnyH_ready (rs := [3]) (by kernel_rfl) (by simp) ?_
        refine AllReadyH.cons rfl (fun K hK => ?_) AllReadyH.nil
        go_simp
        refine (CR1.out _ (Kept.refl _).drew).mono ?_
        rintro e v1 ⟨rfl, t1⟩
        refine hK.out _ _ ⟨by rw [blk_cell (blk_kept t1 (blk_drew HA.out))]; rfl, (fun i u hu => by rw [blk_cell (blk_kept t1 (blk_drew I1.out.blk)), Nat.zero_add]; exact hu)⟩ (fun hHeld => ?_)
        clear hK K
        try simp only [Act.put, List.getElem_toArray, List.getElem_cons_succ, List.getElem_cons_zero, List.setIfInBounds_toArray, List.set_cons_zero, List.set_cons_succ]
        refine wpAnyH_ready (rs := [7]) (by kernel_rfl) (by simp) ?_
        refine AllReadyH.cons rfl (fun K hK => ?_) AllReadyH.nil
        go_simp
        refine (CR2.out _ ((Kept.refl _).drew.trans t1)).mono ?_
        rintro e v2 ⟨rfl, t2⟩
        refine hK.out _ _ ⟨by rw [blk_cell (blk_kept t2 (blk_kept t1 (blk_drew HA.out)))]; rfl, (fun i u hu => by rw [blk_cell (blk_kept t2 (blk_kept t1 (blk_drew I1.out.blk))), Nat.zero_add]; exact hu)⟩ (fun hHeld => ?_)
        clear hK K
        try simp only [Act.put, List.getElem_toArray, List.getElem_cons_succ, List.getElem_cons_zero, List.setIfInBounds_toArray, List.set_cons_zero, List.set_cons_succ]
        refine wpAnyH_take (i := 8) (v := ?_) rfl (by kernel_rfl) (by kernel_rfl) (by kernel_rfl) (fun _ _ _ h => h) (Or.inl ⟨by rfl, ?_⟩) (by assumption) ?_
        rotate_left
        · intro w hSw
          (try dsimp only at hSw)
          go_simp
          try with_reducible rfl
        simp only [Act.put, List.getElem_toArray, List.getElem_cons_succ, List.getElem_cons_zero, List.setIfInBounds_toArray, List.set_cons_zero, List.set_cons_succ]
        refine wpAnyH_done (by kernel_rfl) ?_ _
        have I2 := hid (I1.out.go (((Kept.refl _).drew.trans t1).trans t2))
        have Z2 := hid (Z1.out.kept (((Kept.refl _).drew.trans t1).trans t2))
        clear q1
        have B2 := I2.out.blk
        go_wp2_with ((with_reducible refine at_ld 37 ?_); refine wl_load0 rfl rfl rfl B2 Tryz.underlying37 rfl (by kernel_rfl) ?_)
        refine (kalike_any _ _ _ _ _ _ _ _ I2.out.cart I2.out.sr).mono ?_
        rintro e w9 ⟨rfl, k9⟩
        have I9 := hid (I2.out.go k9)
        have Z9 := hid (Z2.out.kept k9)
        clear k9
        go_wp2
        go_roundw
        case rel => exact ⟨j + 1, _, _, _, _, _, _, _, _, _, by omega, by go_num, rfl, I9.out, Z9.out⟩
        case measure => first | omega | (simp; omega) | (simp [intOf]; omega)
      · go_wp2_with fail
        refine (kwrite_any s _ F A V _ I1.out.cart Y.a0 Y.a1 Y.v0 Y.v1).mono ?_
        rintro e u2 ⟨rfl, G, hc, kx, hG⟩
        have I2 := hid (I1.out.does hc kx hG)
        have Z2 := hid (Z1.out.cart kx hG)
        have A2 := blkX kx A1.out (fun q => Nat.lt_irrefl _ (cart_lt I0.out.cart _ q))
        have qa := blk_cell A2
        have B2 := I2.out.blk
        clear hc kx hG q1
        go_wp2_with ((with_reducible refine at_ld 37 ?_); refine wl_load0 rfl rfl rfl B2 Tryz.underlying37 rfl (by kernel_rfl) ?_)
        refine (rcwrite_any s xi ci xr cr A V _ Y.a0 Y.a1 Y.v0 Y.v1 OK.out I2.out.sr).mono ?_
        rintro e u3 ⟨yr, dr, rfl, sr3, hn3, k3⟩
        have B3 := blk_kept k3 I2.out.blk
        have Z3 := hid (Z2.out.kept k3)
        have PP := hid (fun u4 p => I2.out.put (t2 := writeS s A V) k3 (write_img s A V) sr3 (hn3.imp (fun e => ⟨e, write_rlen s A V⟩) id) I2.out.cart (p : Put u3 bD 37 _ u4))
        clear sr3 hn3 k3 B2 A2 qa
        go_wp2_with ((with_reducible refine at_st 37 ?_); refine wl_store rfl rfl rfl rfl B3 (by kernel_rfl) rfl (Nat.le_of_ble_eq_true rfl) (fun u4 p4 => ?_); have I4 := hid (PP.out u4 p4); have Z4 := hid (Z3.out.put p4); clear p4 B3 PP; refine Hid.out ?_)
        refine hid ?_
        go_wp2_with ((with_reducible refine at_ld 37 ?_); refine wl_load0 rfl rfl rfl I4.out.blk Tryz.underlying37 rfl (by kernel_rfl) ?_)
        refine (kalike_any _ _ _ _ _ _ _ _ I4.out.cart I4.out.sr).mono ?_
        rintro e w9 ⟨rfl, k9⟩
        have I9 := hid (I4.out.go k9)
        have Z9 := hid (Z4.out.kept k9)
        clear k9
        go_wp2
        go_roundw
        case rel => exact ⟨j + 1, _, _, _, _, _, _, _, _, _, by omega, by go_num, rfl, I9.out, Z9.out⟩
        case measure => first | omega | (simp; omega) | (simp [intOf]; omega)
      · go_wp2_with fail
        refine (ktick_any s _ F _ I1.out.cart).mono ?_
        rintro e u2 ⟨rfl, G, hc, kx, hG⟩
        have I2 := hid (I1.out.does hc kx hG)
        have Z2 := hid (Z1.out.cart kx hG)
        have B2 := I2.out.blk
        clear hc kx hG q1
        go_wp2_with ((with_reducible refine at_ld 37 ?_); refine wl_load0 rfl rfl rfl B2 Tryz.underlying37 rfl (by kernel_rfl) ?_)
        refine (rctick_any s xi ci xr cr _ OK.out.live).mono ?_
        rintro e u3 ⟨rfl, k3⟩
        have B3 := blk_kept k3 I2.out.blk
        have Z3 := hid (Z2.out.kept k3)
        have PP := hid (fun u4 p => I2.out.put (t2 := tickS s) k3 (tick_img s) (by rw [tick_ram]; exact sl_kept k3 I2.out.sr) (.inl ⟨rfl, by rw [tick_ram]⟩) I2.out.cart (p : Put u3 bD 37 _ u4))
        clear k3 B2
        go_wp2_with ((with_reducible refine at_st 37 ?_); refine wl_store rfl rfl rfl rfl B3 (by kernel_rfl) rfl (Nat.le_of_ble_eq_true rfl) (fun u4 p4 => ?_); have I4 := hid (PP.out u4 p4); have Z4 := hid (Z3.out.put p4); clear p4 B3 PP; refine Hid.out ?_)
        refine hid ?_
        go_wp2_with ((with_reducible refine at_ld 37 ?_); refine wl_load0 rfl rfl rfl I4.out.blk Tryz.underlying37 rfl (by kernel_rfl) ?_)
        refine (kalike_any _ _ _ _ _ _ _ _ I4.out.cart I4.out.sr).mono ?_
        rintro e w9 ⟨rfl, k9⟩
        have I9 := hid (I4.out.go k9)
        have Z9 := hid (Z4.out.kept k9)
        clear k9
        go_wp2
        go_roundw
        case rel => exact ⟨j + 1, _, _, _, _, _, _, _, _, _, by omega, by go_num, rfl, I9.out, Z9.out⟩
        case measure => first | omega | (simp; omega) | (simp [intOf]; omega)
      · go_wp2_with fail
        refine (ksave_any s _ F _ I1.out.cart).mono ?_
        rintro e u2 ⟨r, rfl, o2, k2⟩
        have O2 := hid o2
        obtain ⟨al2, cl2, rfl, sl2, nw2⟩ := own_sl o2 (save_in s OK.out)
        have I2 := hid (I1.out.go k2)
        have Z2 := hid (show Bs u2 F bD al2 cl2 (saveS s) from ⟨sl2, .inr (fun x hx q => by
          have := nw2 x hx
          rcases q with q | q
          · have := cart_lt I1.out.cart _ q; omega
          · have := blk_lt I1.out.blk; omega)⟩)
        have CS := hid (fun u (g : Kept u2 u) => rcsave_any s xi ci xr cr u OK.out (I2.out.go g).sr)
        have CV := hid (fun u (g : Kept u2 u) => conv_own10 (owns_kept g O2.out))
        clear k2 o2 sl2 nw2 q1
        go_wp2_with fail
        have c0 := CV.out _ (Kept.refl u2).drew
        refine wp_region_held_drew (S := (fun w' => w'.rangeAt bD 0 (rcL s xi ci xr cr) ∧ (convert 22 9 (.slice al2 (saveS s).length cl2)).run Tryz.prog w' = .ok (.string (strB (saveS s))) w')) (by kernel_rfl) ⟨(fun i u hu => by rw [blk_cell (blk_drew I2.out.blk), Nat.zero_add]; exact hu), c0⟩ (fun hHeld => ?_)
        refine wpAnyH_take (i := 0) (v := ?_) rfl (by kernel_rfl) (by kernel_rfl) (by kernel_rfl) (fun _ _ _ h => h) (Or.inl ⟨by rfl, ?_⟩) (by assumption) ?_
        rotate_left
        · intro w hSw
          (try dsimp only at hSw)
          go_simp
          try with_reducible rfl
        simp only [Act.put, List.getElem_toArray, List.getElem_cons_succ, List.getElem_cons_zero, List.setIfInBounds_toArray, List.set_cons_zero, List.set_cons_succ]
        refine wpAnyH_take (i := 1) (v := ?_) rfl (by kernel_rfl) (by kernel_rfl) (by kernel_rfl) (fun _ _ _ h => h) (Or.inl ⟨by rfl, ?_⟩) (by assumption) ?_
        rotate_left
        · intro w hSw
          (try dsimp only at hSw)
          go_simp
          try with_reducible rfl
        simp only [Act.put, List.getElem_toArray, List.getElem_cons_succ, List.getElem_cons_zero, List.setIfInBounds_toArray, List.set_cons_zero, List.set_cons_succ]
        refine' wpAnyH_take (i := 2) (v := _) rfl (by kernel_rfl) (by kernel_rfl) (by kernel_rfl) (fun _ _ _ h => h) (yieldsIf_load_mid (by rfl) _ _ rfl _ _ rfl (rcL s xi ci xr cr) _ (fun w' hSw => hSw.1) Tryz.underlying37 rfl (by kernel_rfl)) (by assumption) ?_
        simp only [Act.put, List.getElem_toArray, List.getElem_cons_succ, List.getElem_cons_zero, List.setIfInBounds_toArray, List.set_cons_zero, List.set_cons_succ]
        refine wpAnyH_ready (rs := [3]) (by kernel_rfl) (by simp) ?_
        refine AllReadyH.cons rfl (fun K hK => ?_) AllReadyH.nil
        go_simp
        refine (CS.out _ (Kept.refl _).drew).mono ?_
        rintro e v1 ⟨r1, rfl, o1, t1⟩
        have c1 := CV.out _ ((Kept.refl u2).drew.trans t1)
        have c2 := conv_own10 o1
        refine hK.out _ _ ⟨(fun i u hu => by rw [blk_cell (blk_kept t1 (blk_drew I2.out.blk)), Nat.zero_add]; exact hu), c1⟩ (fun hHeld => ?_)
        clear hK K
        try simp only [Act.put, List.getElem_toArray, List.getElem_cons_succ, List.getElem_cons_zero, List.setIfInBounds_toArray, List.set_cons_zero, List.set_cons_succ]
        refine wpAnyH_ready (rs := [4]) (by kernel_rfl) (by simp) ?_
        refine AllReadyH.cons rfl (fun K hK => ?_) AllReadyH.nil
        go_simp
        refine hK.out _ _ ⟨(fun i u hu => by rw [blk_cell (blk_kept t1 (blk_drew I2.out.blk)), Nat.zero_add]; exact hu), c1⟩ (fun hHeld => ?_)
        clear hK K
        try simp only [Act.put, List.getElem_toArray, List.getElem_cons_succ, List.getElem_cons_zero, List.setIfInBounds_toArray, List.set_cons_zero, List.set_cons_succ]
        refine wpAnyH_take (i := 5) (v := ?_) rfl (by kernel_rfl) (by kernel_rfl) (by kernel_rfl) (fun _ _ _ h => h) (Or.inl ⟨by rfl, ?_⟩) (by assumption) ?_
        rotate_left
        · intro w hSw
          (try dsimp only at hSw)
          go_simp
          try with_reducible rfl
        simp only [Act.put, List.getElem_toArray, List.getElem_cons_succ, List.getElem_cons_zero, List.setIfInBounds_toArray, List.set_cons_zero, List.set_cons_succ]
        refine wpAnyH_done (by kernel_rfl) ?_ _
        have I3 := hid (I2.out.go ((Kept.refl _).drew.trans t1))
        have Z3 := hid (Z2.out.kept ((Kept.refl _).drew.trans t1))
        have B3 := I3.out.blk
        clear c0 c1 c2
        go_wp2_with ((with_reducible refine at_ld 37 ?_); refine wl_load0 rfl rfl rfl B3 Tryz.underlying37 rfl (by kernel_rfl) ?_)
        refine (kalike_any _ _ _ _ _ _ _ _ I3.out.cart I3.out.sr).mono ?_
        rintro e w9 ⟨rfl, k9⟩
        have I9 := hid (I3.out.go k9)
        have Z9 := hid (Z3.out.kept k9)
        clear k9
        go_wp2
        go_roundw
        case rel => exact ⟨j + 1, _, _, _, _, _, _, _, _, _, by omega, by go_num, rfl, I9.out, Z9.out⟩
        case measure => first | omega | (simp; omega) | (simp [intOf]; omega)
      · have SB := hid (sl_kept I1.out.kept (⟨Y.row, Y.len, Y.max, Y.nil⟩ : Sl w pb cb zb))
        have OB := hid (off_of (F := F) Y.row I1.out.low)
        go_wp2_with fail
        refine (kload_any s _ F zb pb cb _ I1.out.cart SB.out OB.out).mono ?_
        rintro e u2 ⟨rfl, G, hc, kx, hG⟩
        have I2 := hid (I1.out.does hc kx hG)
        have Z2 := hid (Z1.out.cart kx hG)
        have S2 := hid (slX kx SB.out OB.out)
        have B2 := I2.out.blk
        clear hc kx hG q1
        go_wp2_with ((with_reducible refine at_ld 37 ?_); refine wl_load0 rfl rfl rfl B2 Tryz.underlying37 rfl (by kernel_rfl) ?_)
        refine (rcload_any s xi ci xr cr zb pb cb _ OK.out I2.out.sr S2.out).mono ?_
        rintro e u3 ⟨yr, dr, rfl, sr3, hn3, k3⟩
        have z3 := k3.size
        have B3 : Blk (u3.alloc (.cells rc0.toArray 37)) bD 37 (rcL s xi ci xr cr) := blk_past (blk_kept k3 I2.out.blk) _
        have N3 := blk_new u3 rc0 37
        have zb3 := blk_lt (blk_kept k3 I2.out.blk)
        generalize loadE s zb = EE at *
        have PP := hid (fun u4 u5 (p4 : Put (u3.alloc (.cells rc0.toArray 37)) u3.heap.size 37 (rcL (loadS s zb) xi ci yr dr) u4) p => I2.out.put (t2 := loadS s zb) (p4.kept _ (k3.alloc _) z3) (load_img s zb) (slX (p4.keptX (fun k => k = u3.heap.size) u3 ((KeptX.refl u3).alloc _) (.inl rfl)) sr3 (off_of sr3.row (fun k q => by omega))) (hn3.imp (fun e => ⟨e, load_rlen s zb⟩) id) I2.out.cart (p : Put u4 bD 37 _ u5))
        have ZP := hid (fun u4 (p4 : Put (u3.alloc (.cells rc0.toArray 37)) u3.heap.size 37 (rcL (loadS s zb) xi ci yr dr) u4) => Z2.out.kept (p4.kept _ (k3.alloc _) z3))
        clear sr3 hn3 k3 B2
        go_wp2_with (first
          | ((with_reducible refine at_st 37 ?_); refine wl_store rfl rfl rfl rfl N3 (by kernel_rfl) rfl (Nat.le_of_ble_eq_true rfl) (fun u4 p4 => ?_); have N4 : Blk u4 u3.heap.size 37 (rcL (loadS s zb) xi ci yr dr) := p4.blk; have B4 := p4.other _ _ _ (show bD ≠ u3.heap.size by omega) B3; have P4 := hid p4; clear p4 N3 B3)
          | ((with_reducible refine at_ld 37 ?_); refine wl_load0 rfl rfl rfl N4 Tryz.underlying37 rfl (by kernel_rfl) ?_)
          | ((with_reducible refine at_st 37 ?_); refine wl_store rfl rfl rfl rfl B4 (by kernel_rfl) rfl (Nat.le_of_ble_eq_true rfl) (fun u5 p5 => ?_); have I5 := hid (PP.out u4 u5 P4.out p5); have Z5 := hid ((ZP.out u4 P4.out).put p5); have B5 := I5.out.blk; clear p5 B4 N4 PP ZP P4)
          | ((with_reducible refine at_ld 37 ?_); refine wl_load0 rfl rfl rfl B5 Tryz.underlying37 rfl (by kernel_rfl) ?_))
        refine (kalike_any _ _ _ _ _ _ _ _ I5.out.cart I5.out.sr).mono ?_
        rintro e w9 ⟨rfl, k9⟩
        have I9 := hid (I5.out.go k9)
        have Z9 := hid (Z5.out.kept k9)
        clear k9
        go_wp2
        go_roundw
        case rel => exact ⟨j + 1, _, _, _, _, _, _, _, _, _, by omega, by go_num, rfl, I9.out, Z9.out⟩
        case measure => first | omega | (simp; omega) | (simp [intOf]; omega)
      · have SB := hid Z1.out.sl
        have OB := hid (off_sub (G := F) Z1.out.off (fun _ q => .inl q))
        go_wp2_with fail
        refine (kload_any s _ F zl al cl _ I1.out.cart SB.out OB.out).mono ?_
        rintro e u2 ⟨rfl, G, hc, kx, hG⟩
        have I2 := hid (I1.out.does hc kx hG)
        have Z2 := hid (Z1.out.cart kx hG)
        have S2 := hid (slX kx SB.out OB.out)
        have B2 := I2.out.blk
        clear hc kx hG q1
        go_wp2_with ((with_reducible refine at_ld 37 ?_); refine wl_load0 rfl rfl rfl B2 Tryz.underlying37 rfl (by kernel_rfl) ?_)
        refine (rcload_any s xi ci xr cr zl al cl _ OK.out I2.out.sr S2.out).mono ?_
        rintro e u3 ⟨yr, dr, rfl, sr3, hn3, k3⟩
        have z3 := k3.size
        have B3 : Blk (u3.alloc (.cells rc0.toArray 37)) bD 37 (rcL s xi ci xr cr) := blk_past (blk_kept k3 I2.out.blk) _
        have N3 := blk_new u3 rc0 37
        have zb3 := blk_lt (blk_kept k3 I2.out.blk)
        generalize loadE s zl = EE at *
        have PP := hid (fun u4 u5 (p4 : Put (u3.alloc (.cells rc0.toArray 37)) u3.heap.size 37 (rcL (loadS s zl) xi ci yr dr) u4) p => I2.out.put (t2 := loadS s zl) (p4.kept _ (k3.alloc _) z3) (load_img s zl) (slX (p4.keptX (fun k => k = u3.heap.size) u3 ((KeptX.refl u3).alloc _) (.inl rfl)) sr3 (off_of sr3.row (fun k q => by omega))) (hn3.imp (fun e => ⟨e, load_rlen s zl⟩) id) I2.out.cart (p : Put u4 bD 37 _ u5))
        have ZP := hid (fun u4 (p4 : Put (u3.alloc (.cells rc0.toArray 37)) u3.heap.size 37 (rcL (loadS s zl) xi ci yr dr) u4) => Z2.out.kept (p4.kept _ (k3.alloc _) z3))
        clear sr3 hn3 k3 B2
        go_wp2_with (first
          | ((with_reducible refine at_st 37 ?_); refine wl_store rfl rfl rfl rfl N3 (by kernel_rfl) rfl (Nat.le_of_ble_eq_true rfl) (fun u4 p4 => ?_); have N4 : Blk u4 u3.heap.size 37 (rcL (loadS s zl) xi ci yr dr) := p4.blk; have B4 := p4.other _ _ _ (show bD ≠ u3.heap.size by omega) B3; have P4 := hid p4; clear p4 N3 B3)
          | ((with_reducible refine at_ld 37 ?_); refine wl_load0 rfl rfl rfl N4 Tryz.underlying37 rfl (by kernel_rfl) ?_)
          | ((with_reducible refine at_st 37 ?_); refine wl_store rfl rfl rfl rfl B4 (by kernel_rfl) rfl (Nat.le_of_ble_eq_true rfl) (fun u5 p5 => ?_); have I5 := hid (PP.out u4 u5 P4.out p5); have Z5 := hid ((ZP.out u4 P4.out).put p5); have B5 := I5.out.blk; clear p5 B4 N4 PP ZP P4)
          | ((with_reducible refine at_ld 37 ?_); refine wl_load0 rfl rfl rfl B5 Tryz.underlying37 rfl (by kernel_rfl) ?_))
        refine (kalike_any _ _ _ _ _ _ _ _ I5.out.cart I5.out.sr).mono ?_
        rintro e w9 ⟨rfl, k9⟩
        have I9 := hid (I5.out.go k9)
        have Z9 := hid (Z5.out.kept k9)
        clear k9
        go_wp2
        go_roundw
        case rel => exact ⟨j + 1, _, _, _, _, _, _, _, _, _, by omega, by go_num, rfl, I9.out, Z9.out⟩
        case measure => first | omega | (simp; omega) | (simp [intOf]; omega)
      · have b1 : (K == 1) = false := by simpa using e1
        have b2 : (K == 2) = false := by simpa using e2
        have b3 : (K == 3) = false := by simpa using e3
        have b4 : (K == 4) = false := by simpa using e4
        have b5 : (K == 5) = false := by simpa using e5
        have b6 : (K == 6) = false := by simpa using e6
        have I2 := hid I1.out
        have Z2 := hid Z1.out
        go_wp2_with ((with_reducible refine at_ld 37 ?_); refine wl_load0 rfl rfl rfl I2.out.blk Tryz.underlying37 rfl (by kernel_rfl) ?_)
        refine (kalike_any _ _ _ _ _ _ _ _ I2.out.cart I2.out.sr).mono ?_
        rintro e w9 ⟨rfl, k9⟩
        have I9 := hid (I2.out.go k9)
        have Z9 := hid (Z2.out.kept k9)
        clear k9
        go_wp2
        go_roundw
        case rel => exact ⟨j + 1, _, _, _, _, _, _, _, _, _, by omega, by go_num, rfl, I9.out, Z9.out⟩
        case measure => first | omega | (simp; omega) | (simp [intOf]; omega)
    · by_cases q : j < n
      · have q2 : ¬ j < 60 := by omega
        have q3 : (j : Int) < (n : Int) := by omega
        have q4 : ¬ (j : Int) < 60 := by omega
        have g1 : decide ((j : Int) < (n : Int)) = true := decide_eq_true q3
        have g2 : decide ((j : Int) < 60) = false := decide_eq_false q4
        go_wp2
        go_ret
        exact ⟨rfl, I0.out.kept⟩
      · have q3 : ¬ (j : Int) < (n : Int) := by omega
        have g1 : decide ((j : Int) < (n : Int)) = false := decide_eq_false q3
        go_wp2
        go_ret
        exact ⟨rfl, I0.out.kept⟩
end Go.Proofs.YtfmddnekooojkaaGreatDoor
