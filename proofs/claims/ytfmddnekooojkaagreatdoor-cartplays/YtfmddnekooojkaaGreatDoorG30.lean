/- A cartridge of the program's, as it lies in memory. Two cartridges of the program's beside each other. -/
import Derived.Test.YtfmddnekooojkaaGreatDoorG26
import Derived.Test.YtfmddnekooojkaaGreatDoorG17
namespace Go.Proofs.YtfmddnekooojkaaGreatDoor
open Go.RowKit
set_option linter.unusedVariables false
set_option linter.unusedSimpArgs false

abbrev cartL (s : Cs) (xi : Option Addr) (ci : Nat) (xr : Option Addr) (cr : Nat) : List Value := [.int .i64 s.m.kind, .bool s.m.op, .int .u8 s.m.low, .int .u8 s.m.high, .int .u8 s.m.ram, .bool s.m.mode,
  .int .u8 s.live.sec, .int .u8 s.live.min, .int .u8 s.live.hour, .int .u16 s.live.day, .bool s.live.halt, .bool s.live.carry, .int .u8 s.held.sec, .int .u8 s.held.min, .int .u8 s.held.hour, .int .u16 s.held.day, .bool s.held.halt, .bool s.held.carry, .int .u8 s.last,
  .string s.h.title, .int .u8 s.h.kind, .int .i64 s.h.map, .bool s.h.ram, .bool s.h.bat, .bool s.h.clk, .int .i64 s.h.banks, .int .i64 s.h.size, .int .u8 s.h.sum, .int .u16 s.h.whole,
  .slice xi s.img.length ci, .slice xr s.ram.length cr]
/-- A cartridge that New gave, in the block p, its image in i, its RAM in r. -/
structure CartIn (w : World) (s : Cs) (p i ci r cr : Nat) : Prop where
  ok : CsOk s
  yes : s.is = true
  blk : Blk w p 64 (cartL s (some ⟨i, 0, none⟩) ci (some ⟨r, 0, none⟩) cr)
  img : OwnB w 0 i ci s.img
  ram : OwnB w 0 r cr s.ram
  pi : p ≠ i
  pr : p ≠ r
  ir : i ≠ r
  cap : s.ram.length = cr
/-- The cartridge v is in the state s; its blocks are F. -/
def CartAt (w : World) (s : Cs) (v : Value) (F : Nat → Prop) : Prop :=
  (s = cs0 ∧ v = .pointer none ∧ ∀ k, ¬ F k) ∨
  (s = cs0 ∧ ∃ p, v = .pointer (some ⟨p, 0, none⟩) ∧ Blk w p 64 (cartL cs0 none 0 none 0) ∧ ∀ k, F k ↔ k = p) ∨
  (∃ p i ci r cr, v = .pointer (some ⟨p, 0, none⟩) ∧ CartIn w s p i ci r cr ∧ ∀ k, F k ↔ (k = p ∨ k = i ∨ k = r))
theorem ownB_blk {w u : World} {base g cap : Nat} {L : List Int} (h : OwnB w base g cap L) (e : u.heap[g]? = w.heap[g]?) : OwnB u base g cap L := by
  obtain ⟨o1, o2⟩ := h
  refine ⟨o1, ?_⟩
  rcases o2 with o2 | ⟨g', cap', cur, e1, e2, e3, e4⟩
  · exact .inl o2
  · have : g = g' := by cases e1; rfl
    subst this
    exact .inr ⟨g, cap', cur, e1, e2, e.trans e3, e4⟩
theorem ownB_max {w : World} {base g cap : Nat} {L : List Int} (h : OwnB w base g cap L) : L.length ≤ cap ∧ cap ≤ maxLen := by
  rcases id h.2 with ⟨h1, _⟩ | ⟨g', cap', cur, h1, _, _, h3, h4, _⟩
  · cases h1
  · cases h1; exact ⟨h3, h4⟩
theorem ownB_sl {w : World} {base g cap : Nat} {L : List Int} (h : OwnB w base g cap L) (hb : ∀ x ∈ L, InByte x) : Sl w (some ⟨g, 0, none⟩) cap L :=
  ⟨ownB_row h hb (Nat.le_trans (ownB_max h).1 (ownB_max h).2), (ownB_max h).1, (ownB_max h).2, (fun e => by cases e)⟩
theorem ownB_base {w : World} {base b2 g cap : Nat} {L : List Int} (h : OwnB w base g cap L) (hb : b2 ≤ g) : OwnB w b2 g cap L := by
  obtain ⟨o1, o2⟩ := h
  refine ⟨o1, ?_⟩
  rcases o2 with ⟨o2, _⟩ | ⟨g', cap', cur, e1, e2, e3, e4⟩
  · cases o2
  · have : g = g' := by cases e1; rfl
    subst this
    exact .inr ⟨g, cap', cur, e1, hb, e3, e4⟩
theorem CartIn.keepX {w u : World} {s : Cs} {p i ci r cr : Nat} {G : Nat → Prop} (h : CartIn w s p i ci r cr) (k : KeptX G w u) (hp : ¬ G p) (hi : ¬ G i) (hr : ¬ G r) : CartIn u s p i ci r cr :=
  ⟨h.ok, h.yes, blkX k h.blk hp, ownB_blk h.img (k.block i (ownB_lt h.img).2 hi), ownB_blk h.ram (k.block r (ownB_lt h.ram).2 hr), h.pi, h.pr, h.ir, h.cap⟩
theorem CartIn.keep {w u : World} {s : Cs} {p i ci r cr : Nat} (h : CartIn w s p i ci r cr) (k : Kept w u) : CartIn u s p i ci r cr :=
  h.keepX (G := fun _ => False) (.of k) id id id
theorem cart_lt {w : World} {s : Cs} {v : Value} {F : Nat → Prop} (h : CartAt w s v F) : ∀ k, F k → k < w.heap.size := by
  rcases h with ⟨_, _, h⟩ | ⟨_, p, _, b, h⟩ | ⟨p, i, ci, r, cr, _, c, h⟩
  · exact fun k q => (h k q).elim
  · intro k q; rw [(h k).1 q]; exact blk_lt b
  · intro k q
    rcases (h k).1 q with rfl | rfl | rfl
    · exact blk_lt c.blk
    · exact (ownB_lt c.img).2
    · exact (ownB_lt c.ram).2
theorem cart_keep {w u : World} {s : Cs} {v : Value} {F G : Nat → Prop} (h : CartAt w s v F) (k : KeptX G w u) (hd : ∀ k, F k → ¬ G k) : CartAt u s v F := by
  rcases h with h | ⟨e, p, e2, b, h⟩ | ⟨p, i, ci, r, cr, e, c, h⟩
  · exact .inl h
  · exact .inr (.inl ⟨e, p, e2, blkX k b (hd p ((h p).2 rfl)), h⟩)
  · exact .inr (.inr ⟨p, i, ci, r, cr, e, c.keepX k (hd p ((h p).2 (.inl rfl))) (hd i ((h i).2 (.inr (.inl rfl)))) (hd r ((h r).2 (.inr (.inr rfl)))), h⟩)
theorem cart_ok {w : World} {s : Cs} {v : Value} {F : Nat → Prop} (h : CartAt w s v F) : CsOk s := by
  rcases h with ⟨e, _⟩ | ⟨e, _⟩ | ⟨p, i, ci, r, cr, e, c, h⟩
  · rw [e]; exact cs0_ok
  · rw [e]; exact cs0_ok
  · exact c.ok
theorem cart_nobody (w : World) : CartAt w cs0 (.pointer none) (fun _ => False) := .inl ⟨rfl, rfl, fun _ h => h⟩
theorem cart_zero {w : World} {p : Nat} (b : Blk w p 64 (cartL cs0 none 0 none 0)) : CartAt w cs0 (.pointer (some ⟨p, 0, none⟩)) (fun k => k = p) := .inr (.inl ⟨rfl, p, rfl, b, fun _ => Iff.rfl⟩)
theorem CartIn.at {w : World} {s : Cs} {p i ci r cr : Nat} (h : CartIn w s p i ci r cr) {F : Nat → Prop} (hF : ∀ k, F k ↔ (k = p ∨ k = i ∨ k = r)) : CartAt w s (.pointer (some ⟨p, 0, none⟩)) F := .inr (.inr ⟨p, i, ci, r, cr, rfl, h, hF⟩)
end Go.Proofs.YtfmddnekooojkaaGreatDoor
namespace Go.Proofs.YtfmddnekooojkaaGreatDoor
open Go.RowKit
set_option linter.unusedVariables false
set_option linter.unusedSimpArgs false

theorem cart_kept {w u : World} {s : Cs} {v : Value} {F : Nat → Prop} (h : CartAt w s v F) (k : Kept w u) : CartAt u s v F := cart_keep h (G := fun _ => False) (.of k) (fun _ _ q => q)
/-- The cartridge v is in the state s, u in the state t, in blocks that are new since w0; these are unlike. -/
structure Two (w0 w : World) (s t : Cs) (v u : Value) (F G : Nat → Prop) : Prop where
  c : CartAt w s v F
  d : CartAt w t u G
  dis : ∀ k, F k → ¬ G k
  lowF : ∀ k, F k → w0.heap.size ≤ k
  lowG : ∀ k, G k → w0.heap.size ≤ k
  kept : Kept w0 w
theorem Two.go {w0 w w2 : World} {s t : Cs} {v u : Value} {F G : Nat → Prop} (h : Two w0 w s t v u F G) (k : Kept w w2) : Two w0 w2 s t v u F G :=
  ⟨cart_kept h.c k, cart_kept h.d k, h.dis, h.lowF, h.lowG, h.kept.trans k⟩
theorem Two.doC {w0 w w2 : World} {s t s2 : Cs} {v u : Value} {F G F2 : Nat → Prop} (h : Two w0 w s t v u F G) (c : CartAt w2 s2 v F2) (k : KeptX F w w2) (hF : ∀ k, F2 k → F k ∨ w.heap.size ≤ k) : Two w0 w2 s2 t v u F2 G :=
  ⟨c, cart_keep h.d k (fun j g f => h.dis j f g), fun j f g => by
    rcases hF j f with q | q
    · exact h.dis j q g
    · have := cart_lt h.d j g; omega, fun j f => by
    rcases hF j f with q | q
    · exact h.lowF j q
    · exact Nat.le_trans h.kept.size q, h.lowG, k.kept h.kept h.lowF⟩
theorem Two.doD {w0 w w2 : World} {s t t2 : Cs} {v u : Value} {F G G2 : Nat → Prop} (h : Two w0 w s t v u F G) (d : CartAt w2 t2 u G2) (k : KeptX G w w2) (hG : ∀ k, G2 k → G k ∨ w.heap.size ≤ k) : Two w0 w2 s t2 v u F G2 :=
  ⟨cart_keep h.c k h.dis, d, fun j f g => by
    rcases hG j g with q | q
    · exact h.dis j f q
    · have := cart_lt h.c j f; omega, h.lowF, fun j f => by
    rcases hG j f with q | q
    · exact h.lowG j q
    · exact Nat.le_trans h.kept.size q, k.kept h.kept h.lowG⟩
theorem two_new {w0 w w2 : World} {s t : Cs} {v u : Value} {F G : Nat → Prop} (k0 : Kept w0 w) (c : CartAt w s v F) (lowF : ∀ k, F k → w0.heap.size ≤ k) (k : Kept w w2) (d : CartAt w2 t u G) (lowG : ∀ k, G k → w.heap.size ≤ k) : Two w0 w2 s t v u F G :=
  ⟨cart_kept c k, d, fun j f g => by have := cart_lt c j f; have := lowG j g; omega, lowF, fun j g => Nat.le_trans k0.size (lowG j g), k0.trans k⟩
end Go.Proofs.YtfmddnekooojkaaGreatDoor
