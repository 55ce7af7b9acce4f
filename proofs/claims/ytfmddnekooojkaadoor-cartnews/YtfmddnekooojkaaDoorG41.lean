/- What alike of the laws of layer 10 comes to. A cartridge of the program's and one of the document's beside each other. -/
import Derived.Test.YtfmddnekooojkaaDoorG40
import Derived.Test.YtfmddnekooojkaaDoorG33
namespace Go.Proofs.YtfmddnekooojkaaDoor
open Go.RowKit
set_option linter.unusedVariables false
set_option linter.unusedSimpArgs false

end Go.Proofs.YtfmddnekooojkaaDoor
namespace Go.Proofs.YtfmddnekooojkaaDoor
open Go.RowKit
set_option linter.unusedVariables false
set_option linter.unusedSimpArgs false

/-- The program's cartridge v is in the state s, the document's in the state t, in the variable bD. -/
structure PlI (w0 w : World) (v : Value) (bD : Nat) (s t : Cs) (F : Nat → Prop) (xi : Option Addr) (ci : Nat) (xr : Option Addr) (cr : Nat) : Prop where
  cart : CartAt w s v F
  low : ∀ k, F k → w0.heap.size ≤ k
  blk : Blk w bD 36 (rcL t xi ci xr cr)
  base : w0.heap.size ≤ bD
  nF : ¬ F bD
  si : Sl w xi ci t.img
  oi : Off (fun k => F k ∨ k = bD) xi t.img
  sr : Sl w xr cr t.ram
  or : Off (fun k => F k ∨ k = bD) xr t.ram
  kept : Kept w0 w
/-- A slice of bytes that neither of them writes into. -/
structure Bs (w : World) (F : Nat → Prop) (bD : Nat) (a : Option Addr) (cap : Nat) (z : List Int) : Prop where
  sl : Sl w a cap z
  off : Off (fun k => F k ∨ k = bD) a z
theorem off_sub {F G : Nat → Prop} {a : Option Addr} {z : List Int} (h : Off F a z) (hs : ∀ k, G k → F k) : Off G a z := by
  rcases h with h | h
  · exact .inl h
  · exact .inr fun x hx q => h x hx (hs _ q)
theorem Bs.kept {w u : World} {F : Nat → Prop} {bD : Nat} {a : Option Addr} {cap : Nat} {z : List Int} (h : Bs w F bD a cap z) (k : Kept w u) : Bs u F bD a cap z := ⟨sl_kept k h.sl, h.off⟩
theorem Bs.cart {w u : World} {F G : Nat → Prop} {bD : Nat} {a : Option Addr} {cap : Nat} {z : List Int} (h : Bs w F bD a cap z) (k : KeptX F w u) (hG : ∀ k, G k → F k ∨ w.heap.size ≤ k) : Bs u G bD a cap z :=
  ⟨slX k h.sl (off_sub h.off fun _ q => .inl q), off_grow h.sl.row h.off fun k q => by
    rcases q with q | q
    · rcases hG k q with q | q
      · exact .inl (.inl q)
      · exact .inr q
    · exact .inl (.inr q)⟩
theorem Bs.put {w u : World} {F : Nat → Prop} {bD : Nat} {t : TypeId} {cs : List Value} {a : Option Addr} {cap : Nat} {z : List Int} (h : Bs w F bD a cap z) (p : Put w bD t cs u) : Bs u F bD a cap z :=
  ⟨slX (p.keptX (fun k => k = bD) w (KeptX.refl w) (.inl rfl)) h.sl (off_sub h.off fun _ q => .inr q), h.off⟩
theorem PlI.go {w0 w u : World} {v : Value} {bD : Nat} {s t : Cs} {F : Nat → Prop} {xi : Option Addr} {ci : Nat} {xr : Option Addr} {cr : Nat} (h : PlI w0 w v bD s t F xi ci xr cr) (k : Kept w u) : PlI w0 u v bD s t F xi ci xr cr :=
  ⟨cart_kept h.cart k, h.low, blk_kept k h.blk, h.base, h.nF, sl_kept k h.si, h.oi, sl_kept k h.sr, h.or, h.kept.trans k⟩
/-- The program's cartridge has done something. -/
theorem PlI.does {w0 w u : World} {v : Value} {bD : Nat} {s s2 t : Cs} {F G : Nat → Prop} {xi : Option Addr} {ci : Nat} {xr : Option Addr} {cr : Nat} (h : PlI w0 w v bD s t F xi ci xr cr) (c : CartAt u s2 v G) (k : KeptX F w u) (hG : ∀ k, G k → F k ∨ w.heap.size ≤ k) : PlI w0 u v bD s2 t G xi ci xr cr := by
  have b1 : Bs w F bD xi ci t.img := ⟨h.si, h.oi⟩
  have b2 : Bs w F bD xr cr t.ram := ⟨h.sr, h.or⟩
  refine ⟨c, fun j q => ?_, blkX k h.blk h.nF, h.base, fun q => ?_, (b1.cart k hG).sl, (b1.cart k hG).off, (b2.cart k hG).sl, (b2.cart k hG).off, k.kept h.kept h.low⟩
  · rcases hG j q with q | q
    · exact h.low j q
    · exact Nat.le_trans h.kept.size q
  · rcases hG bD q with q | q
    · exact h.nF q
    · have := blk_lt h.blk; omega
/-- The document's cartridge has done something, and lies in its variable again. -/
theorem PlI.put {w0 w u w2 : World} {v : Value} {bD : Nat} {s t t2 : Cs} {F : Nat → Prop} {xi : Option Addr} {ci : Nat} {xr : Option Addr} {cr : Nat} (h : PlI w0 w v bD s t F xi ci xr cr) (k : Kept w u) {yr : Option Addr} {dr : Nat} (hi : t2.img = t.img) (sr : Sl u yr dr t2.ram) (hn : yr = xr ∧ t2.ram.length = t.ram.length ∨ Newer w.heap.size yr) (hl : CartAt w s v F)
    (p : Put u bD 36 (rcL t2 xi ci yr dr) w2) : PlI w0 w2 v bD s t2 F xi ci yr dr := by
  have g := h.go k
  have b1 : Bs u F bD xi ci t.img := ⟨g.si, g.oi⟩
  have b2 : Bs u F bD yr dr t2.ram := ⟨sr, by
    rcases hn with ⟨e, e2⟩ | hn
    · rcases h.or with q | q
      · rw [q] at e2; exact .inl (List.eq_nil_of_length_eq_zero e2)
      · rw [e]; exact .inr q
    · exact .inr fun x hx q => by
        have := hn x hx
        rcases q with q | q
        · have := cart_lt hl _ q; omega
        · have := blk_lt h.blk; omega⟩
  have hk := p.keptX (fun j => j = bD) u (KeptX.refl u) (.inl rfl)
  refine ⟨cart_keep g.cart hk (fun j q e => h.nF (e ▸ q)), h.low, p.blk, h.base, h.nF, by rw [hi]; exact (b1.put p).sl, by rw [hi]; exact (b1.put p).off, (b2.put p).sl, (b2.put p).off, p.kept _ g.kept h.base⟩
/-- Both have just been made. -/
theorem pl_start {w u1 u2 u3 u4 : World} {v : Value} {F : Nat → Prop} {s : Cs} {a0 : Option Addr} {z0 : List Int} {xi : Option Addr} {ci : Nat} {xr : Option Addr} {cr : Nat} {o : Obj} (r0 : Row w a0 z0) (him : s.img = z0 ∨ s.img = []) (K1 : Kept w u1) (k2 : Kept u1 u2) (k3 : Kept u2 u3) (hc : CartAt u2 s v F) (hF : ∀ k, F k → u1.heap.size ≤ k)
    (hxi : xi = a0 ∨ xi = none) (si : Sl u3 xi ci s.img) (sr : Sl u3 xr cr s.ram) (nr : Newer u2.heap.size xr) (p : Put (u3.alloc o) u3.heap.size 36 (rcL s xi ci xr cr) u4) : PlI w u4 v u3.heap.size s s F xi ci xr cr := by
  have c1 := K1.size
  have c2 := k2.size
  have c3 := k3.size
  have low : ∀ k, F k → w.heap.size ≤ k := fun k q => by have := hF k q; omega
  have lt := cart_lt hc
  have k4 := p.keptX (fun j => j = u3.heap.size) u3 ((KeptX.refl u3).alloc o) (.inl rfl)
  have oi : Off (fun k => F k ∨ k = u3.heap.size) xi s.img := by
    rcases hxi with e | e
    · rcases him with q | q
      · rw [q, e]
        refine off_of r0 (fun k h => ?_)
        rcases h with h | h
        · exact low k h
        · omega
      · exact .inl q
    · exact .inr fun x hx => by rw [e] at hx; cases hx
  have or : Off (fun k => F k ∨ k = u3.heap.size) xr s.ram := by
    rcases sr.row.2.2 with q | ⟨x, e, hx, _⟩
    · exact .inl q
    · exact .inr fun y hy q => by
        rw [e] at hy
        cases hy
        have := nr x e
        rcases q with q | q
        · have := lt _ q; omega
        · omega
  refine ⟨cart_keep (cart_kept hc k3) k4 (fun j q e => by have := lt j q; omega), low, p.blk, by omega, fun q => by have := lt _ q; omega, slX k4 si (off_sub oi fun _ q => .inr q), oi, slX k4 sr (off_sub or fun _ q => .inr q), or, p.kept _ (((K1.trans k2).trans k3).alloc o) (by omega)⟩
end Go.Proofs.YtfmddnekooojkaaDoor
