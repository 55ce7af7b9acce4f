/- What was there is kept: the word for worlds behind an append too (Grown says besides that nothing new is frozen). Bytes that lie in memory, for layer 7. Plain numbers of layer 7: what a head says. Plain numbers of layer 8: a cartridge's registers. What was there is kept: stores into blocks of one's own; a block of one's own behind a call. Plain numbers of layer 9: a cartridge's clock. What follows for layer 9: a day later; what is written is read; clocks out of their bytes. Worlds in which all but some blocks are as they were. -/
import Derived.Test.YtfmddnekooojkaaGreatDoorG03
import Derived.OwnWalk
import Derived.Carry
import Derived.Test.YtfmddnekooojkaaGreatDoorG00
namespace Go.Proofs.YtfmddnekooojkaaGreatDoor
open Go.RowKit
set_option linter.unusedVariables false
set_option linter.unusedSimpArgs false

structure Kept (W w : World) : Prop where
  os : w.os = W.os
  output : w.output = W.output
  size : W.heap.size ≤ w.heap.size
  block : ∀ k, k < W.heap.size → w.heap[k]? = W.heap[k]?
theorem Kept.refl (W : World) : Kept W W := ⟨rfl, rfl, Nat.le_refl _, fun _ _ => rfl⟩
theorem Kept.trans {a b c : World} (h : Kept a b) (k : Kept b c) : Kept a c :=
  ⟨k.os.trans h.os, k.output.trans h.output, Nat.le_trans h.size k.size, fun i hi => (k.block i (Nat.lt_of_lt_of_le hi h.size)).trans (h.block i hi)⟩
theorem Kept.of {W w : World} (g : Grown W w) : Kept W w := ⟨g.1.1, g.1.2.1, g.2.2, fun k hk => gblock g k hk⟩
theorem Kept.alloc {W w : World} (h : Kept W w) (o : Obj) : Kept W (w.alloc o) :=
  h.trans ⟨rfl, rfl, by show w.heap.size ≤ (w.heap.push _).size; simp, fun k hk => Below.heap_alloc w o k hk⟩
theorem Kept.drew {W w : World} (h : Kept W w) : Kept W w.drew := ⟨h.os, h.output, h.size, h.block⟩
theorem Kept.drewN {W w : World} (h : Kept W w) {n : Nat} : Kept W (w.drewN n) := ⟨h.os, h.output, h.size, h.block⟩
theorem Kept.by {W w w2 : World} {row : Option Nat} (h : Kept W w) (g : w.grownBy w2 row) (hr : ∀ k, row = some k → W.heap.size ≤ k) : Kept W w2 :=
  ⟨g.os.trans h.os, g.output.trans h.output, Nat.le_trans h.size g.size, fun k hk => (g.block k (Nat.lt_of_lt_of_le hk h.size) (fun e => by have := hr k e.symm; omega)).trans (h.block k hk)⟩
theorem Kept.cell {W w : World} (h : Kept W w) {x : Addr} (hx : x.block < W.heap.size) : w.cell? x = W.cell? x := World.cell?_of_block (w := W) (h.block x.block hx)
theorem Kept.frame {W w : World} (h : Kept W w) (may : MemPlace → Prop) : W.keptBut w may := by
  refine ⟨h.os, h.output, fun i hi => ?_⟩
  rw [h.block i hi]
  split <;> simp_all
theorem Kept.same {W w : World} (h : Kept W w) {p : MemPlace} (hp : p.block < W.heap.size) : W.sameAt w p := by
  cases p with
  | cell b o => exact World.cell?_of_block (w := W) (h.block b hp)
  | map b => exact h.block b hp
theorem Kept.trod {H : Type} {enc : TypeId × Value → H} {P : Program} {t : TypeId} (hl : laidOutB P = true) (hr : P.readableRec t = true) (hrow : t < P.types.size) {W w : World} {v : Value} {d : DataW H} {ps : List MemPlace}
    (h : DataW.Trod enc P W 0 (fun _ => true) true t v d ps) (hb : Kept W w) (hlt : ∀ x ∈ ps, x.block < W.heap.size) :
    DataW.Trod enc P w 0 (fun b => decide (b < W.heap.size)) true t v d ps :=
  WideElems.Trod_stays hl hr hrow h (fun x hx => hb.same (hlt x hx)) (fun x hx => by simpa using hlt x hx)
theorem owns_kept {W w : World} (h : Kept W w) {base : Nat} {e : TypeId} {size : Nat} {v : Value} {n : Nat} {xs : List Value} (o : W.ownsRow base e size v n xs) : w.ownsRow base e size v n xs := by
  obtain ⟨o1, o2⟩ := o
  refine ⟨o1, ?_⟩
  rcases o2 with o2 | ⟨g, cap, cur, e1, e2, e3, e4⟩
  · exact .inl o2
  · refine .inr ⟨g, cap, cur, e1, e2, ?_, e4⟩
    have : g < W.heap.size := by
      rcases Nat.lt_or_ge g W.heap.size with q | q
      · exact q
      · rw [Array.getElem?_eq_none q] at e3; cases e3
    rw [h.block g this]; exact e3
theorem owns_row {w : World} {base : Nat} {e : TypeId} {size : Nat} {v : Value} {n : Nat} {xs : List Value} (o : w.ownsRow base e size v n xs) : ∀ k, v.ownBlock = some k → base ≤ k := fun k hk => (o.lt k hk).1
end Go.Proofs.YtfmddnekooojkaaGreatDoor
namespace Go.Proofs.YtfmddnekooojkaaGreatDoor
open Go.RowKit
set_option linter.unusedVariables false
set_option linter.unusedSimpArgs false

def InByte (z : Int) : Prop := 0 ≤ z ∧ z ≤ 255
def Row (w : World) (a : Option Addr) (zs : List Int) : Prop :=
  zs.length ≤ maxLen ∧ (∀ z ∈ zs, InByte z) ∧ (zs = [] ∨ ∃ x : Addr, a = some x ∧ x.block < w.heap.size ∧ ∀ i, i < zs.length → w.cell? (x.add i) = some (.int .u8 (zs.getD i 0)))
theorem addB (x : Addr) (n : Nat) : (x.add n).block = x.block := by unfold Addr.add; split <;> rfl
theorem row_kept {W w : World} (g : Kept W w) {a : Option Addr} {zs : List Int} (h : Row W a zs) : Row w a zs := by
  obtain ⟨h1, h2, h3⟩ := h
  refine ⟨h1, h2, ?_⟩
  rcases h3 with h3 | ⟨x, e, hx, hc⟩
  · exact .inl h3
  · exact .inr ⟨x, e, Nat.lt_of_lt_of_le hx g.size, fun i hi => by rw [g.cell (x := x.add i) (by rw [addB]; exact hx)]; exact hc i hi⟩
theorem add_add (x : Addr) (k i : Nat) : (x.add k).add i = x.add (k + i) := by
  unfold Addr.add
  by_cases hk : k = 0
  · subst hk; simp
  · by_cases hi : i = 0
    · subst hi; simp [hk]
    · simp [hk, hi]; omega
theorem row_drop {w : World} {x : Addr} {zs : List Int} (k : Nat) (h : Row w (some x) zs) (hk : k ≤ zs.length) : Row w (some (x.add k)) (zs.drop k) := by
  obtain ⟨h1, h2, h3⟩ := h
  refine ⟨by simp; omega, fun z hz => h2 z (List.mem_of_mem_drop hz), ?_⟩
  rcases h3 with h3 | ⟨y, e, hy, hc⟩
  · exact .inl (by rw [h3]; simp)
  · obtain rfl : x = y := Option.some.inj e
    refine .inr ⟨x.add k, rfl, by rw [addB]; exact hy, fun i hi => ?_⟩
    have hi2 : k + i < zs.length := by simp at hi; omega
    rw [add_add, hc (k + i) hi2]
    simp [List.getD_eq_getElem?_getD, List.getElem?_drop]
theorem row_take {w : World} {a : Option Addr} {z : List Int} (n : Nat) (h : Row w a z) : Row w a (z.take n) := by
  obtain ⟨h1, h2, h3⟩ := h
  refine ⟨by rw [List.length_take]; omega, fun y hy => h2 y (List.mem_of_mem_take hy), ?_⟩
  rcases h3 with h3 | ⟨x, e, hx, hc⟩
  · exact .inl (by rw [h3]; simp)
  · refine .inr ⟨x, e, hx, fun i hi => ?_⟩
    rw [List.length_take] at hi
    rw [hc i (by omega), List.getD_eq_getElem?_getD, List.getD_eq_getElem?_getD, List.getElem?_take_of_lt (by omega)]
theorem row_get {w : World} {a : Option Addr} {zs : List Int} (h : Row w a zs) (hne : 0 < zs.length) : ∃ x : Addr, a = some x ∧ x.block < w.heap.size ∧ ∀ i, i < zs.length → w.cell? (x.add i) = some (.int .u8 (zs.getD i 0)) ∧ InByte (zs.getD i 0) := by
  rcases h.2.2 with h3 | ⟨x, e, hx, hc⟩
  · rw [h3] at hne; simp at hne
  · refine ⟨x, e, hx, fun i hi => ⟨hc i hi, h.2.1 _ ?_⟩⟩
    rw [List.getD_eq_getElem?_getD, List.getElem?_eq_getElem hi]
    exact List.getElem_mem hi
end Go.Proofs.YtfmddnekooojkaaGreatDoor
namespace Go.Proofs.YtfmddnekooojkaaGreatDoor
open Go.RowKit
set_option linter.unusedVariables false
set_option linter.unusedSimpArgs false

structure Hd where
  title : ByteArray
  kind : Int
  map : Int
  ram : Bool
  bat : Bool
  clk : Bool
  banks : Int
  size : Int
  sum : Int
  whole : Int
def hd0 : Hd := ⟨⟨#[]⟩, 0, 0, false, false, false, 0, 0, 0, 0⟩
def inL (ls : List Int) (b : Int) : Bool := ls.any (fun x => x == b)
def kN (k : Int) : Bool := inL [0, 8, 9] k
def k1 (k : Int) : Bool := inL [1, 2, 3] k
def k3 (k : Int) : Bool := inL [15, 16, 17, 18, 19] k
def k5 (k : Int) : Bool := inL [25, 26, 27, 28, 29, 30] k
def kRam (k : Int) : Bool := inL [2, 3, 8, 9, 16, 18, 19, 26, 27, 29, 30] k
def kBat (k : Int) : Bool := inL [3, 9, 15, 16, 19, 27, 30] k
def kClk (k : Int) : Bool := inL [15, 16] k
def kMap (k : Int) : Int := if k5 k then 5 else if k3 k then 3 else if k1 k then 1 else 0
def kindOk (k : Int) : Bool := kN k || k1 k || k3 k || k5 k
def kindH (k : Int) : Hd := if kindOk k then ⟨⟨#[]⟩, k, kMap k, kRam k, kBat k, kClk k, 0, 0, 0, 0⟩ else hd0
theorem kind_fin : ∀ a : Fin 256, (k1 (a.val : Int) = true ∧ k3 (a.val : Int) = false ∧ k5 (a.val : Int) = false ∧ kN (a.val : Int) = false) ∨ (k1 (a.val : Int) = false ∧ k3 (a.val : Int) = true ∧ k5 (a.val : Int) = false ∧ kN (a.val : Int) = false) ∨ (k1 (a.val : Int) = false ∧ k3 (a.val : Int) = false ∧ k5 (a.val : Int) = true ∧ kN (a.val : Int) = false) ∨ (k1 (a.val : Int) = false ∧ k3 (a.val : Int) = false ∧ k5 (a.val : Int) = false ∧ kN (a.val : Int) = true) ∨ (k1 (a.val : Int) = false ∧ k3 (a.val : Int) = false ∧ k5 (a.val : Int) = false ∧ kN (a.val : Int) = false) := by decide +kernel
theorem kind_of (k : Int) (h0 : 0 ≤ k) (h1 : k ≤ 255) : (k1 k = true ∧ k3 k = false ∧ k5 k = false ∧ kN k = false) ∨ (k1 k = false ∧ k3 k = true ∧ k5 k = false ∧ kN k = false) ∨ (k1 k = false ∧ k3 k = false ∧ k5 k = true ∧ kN k = false) ∨ (k1 k = false ∧ k3 k = false ∧ k5 k = false ∧ kN k = true) ∨ (k1 k = false ∧ k3 k = false ∧ k5 k = false ∧ kN k = false) :=
  fin8 (p := fun k => (k1 k = true ∧ k3 k = false ∧ k5 k = false ∧ kN k = false) ∨ (k1 k = false ∧ k3 k = true ∧ k5 k = false ∧ kN k = false) ∨ (k1 k = false ∧ k3 k = false ∧ k5 k = true ∧ kN k = false) ∨ (k1 k = false ∧ k3 k = false ∧ k5 k = false ∧ kN k = true) ∨ (k1 k = false ∧ k3 k = false ∧ k5 k = false ∧ kN k = false)) kind_fin k h0 h1
def mostTo : Nat → Int
  | 0 => 32768
  | k + 1 => mostTo k * 2
def mostOf (r : Int) : Int := mostTo r.toNat
theorem most_fin : ∀ r : Fin 10, 32768 ≤ mostTo r.val ∧ mostTo r.val ≤ 16777216 := by decide +kernel
def sumTo (z : List Int) : Nat → Int
  | 0 => 0
  | k + 1 => (sumTo z k + 512 - z.getD (308 + k) 0 - 1) % 256
def sumOf (z : List Int) : Int := sumTo z 25
def sumV (z : List Int) : Int := if z.length < 336 then 0 else sumOf z
def sumE (z : List Int) : Int := if z.length < 336 then 2 else 0
theorem sumTo_bd (z : List Int) (k : Nat) : 0 ≤ sumTo z k ∧ sumTo z k ≤ 255 := by
  cases k with
  | zero => exact ⟨Int.le_refl 0, by show (0 : Int) ≤ _; decide⟩
  | succ k => simp only [sumTo]; constructor <;> omega
def wholeTo (z : List Int) : Nat → Int
  | 0 => 0
  | k + 1 => if k = 334 ∨ k = 335 then wholeTo z k else (wholeTo z k + z.getD k 0) % 65536
def wholeOf (z : List Int) : Int := wholeTo z z.length
theorem wholeTo_bd (z : List Int) (k : Nat) : 0 ≤ wholeTo z k ∧ wholeTo z k ≤ 65535 := by
  induction k with
  | zero => exact ⟨Int.le_refl 0, by show (0 : Int) ≤ _; decide⟩
  | succ k ih =>
    simp only [wholeTo]
    split
    · exact ih
    · omega
def signB (b : Int) : Bool := decide (32 ≤ b) && decide (b ≤ 126)
def sizeM (m : Int) : Int := ([0, 2048, 8192, 32768, 131072, 65536] : List Int).getD m.toNat 0
def titL (z : List Int) : List Int := ((z.drop 308).take 16).takeWhile signB
def strB (ns : List Int) : ByteArray := ⟨(ns.map (fun n => UInt8.ofNat n.toNat)).toArray⟩
def parseE (z : List Int) : Int :=
  if z.length < 336 then 2 else if kindOk (z.getD 327 0) = false then 4
  else if 8 < z.getD 328 0 ∨ 5 < z.getD 329 0 ∨ mostOf (z.getD 328 0) < (z.length : Int) then 5 else if sumOf z ≠ z.getD 333 0 then 3 else 0
def parseH (z : List Int) : Hd :=
  if parseE z = 0 then ⟨strB (titL z), z.getD 327 0, kMap (z.getD 327 0), kRam (z.getD 327 0), kBat (z.getD 327 0), kClk (z.getD 327 0), mostOf (z.getD 328 0) / 16384, (if kRam (z.getD 327 0) then sizeM (z.getD 329 0) else 0), sumOf z, 256 * z.getD 334 0 + z.getD 335 0⟩ else hd0
end Go.Proofs.YtfmddnekooojkaaGreatDoor
namespace Go.Proofs.YtfmddnekooojkaaGreatDoor
open Go.RowKit
set_option linter.unusedVariables false
set_option linter.unusedSimpArgs false

structure Mp where
  kind : Int
  op : Bool
  low : Int
  high : Int
  ram : Int
  mode : Bool
def mp0 : Mp := ⟨0, false, 0, 0, 0, false⟩
def newM (k : Int) : Mp := ⟨k, false, 0, 0, 0, false⟩
def newOk (k : Int) : Bool := k == 0 || k == 1 || k == 3 || k == 5
def newE (k : Int) : Int := if newOk k then 0 else 4
def newR (k : Int) : Mp := if newOk k then newM k else mp0
structure MpIn (m : Mp) : Prop where
  k0 : -9223372036854775808 ≤ m.kind
  k1 : m.kind ≤ 9223372036854775807
  l0 : 0 ≤ m.low
  l1 : m.low ≤ 255
  h0 : 0 ≤ m.high
  h1 : m.high ≤ 255
  r0 : 0 ≤ m.ram
  r1 : m.ram ≤ 255
def zone (a : Int) : Nat := if a < 8192 then 0 else if a < 12288 then 1 else if a < 16384 then 2 else if a < 24576 then 3 else if a < 32768 then 4 else 5
def write1 (m : Mp) (v : Int) : Nat → Mp
  | 0 => { m with op := v % 16 == 10 }
  | 1 => { m with low := v % 32 }
  | 2 => { m with low := v % 32 }
  | 3 => { m with high := v % 4 }
  | 4 => { m with mode := v % 2 == 1 }
  | _ => m
def write3 (m : Mp) (v : Int) : Nat → Mp
  | 0 => { m with op := v % 16 == 10 }
  | 1 => { m with low := v % 128 }
  | 2 => { m with low := v % 128 }
  | 3 => { m with ram := v % 16 }
  | _ => m
def write5 (m : Mp) (v : Int) : Nat → Mp
  | 0 => { m with op := v == 10 }
  | 1 => { m with low := v }
  | 2 => { m with high := v % 2 }
  | 3 => { m with ram := v % 16 }
  | _ => m
def writeZ (m : Mp) (z : Nat) (v : Int) : Mp := if m.kind = 1 then write1 m v z else if m.kind = 3 then write3 m v z else if m.kind = 5 then write5 m v z else m
def writeM (m : Mp) (a v : Int) : Mp := writeZ m (zone a) v
def one (x : Int) : Int := if x = 0 then 1 else x
def bankHi (m : Mp) : Int := if m.kind = 1 then 32 * m.high + one m.low else if m.kind = 3 then one m.low else if m.kind = 5 then 256 * m.high + m.low else 1
def bankLo (m : Mp) : Int := if m.kind = 1 then (if m.mode then 32 * m.high else 0) else 0
def bankM (m : Mp) (a : Int) : Int := if a < 16384 then bankLo m else if a < 32768 then bankHi m else 0
def romM (m : Mp) (a s : Int) : Int := if s < 1 ∨ 32767 < a then -1 else (16384 * bankM m a + a % 16384) % s
def inWin (a : Int) : Bool := decide (40960 ≤ a) && decide (a ≤ 49151)
def ramB (m : Mp) : Int := if m.kind = 1 then (if m.mode then m.high else 0) else if m.kind = 3 then m.ram else if m.kind = 5 then m.ram else 0
def ramNo (m : Mp) : Bool := if m.kind = 1 then !m.op else if m.kind = 3 then (!m.op || decide (7 < m.ram)) else if m.kind = 5 then !m.op else false
def ramM (m : Mp) (a s : Int) : Int := if s < 1 ∨ inWin a = false ∨ ramNo m = true then -1 else (8192 * ramB m + a - 40960) % s
def regM (m : Mp) (a : Int) : Int := if m.kind = 3 ∧ m.op = true ∧ inWin a = true ∧ 8 ≤ m.ram ∧ m.ram ≤ 12 then m.ram else 0
theorem write_in (m : Mp) (a v : Int) (h : MpIn m) (v0 : 0 ≤ v) (v1 : v ≤ 255) : MpIn (writeM m a v) := by
  unfold writeM writeZ
  have e1 := h.l0; have e2 := h.l1; have e3 := h.h0; have e4 := h.h1; have e5 := h.r0; have e6 := h.r1
  split
  · unfold write1; split <;> first | exact h | exact ⟨h.k0, h.k1, by first | exact e1 | (show 0 ≤ _ % _; omega), by first | exact e2 | (show _ % _ ≤ _; omega), by first | exact e3 | (show 0 ≤ _ % _; omega), by first | exact e4 | (show _ % _ ≤ _; omega), by first | exact e5 | (show 0 ≤ _ % _; omega), by first | exact e6 | (show _ % _ ≤ _; omega)⟩
  · split
    · unfold write3; split <;> first | exact h | exact ⟨h.k0, h.k1, by first | exact e1 | (show 0 ≤ _ % _; omega), by first | exact e2 | (show _ % _ ≤ _; omega), by first | exact e3 | (show 0 ≤ _ % _; omega), by first | exact e4 | (show _ % _ ≤ _; omega), by first | exact e5 | (show 0 ≤ _ % _; omega), by first | exact e6 | (show _ % _ ≤ _; omega)⟩
    · split
      · unfold write5; split <;> first | exact h | exact ⟨h.k0, h.k1, by first | exact e1 | exact v0 | (show 0 ≤ _ % _; omega), by first | exact e2 | exact v1 | (show _ % _ ≤ _; omega), by first | exact e3 | (show 0 ≤ _ % _; omega), by first | exact e4 | (show _ % _ ≤ _; omega), by first | exact e5 | (show 0 ≤ _ % _; omega), by first | exact e6 | (show _ % _ ≤ _; omega)⟩
      · exact h
theorem new_in (k : Int) (k0 : -9223372036854775808 ≤ k) (k1 : k ≤ 9223372036854775807) : MpIn (newR k) := by
  unfold newR
  split
  · exact ⟨k0, k1, Int.le_refl 0, (by decide : (0 : Int) ≤ 255), Int.le_refl 0, (by decide : (0 : Int) ≤ 255), Int.le_refl 0, (by decide : (0 : Int) ≤ 255)⟩
  · exact ⟨by decide, by decide, by decide, by decide, by decide, by decide, by decide, by decide⟩
theorem one_bd (x : Int) (h0 : 0 ≤ x) (h1 : x ≤ 255) : 1 ≤ one x ∧ one x ≤ 255 := by unfold one; split <;> omega
theorem bank_bd (m : Mp) (a : Int) (h : MpIn m) : 0 ≤ bankM m a ∧ bankM m a ≤ 65535 := by
  have e1 := h.l0; have e2 := h.l1; have e3 := h.h0; have e4 := h.h1
  have o := one_bd m.low e1 e2
  unfold bankM bankLo bankHi
  repeat' split
  all_goals omega
theorem ramB_bd (m : Mp) (h : MpIn m) : 0 ≤ ramB m ∧ ramB m ≤ 255 := by
  have e3 := h.h0; have e4 := h.h1; have e5 := h.r0; have e6 := h.r1
  unfold ramB
  repeat' split
  all_goals omega
theorem kinds_of (k : Int) : k = 1 ∨ k = 3 ∨ k = 5 ∨ (k ≠ 1 ∧ k ≠ 3 ∧ k ≠ 5) := by omega
end Go.Proofs.YtfmddnekooojkaaGreatDoor
namespace Go.Proofs.YtfmddnekooojkaaGreatDoor
open Go.RowKit
set_option linter.unusedVariables false
set_option linter.unusedSimpArgs false

theorem Kept.setCell8 {W w : World} (h : Kept W w) {g : Nat} (hg : W.heap.size ≤ g) (j : Nat) (v : Value) : Kept W (w.setCell ⟨g, j, none⟩ v) :=
  ⟨h.os, h.output, by simpa using h.size, fun k hk => (heap_setCell_other w ⟨g, j, none⟩ k v (fun e => by have : k = g := e; omega)).trans (h.block k hk)⟩
theorem Kept.frz {W w : World} (h : Kept W w) {x : Addr} (hx : x.block < W.heap.size) : w.frozen? x = W.frozen? x := by
  unfold World.frozen?; rw [h.block x.block hx]
/-- A block of the walker's own, behind a call. -/
theorem mine {w0 W u : World} (g : Grown w0 W) (k : Kept W u) {b : Nat} {cs : Array Value} (hb : Has W b cs) (h0 : w0.heap.size ≤ b) : Has u b cs ∧ ∀ o, u.frozen? ⟨b, o, none⟩ = false :=
  ⟨⟨Nat.lt_of_lt_of_le hb.1 k.size, fun i => (k.cell (x := ⟨b, i, none⟩) hb.1).trans (hb.2 i)⟩, fun o => by rw [k.frz (x := ⟨b, o, none⟩) hb.1]; exact grown_froz g h0 o⟩
theorem has_set6 {w : World} {b : Nat} {c0 c1 c2 c3 c4 c5 : Value} (h : Has w b #[c0, c1, c2, c3, c4, c5]) (v0 v1 v2 v3 v4 v5 : Value) :
    Has ((((((w.setCell ⟨b, 0, none⟩ v0).setCell ⟨b, 1, none⟩ v1).setCell ⟨b, 2, none⟩ v2).setCell ⟨b, 3, none⟩ v3).setCell ⟨b, 4, none⟩ v4).setCell ⟨b, 5, none⟩ v5) b #[v0, v1, v2, v3, v4, v5] := by
  have k := has_set (has_set (has_set (has_set (has_set (has_set h 0 v0 (by simp)) 1 v1 (by simp)) 2 v2 (by simp)) 3 v3 (by simp)) 4 v4 (by simp)) 5 v5 (by simp)
  simpa using k
theorem Kept.set6 {W w : World} (h : Kept W w) {b : Nat} (hb : W.heap.size ≤ b) (v0 v1 v2 v3 v4 v5 : Value) :
    Kept W ((((((w.setCell ⟨b, 0, none⟩ v0).setCell ⟨b, 1, none⟩ v1).setCell ⟨b, 2, none⟩ v2).setCell ⟨b, 3, none⟩ v3).setCell ⟨b, 4, none⟩ v4).setCell ⟨b, 5, none⟩ v5) :=
  (((((h.setCell8 hb 0 v0).setCell8 hb 1 v1).setCell8 hb 2 v2).setCell8 hb 3 v3).setCell8 hb 4 v4).setCell8 hb 5 v5
theorem hasK {W u : World} (k : Kept W u) {b : Nat} {cs : Array Value} (hb : Has W b cs) : Has u b cs :=
  ⟨Nat.lt_of_lt_of_le hb.1 k.size, fun i => (k.cell (x := ⟨b, i, none⟩) hb.1).trans (hb.2 i)⟩
theorem frozK {W u : World} (k : Kept W u) {b : Nat} (hb : b < W.heap.size) (hf : ∀ o, W.frozen? ⟨b, o, none⟩ = false) : ∀ o, u.frozen? ⟨b, o, none⟩ = false :=
  fun o => by rw [k.frz (x := ⟨b, o, none⟩) hb]; exact hf o
theorem has_by {W w2 : World} {row : Option Nat} {b : Nat} {cs : Array Value} (hb : Has W b cs) (g : W.grownBy w2 row) (hr : ∀ k, row = some k → k ≠ b) : Has w2 b cs :=
  ⟨Nat.lt_of_lt_of_le hb.1 g.size, fun i => (World.cell?_of_block (w := W) (g.block b hb.1 (fun e => hr b e.symm rfl))).trans (hb.2 i)⟩
theorem froz_new (w : World) (c : Array Value) (t : TypeId) : ∀ o, (w.alloc (.cells c t)).frozen? ⟨w.heap.size, o, none⟩ = false :=
  fun o => grown_froz (alloc1 w c t) (Nat.le_refl _) o
end Go.Proofs.YtfmddnekooojkaaGreatDoor
namespace Go.Proofs.YtfmddnekooojkaaGreatDoor
open Go.RowKit
set_option linter.unusedVariables false
set_option linter.unusedSimpArgs false

structure Ck where
  sec : Int
  min : Int
  hour : Int
  day : Int
  halt : Bool
  carry : Bool
def ck0 : Ck := ⟨0, 0, 0, 0, false, false⟩
structure CkIn (c : Ck) : Prop where
  s0 : 0 ≤ c.sec
  s1 : c.sec ≤ 255
  m0 : 0 ≤ c.min
  m1 : c.min ≤ 255
  h0 : 0 ≤ c.hour
  h1 : c.hour ≤ 255
  d0 : 0 ≤ c.day
  d1 : c.day ≤ 65535
structure CkOk (c : Ck) : Prop where
  s0 : 0 ≤ c.sec
  s1 : c.sec ≤ 63
  m0 : 0 ≤ c.min
  m1 : c.min ≤ 63
  h0 : 0 ≤ c.hour
  h1 : c.hour ≤ 31
  d0 : 0 ≤ c.day
  d1 : c.day ≤ 511
def normC (c : Ck) : Ck := ⟨c.sec % 64, c.min % 64, c.hour % 32, c.day % 512, c.halt, c.carry⟩
theorem CkOk.inn {c : Ck} (h : CkOk c) : CkIn c := by
  obtain ⟨a, b, c, d, e, f, g, i⟩ := h
  exact ⟨a, by omega, c, by omega, e, by omega, g, by omega⟩
theorem norm_ok {c : Ck} (h : CkIn c) : CkOk (normC c) := by
  obtain ⟨a, b, c, d, e, f, g, i⟩ := h
  exact ⟨by show 0 ≤ _ % 64; omega, by show _ % 64 ≤ 63; omega, by show 0 ≤ _ % 64; omega, by show _ % 64 ≤ 63; omega, by show 0 ≤ _ % 32; omega, by show _ % 32 ≤ 31; omega, by show 0 ≤ _ % 512; omega, by show _ % 512 ≤ 511; omega⟩
theorem norm_id {c : Ck} (h : CkOk c) : normC c = c := by
  obtain ⟨sec, min, hour, day, halt, carry⟩ := c
  obtain ⟨a, b, c, d, e, f, g, i⟩ := h
  simp only at a b c d e f g i
  unfold normC
  simp only [Ck.mk.injEq, and_true]
  refine ⟨?_, ?_, ?_, ?_⟩ <;> omega
def tickN (w : Ck) : Ck :=
  if w.halt then w
  else if w.sec ≠ 59 then { w with sec := (w.sec + 1) % 64 }
  else if w.min ≠ 59 then { w with sec := 0, min := (w.min + 1) % 64 }
  else if w.hour ≠ 23 then { w with sec := 0, min := 0, hour := (w.hour + 1) % 32 }
  else if w.day ≠ 511 then { w with sec := 0, min := 0, hour := 0, day := w.day + 1 }
  else { w with sec := 0, min := 0, hour := 0, day := 0, carry := true }
def tickC (c : Ck) : Ck := tickN (normC c)
def runN : Nat → Ck → Ck
  | 0, c => c
  | n + 1, c => tickN (runN n c)
def runC (c : Ck) (n : Int) : Ck := runN n.toNat (normC c)
def runE (n : Int) : Int := if n < 0 ∨ 100000 < n then 1 else 0
def runR (c : Ck) (n : Int) : Ck := if n < 0 ∨ 100000 < n then ck0 else runC c n
theorem tick_ok {c : Ck} (h : CkOk c) : CkOk (tickN c) := by
  obtain ⟨a, b, d, e, f, g, i, j⟩ := id h
  unfold tickN
  by_cases q1 : c.halt = true
  · rw [if_pos q1]; exact h
  rw [if_neg q1]
  by_cases q2 : c.sec ≠ 59
  · rw [if_pos q2]; exact ⟨by show 0 ≤ _ % 64; omega, by show _ % 64 ≤ 63; omega, d, e, f, g, i, j⟩
  rw [if_neg q2]
  by_cases q3 : c.min ≠ 59
  · rw [if_pos q3]; exact ⟨Int.le_refl 0, (by decide : (0 : Int) ≤ 63), by show 0 ≤ _ % 64; omega, by show _ % 64 ≤ 63; omega, f, g, i, j⟩
  rw [if_neg q3]
  by_cases q4 : c.hour ≠ 23
  · rw [if_pos q4]; exact ⟨Int.le_refl 0, (by decide : (0 : Int) ≤ 63), Int.le_refl 0, (by decide : (0 : Int) ≤ 63), by show 0 ≤ _ % 32; omega, by show _ % 32 ≤ 31; omega, i, j⟩
  rw [if_neg q4]
  by_cases q5 : c.day ≠ 511
  · rw [if_pos q5]; exact ⟨Int.le_refl 0, (by decide : (0 : Int) ≤ 63), Int.le_refl 0, (by decide : (0 : Int) ≤ 63), Int.le_refl 0, (by decide : (0 : Int) ≤ 31), by show 0 ≤ c.day + 1; omega, by show c.day + 1 ≤ 511; omega⟩
  rw [if_neg q5]
  exact ⟨Int.le_refl 0, (by decide : (0 : Int) ≤ 63), Int.le_refl 0, (by decide : (0 : Int) ≤ 63), Int.le_refl 0, (by decide : (0 : Int) ≤ 31), Int.le_refl 0, (by decide : (0 : Int) ≤ 511)⟩
theorem run_ok {c : Ck} (h : CkOk c) (n : Nat) : CkOk (runN n c) := by
  induction n with
  | zero => exact h
  | succ n ih => exact tick_ok ih
theorem tickC_ok {c : Ck} (h : CkOk c) : tickC c = tickN c := by unfold tickC; rw [norm_id h]
theorem run_add (m n : Nat) (c : Ck) : runN n (runN m c) = runN (m + n) c := by
  induction n with
  | zero => rfl
  | succ n ih => show tickN (runN n (runN m c)) = tickN (runN (m + n) c); rw [ih]
def bit (b : Bool) (v : Int) : Int := if b then v else 0
def readV (w : Ck) (reg : Int) : Int :=
  if reg = 8 then w.sec else if reg = 9 then w.min else if reg = 10 then w.hour else if reg = 11 then w.day % 256 else if reg = 12 then w.day / 256 + bit w.halt 64 + bit w.carry 128 else 0
def regOk (reg : Int) : Bool := reg == 8 || reg == 9 || reg == 10 || reg == 11 || reg == 12
def regE (reg : Int) : Int := if regOk reg then 0 else 7
def writeN (w : Ck) (reg v : Int) : Ck :=
  if reg = 8 then { w with sec := v % 64 } else if reg = 9 then { w with min := v % 64 } else if reg = 10 then { w with hour := v % 32 } else if reg = 11 then { w with day := w.day / 256 * 256 + v }
  else if reg = 12 then { w with day := w.day % 256 + v % 2 * 256, halt := v / 64 % 2 == 1, carry := decide (128 ≤ v) } else ck0
def readC (c : Ck) (reg : Int) : Int := readV (normC c) reg
def writeC (c : Ck) (reg v : Int) : Ck := writeN (normC c) reg v
end Go.Proofs.YtfmddnekooojkaaGreatDoor
namespace Go.Proofs.YtfmddnekooojkaaGreatDoor
open Go.RowKit
set_option linter.unusedVariables false
set_option linter.unusedSimpArgs false

structure CkDay (c : Ck) : Prop where
  s0 : 0 ≤ c.sec
  s1 : c.sec ≤ 59
  m0 : 0 ≤ c.min
  m1 : c.min ≤ 59
  h0 : 0 ≤ c.hour
  h1 : c.hour ≤ 23
  d0 : 0 ≤ c.day
  d1 : c.day ≤ 511
  go : c.halt = false
def allS (c : Ck) : Int := c.sec + 60 * c.min + 3600 * c.hour + 86400 * c.day
theorem CkDay.ok {c : Ck} (h : CkDay c) : CkOk c := by
  obtain ⟨a, b, c, d, e, f, g, i, j⟩ := h
  exact ⟨a, by omega, c, by omega, e, by omega, g, i⟩
theorem day_inj {a b : Ck} (ha : CkDay a) (hb : CkDay b) (h : allS a = allS b) (hc : a.carry = b.carry) : a = b := by
  obtain ⟨s, m, hh, d, ht, cy⟩ := a
  obtain ⟨s', m', hh', d', ht', cy'⟩ := b
  obtain ⟨a1, a2, a3, a4, a5, a6, a7, a8, a9⟩ := ha
  obtain ⟨b1, b2, b3, b4, b5, b6, b7, b8, b9⟩ := hb
  simp only [allS] at *
  subst a9 b9 hc
  have e1 : d = d' := by omega
  subst e1
  have e2 : hh = hh' := by omega
  subst e2
  have e3 : m = m' := by omega
  subst e3
  have e4 : s = s' := by omega
  subst e4
  rfl
theorem tick_day {c : Ck} (h : CkDay c) : CkDay (tickN c) ∧ ((allS c < 44236799 ∧ allS (tickN c) = allS c + 1 ∧ (tickN c).carry = c.carry) ∨ (allS c = 44236799 ∧ allS (tickN c) = 0 ∧ (tickN c).carry = true)) := by
  obtain ⟨s, m, hh, d, ht, cy⟩ := c
  obtain ⟨a1, a2, a3, a4, a5, a6, a7, a8, a9⟩ := h
  simp only at a1 a2 a3 a4 a5 a6 a7 a8 a9
  subst a9
  unfold tickN allS
  simp only [Bool.false_eq_true, if_false]
  by_cases q1 : s ≠ 59
  · rw [if_pos q1]
    exact ⟨⟨by show 0 ≤ _ % 64; omega, by show _ % 64 ≤ 59; omega, a3, a4, a5, a6, a7, a8, rfl⟩, .inl ⟨by (try simp only); omega, by (try simp only); omega, rfl⟩⟩
  rw [if_neg q1]
  by_cases q2 : m ≠ 59
  · rw [if_pos q2]
    exact ⟨⟨Int.le_refl 0, (by decide : (0 : Int) ≤ 59), by show 0 ≤ _ % 64; omega, by show _ % 64 ≤ 59; omega, a5, a6, a7, a8, rfl⟩, .inl ⟨by (try simp only); omega, by (try simp only); omega, rfl⟩⟩
  rw [if_neg q2]
  by_cases q3 : hh ≠ 23
  · rw [if_pos q3]
    exact ⟨⟨Int.le_refl 0, (by decide : (0 : Int) ≤ 59), Int.le_refl 0, (by decide : (0 : Int) ≤ 59), by show 0 ≤ _ % 32; omega, by show _ % 32 ≤ 23; omega, a7, a8, rfl⟩, .inl ⟨by (try simp only); omega, by (try simp only); omega, rfl⟩⟩
  rw [if_neg q3]
  by_cases q4 : d ≠ 511
  · rw [if_pos q4]
    exact ⟨⟨Int.le_refl 0, (by decide : (0 : Int) ≤ 59), Int.le_refl 0, (by decide : (0 : Int) ≤ 59), Int.le_refl 0, (by decide : (0 : Int) ≤ 23), by show 0 ≤ d + 1; omega, by show d + 1 ≤ 511; omega, rfl⟩, .inl ⟨by (try simp only); omega, by (try simp only); omega, rfl⟩⟩
  rw [if_neg q4]
  exact ⟨⟨Int.le_refl 0, (by decide : (0 : Int) ≤ 59), Int.le_refl 0, (by decide : (0 : Int) ≤ 59), Int.le_refl 0, (by decide : (0 : Int) ≤ 23), Int.le_refl 0, (by decide : (0 : Int) ≤ 511), rfl⟩, .inr ⟨by (try simp only); omega, by (try simp only); omega, rfl⟩⟩
theorem run_day {c : Ck} (h : CkDay c) (n : Nat) (hn : n ≤ 86400) : CkDay (runN n c) ∧ ((allS c + n < 44236800 ∧ allS (runN n c) = allS c + n ∧ (runN n c).carry = c.carry) ∨ (44236800 ≤ allS c + n ∧ allS (runN n c) = allS c + n - 44236800 ∧ (runN n c).carry = true)) := by
  have b0 : 0 ≤ allS c ∧ allS c ≤ 44236799 := by
    obtain ⟨a1, a2, a3, a4, a5, a6, a7, a8, a9⟩ := h
    unfold allS
    constructor <;> omega
  induction n with
  | zero => exact ⟨h, .inl ⟨by show allS c + ((0 : Nat) : Int) < _; omega, by show allS c = allS c + ((0 : Nat) : Int); omega, rfl⟩⟩
  | succ n ih =>
    obtain ⟨i1, i2⟩ := ih (by omega)
    obtain ⟨t1, t2⟩ := tick_day i1
    refine ⟨t1, ?_⟩
    show (_ ∧ allS (tickN (runN n c)) = _ ∧ (tickN (runN n c)).carry = _) ∨ (_ ∧ allS (tickN (runN n c)) = _ ∧ (tickN (runN n c)).carry = _)
    rcases i2 with ⟨p1, p2, p3⟩ | ⟨p1, p2, p3⟩
    · rcases t2 with ⟨u1, u2, u3⟩ | ⟨u1, u2, u3⟩
      · exact .inl ⟨by omega, by omega, u3.trans p3⟩
      · exact .inr ⟨by omega, by omega, u3⟩
    · rcases t2 with ⟨u1, u2, u3⟩ | ⟨u1, u2, u3⟩
      · exact .inr ⟨by omega, by omega, u3.trans p3⟩
      · omega
theorem next_day (s m h d : Int) (H : CkDay ⟨s, m, h, d, false, false⟩) : runN 86400 ⟨s, m, h, d, false, false⟩ = ⟨s, m, h, (d + 1) % 512, false, d == 511⟩ := by
  obtain ⟨r1, r2⟩ := run_day H 86400 (Nat.le_refl _)
  have G : CkDay ⟨s, m, h, (d + 1) % 512, false, d == 511⟩ := by
    obtain ⟨a1, a2, a3, a4, a5, a6, a7, a8, a9⟩ := H
    exact ⟨a1, a2, a3, a4, a5, a6, by show 0 ≤ _ % 512; omega, by show _ % 512 ≤ 511; omega, rfl⟩
  obtain ⟨a1, a2, a3, a4, a5, a6, a7, a8, a9⟩ := H
  simp only [allS] at a1 a2 a3 a4 a5 a6 a7 a8 r2
  refine day_inj r1 G ?_ ?_
  · simp only [allS]
    rcases r2 with ⟨p1, p2, p3⟩ | ⟨p1, p2, p3⟩ <;> omega
  · rcases r2 with ⟨p1, p2, p3⟩ | ⟨p1, p2, p3⟩
    · rw [p3]
      show false = (d == 511)
      have : d ≠ 511 := by omega
      simp [this]
    · rw [p3]
      show true = (d == 511)
      have : d = 511 := by omega
      simp [this]
theorem run_halt {c : Ck} (h : c.halt = true) (n : Nat) : runN n c = c := by
  induction n with
  | zero => rfl
  | succ n ih => show tickN (runN n c) = c; rw [ih]; unfold tickN; rw [if_pos h]
theorem one_back (w : Ck) (h : CkOk w) : (⟨readV w 8, readV w 9, readV w 10, readV w 12 % 2 * 256 + readV w 11, readV w 12 / 64 % 2 == 1, decide (128 ≤ readV w 12)⟩ : Ck) = w ∧ readV w 8 ≤ 63 ∧ readV w 9 ≤ 63 ∧ readV w 10 ≤ 31 ∧ readV w 12 % 64 ≤ 1 ∧ 0 ≤ readV w 12 ∧ readV w 12 ≤ 255 ∧ 0 ≤ readV w 11 ∧ readV w 11 ≤ 255 := by
  obtain ⟨s, m, hh, d, ht, cy⟩ := w
  obtain ⟨a1, a2, a3, a4, a5, a6, a7, a8⟩ := h
  simp only at a1 a2 a3 a4 a5 a6 a7 a8
  have e8 : readV ⟨s, m, hh, d, ht, cy⟩ 8 = s := rfl
  have e9 : readV ⟨s, m, hh, d, ht, cy⟩ 9 = m := rfl
  have e10 : readV ⟨s, m, hh, d, ht, cy⟩ 10 = hh := rfl
  have e11 : readV ⟨s, m, hh, d, ht, cy⟩ 11 = d % 256 := rfl
  have e12 : readV ⟨s, m, hh, d, ht, cy⟩ 12 = d / 256 + bit ht 64 + bit cy 128 := rfl
  rw [e8, e9, e10, e11, e12]
  cases ht <;> cases cy <;> simp only [bit, if_true, if_false, Bool.false_eq_true, Ck.mk.injEq] <;> refine ⟨⟨trivial, trivial, trivial, by omega, ?_, ?_⟩, by omega, by omega, by omega, by omega, by omega, by omega, by omega, by omega⟩ <;> first | (simp; omega) | (simp only [decide_eq_true_eq, decide_eq_false_iff_not, beq_eq_false_iff_ne, ne_eq, beq_iff_eq]; omega)
theorem or_fin9 : ∀ v : Fin 256, bits .or .u8 ((v.val : Int) % 64) (v.val : Int) = (v.val : Int) ∧ bits .or .u8 ((v.val : Int) % 32) (v.val : Int) = (v.val : Int) ∧ bits .or .u8 (v.val : Int) (v.val : Int) = (v.val : Int) ∧ bits .or .u8 ((v.val : Int) % 2 + bit ((v.val : Int) / 64 % 2 == 1) 64 + bit (decide (128 ≤ (v.val : Int))) 128) (v.val : Int) = (v.val : Int) := by decide +kernel
theorem or_any9 (v : Int) (v0 : 0 ≤ v) (v1 : v ≤ 255) : bits .or .u8 (v % 64) v = v ∧ bits .or .u8 (v % 32) v = v ∧ bits .or .u8 v v = v ∧ bits .or .u8 (v % 2 + bit (v / 64 % 2 == 1) 64 + bit (decide (128 ≤ v)) 128) v = v :=
  fin8 (p := fun v => bits .or .u8 (v % 64) v = v ∧ bits .or .u8 (v % 32) v = v ∧ bits .or .u8 v v = v ∧ bits .or .u8 (v % 2 + bit (v / 64 % 2 == 1) 64 + bit (decide (128 ≤ v)) 128) v = v) or_fin9 v v0 v1
theorem write_ok (w : Ck) (k v : Int) (h : CkOk w) (hk : 8 ≤ k ∧ k ≤ 12) (v0 : 0 ≤ v) (v1 : v ≤ 255) : CkOk (writeN w k v) := by
  obtain ⟨s, m, hh, d, ht, cy⟩ := w
  obtain ⟨a1, a2, a3, a4, a5, a6, a7, a8⟩ := h
  simp only at a1 a2 a3 a4 a5 a6 a7 a8
  have : k = 8 ∨ k = 9 ∨ k = 10 ∨ k = 11 ∨ k = 12 := by omega
  rcases this with rfl | rfl | rfl | rfl | rfl
  · exact ⟨by show 0 ≤ v % 64; omega, by show v % 64 ≤ 63; omega, a3, a4, a5, a6, a7, a8⟩
  · exact ⟨a1, a2, by show 0 ≤ v % 64; omega, by show v % 64 ≤ 63; omega, a5, a6, a7, a8⟩
  · exact ⟨a1, a2, a3, a4, by show 0 ≤ v % 32; omega, by show v % 32 ≤ 31; omega, a7, a8⟩
  · exact ⟨a1, a2, a3, a4, a5, a6, by show 0 ≤ d / 256 * 256 + v; omega, by show d / 256 * 256 + v ≤ 511; omega⟩
  · exact ⟨a1, a2, a3, a4, a5, a6, by show 0 ≤ d % 256 + v % 2 * 256; omega, by show d % 256 + v % 2 * 256 ≤ 511; omega⟩
theorem read_write (w : Ck) (k i v : Int) (h : CkOk w) (hk : 8 ≤ k ∧ k ≤ 12) (hi : 8 ≤ i ∧ i ≤ 12) (v0 : 0 ≤ v) (v1 : v ≤ 255) : (i ≠ k → readV (writeN w k v) i = readV w i) ∧ (i = k → bits .or .u8 (readV (writeN w k v) i) v = v) := by
  obtain ⟨s, m, hh, d, ht, cy⟩ := w
  obtain ⟨a1, a2, a3, a4, a5, a6, a7, a8⟩ := h
  simp only at a1 a2 a3 a4 a5 a6 a7 a8
  obtain ⟨o1, o2, o3, o4⟩ := or_any9 v v0 v1
  have e11 : (d / 256 * 256 + v) % 256 = v := by omega
  have e12 : (d / 256 * 256 + v) / 256 = d / 256 := by omega
  have f11 : (d % 256 + v % 2 * 256) % 256 = d % 256 := by omega
  have f12 : (d % 256 + v % 2 * 256) / 256 = v % 2 := by omega
  have hk2 : k = 8 ∨ k = 9 ∨ k = 10 ∨ k = 11 ∨ k = 12 := by omega
  have hi2 : i = 8 ∨ i = 9 ∨ i = 10 ∨ i = 11 ∨ i = 12 := by omega
  rcases hk2 with rfl | rfl | rfl | rfl | rfl <;> rcases hi2 with rfl | rfl | rfl | rfl | rfl <;> refine ⟨fun q => ?_, fun q => ?_⟩ <;> first
    | exact absurd rfl q
    | (exfalso; omega)
    | rfl
    | exact o1
    | exact o2
    | (show bits .or .u8 ((d / 256 * 256 + v) % 256) v = v; rw [e11]; exact o3)
    | (show (d / 256 * 256 + v) / 256 + bit ht 64 + bit cy 128 = d / 256 + bit ht 64 + bit cy 128; rw [e12])
    | (show (d % 256 + v % 2 * 256) % 256 = d % 256; exact f11)
    | (show bits .or .u8 ((d % 256 + v % 2 * 256) / 256 + bit (v / 64 % 2 == 1) 64 + bit (decide (128 ≤ v)) 128) v = v; rw [f12]; exact o4)
theorem write_read (w : Ck) (k : Int) (h : CkOk w) (hk : 8 ≤ k ∧ k ≤ 12) : writeN w k (readV w k) = w := by
  obtain ⟨s, m, hh, d, ht, cy⟩ := w
  obtain ⟨b1, _⟩ := one_back ⟨s, m, hh, d, ht, cy⟩ h
  obtain ⟨a1, a2, a3, a4, a5, a6, a7, a8⟩ := h
  simp only at a1 a2 a3 a4 a5 a6 a7 a8
  have hk2 : k = 8 ∨ k = 9 ∨ k = 10 ∨ k = 11 ∨ k = 12 := by omega
  rcases hk2 with rfl | rfl | rfl | rfl | rfl
  · show (⟨s % 64, m, hh, d, ht, cy⟩ : Ck) = _; rw [show s % 64 = s by omega]
  · show (⟨s, m % 64, hh, d, ht, cy⟩ : Ck) = _; rw [show m % 64 = m by omega]
  · show (⟨s, m, hh % 32, d, ht, cy⟩ : Ck) = _; rw [show hh % 32 = hh by omega]
  · show (⟨s, m, hh, d / 256 * 256 + d % 256, ht, cy⟩ : Ck) = _; rw [show d / 256 * 256 + d % 256 = d by omega]
  · have e := b1
    have q4 := congrArg Ck.day e
    have q5 := congrArg Ck.halt e
    have q6 := congrArg Ck.carry e
    simp only at q4 q5 q6
    show (⟨s, m, hh, d % 256 + readV ⟨s, m, hh, d, ht, cy⟩ 12 % 2 * 256, readV ⟨s, m, hh, d, ht, cy⟩ 12 / 64 % 2 == 1, decide (128 ≤ readV ⟨s, m, hh, d, ht, cy⟩ 12)⟩ : Ck) = _
    rw [q5, q6]
    have e11 : readV ⟨s, m, hh, d, ht, cy⟩ 11 = d % 256 := rfl
    rw [e11] at q4
    rw [show d % 256 + readV ⟨s, m, hh, d, ht, cy⟩ 12 % 2 * 256 = d by omega]
end Go.Proofs.YtfmddnekooojkaaGreatDoor
namespace Go.Proofs.YtfmddnekooojkaaGreatDoor
open Go.RowKit
set_option linter.unusedVariables false
set_option linter.unusedSimpArgs false

/-- All blocks are as they were, but those of F; nothing else has turned. -/
structure KeptX (F : Nat → Prop) (W w : World) : Prop where
  os : w.os = W.os
  output : w.output = W.output
  size : W.heap.size ≤ w.heap.size
  block : ∀ k, k < W.heap.size → ¬ F k → w.heap[k]? = W.heap[k]?
theorem KeptX.of {F : Nat → Prop} {W w : World} (h : Kept W w) : KeptX F W w := ⟨h.os, h.output, h.size, fun k hk _ => h.block k hk⟩
theorem KeptX.refl {F : Nat → Prop} (w : World) : KeptX F w w := ⟨rfl, rfl, Nat.le_refl _, fun _ _ _ => rfl⟩
theorem KeptX.trans {F G : Nat → Prop} {W w u : World} (h : KeptX F W w) (g : KeptX G w u) (hG : ∀ k, G k → F k ∨ W.heap.size ≤ k) : KeptX F W u :=
  ⟨g.os.trans h.os, g.output.trans h.output, Nat.le_trans h.size g.size, fun k hk hf =>
    (g.block k (Nat.lt_of_lt_of_le hk h.size) (fun q => by rcases hG k q with q | q <;> first | exact hf q | omega)).trans (h.block k hk hf)⟩
theorem KeptX.then {F : Nat → Prop} {W w u : World} (h : KeptX F W w) (g : Kept w u) : KeptX F W u :=
  h.trans (G := fun _ => False) ⟨g.os, g.output, g.size, fun k hk _ => g.block k hk⟩ (fun _ q => q.elim)
theorem KeptX.kept {F : Nat → Prop} {W w u : World} (g : KeptX F w u) (h : Kept W w) (hF : ∀ k, F k → W.heap.size ≤ k) : Kept W u :=
  ⟨g.os.trans h.os, g.output.trans h.output, Nat.le_trans h.size g.size, fun k hk =>
    (g.block k (Nat.lt_of_lt_of_le hk h.size) (fun q => by have := hF k q; omega)).trans (h.block k hk)⟩
theorem KeptX.setCell {F : Nat → Prop} {W w : World} (h : KeptX F W w) {g : Nat} (hg : F g ∨ W.heap.size ≤ g) (j : Nat) (v : Value) : KeptX F W (w.setCell ⟨g, j, none⟩ v) :=
  ⟨h.os, h.output, by simpa using h.size, fun k hk hf => (heap_setCell_other w ⟨g, j, none⟩ k v (fun e => by
    have e : k = g := e
    subst e
    rcases hg with q | q
    · exact hf q
    · omega)).trans (h.block k hk hf)⟩
theorem KeptX.drew {F : Nat → Prop} {W w : World} (h : KeptX F W w) : KeptX F W w.drew := ⟨h.os, h.output, h.size, h.block⟩
theorem KeptX.drewN {F : Nat → Prop} {W w : World} (h : KeptX F W w) {n : Nat} : KeptX F W (w.drewN n) := ⟨h.os, h.output, h.size, h.block⟩
theorem KeptX.alloc {F : Nat → Prop} {W w : World} (h : KeptX F W w) (o : Obj) : KeptX F W (w.alloc o) := h.then ((Kept.refl w).alloc o)
theorem cellX {F : Nat → Prop} {W u : World} (k : KeptX F W u) {x : Addr} (hx : x.block < W.heap.size) (hf : ¬ F x.block) : u.cell? x = W.cell? x :=
  World.cell?_of_block (k.block x.block hx hf)
theorem hasX {F : Nat → Prop} {W u : World} (k : KeptX F W u) {b : Nat} {cs : Array Value} (hb : Has W b cs) (hf : ¬ F b) : Has u b cs :=
  ⟨Nat.lt_of_lt_of_le hb.1 k.size, fun i => (cellX k (x := ⟨b, i, none⟩) hb.1 hf).trans (hb.2 i)⟩
theorem frozX {F : Nat → Prop} {W u : World} (k : KeptX F W u) {b : Nat} (hb : b < W.heap.size) (hf : ¬ F b) (h : ∀ o, W.frozen? ⟨b, o, none⟩ = false) : ∀ o, u.frozen? ⟨b, o, none⟩ = false :=
  fun o => by rw [World.frozen?_of_block (k.block b hb hf)]; exact h o
/-- A row lies outside of F. -/
def Off (F : Nat → Prop) (a : Option Addr) (zs : List Int) : Prop := zs = [] ∨ ∀ x, a = some x → ¬ F x.block
theorem rowX {F : Nat → Prop} {W u : World} (k : KeptX F W u) {a : Option Addr} {zs : List Int} (h : Row W a zs) (ho : Off F a zs) : Row u a zs := by
  obtain ⟨h1, h2, h3⟩ := h
  refine ⟨h1, h2, ?_⟩
  rcases h3 with h3 | ⟨x, e, hx, hc⟩
  · exact .inl h3
  · by_cases hz : zs = []
    · exact .inl hz
    · refine .inr ⟨x, e, Nat.lt_of_lt_of_le hx k.size, fun i hi => ?_⟩
      rw [cellX k (by rw [addB]; exact hx) (by rw [addB]; exact (ho.resolve_left hz) x e)]
      exact hc i hi
theorem off_of {F : Nat → Prop} {w : World} {a : Option Addr} {zs : List Int} (h : Row w a zs) (hF : ∀ k, F k → w.heap.size ≤ k) : Off F a zs := by
  rcases h.2.2 with h3 | ⟨x, e, hx, hc⟩
  · exact .inl h3
  · exact .inr (fun y hy q => by rw [e] at hy; cases hy; have := hF _ q; omega)
theorem off_grow {F G : Nat → Prop} {w : World} {a : Option Addr} {zs : List Int} (h : Row w a zs) (ho : Off F a zs) (hG : ∀ k, G k → F k ∨ w.heap.size ≤ k) : Off G a zs := by
  rcases h.2.2 with h3 | ⟨x, e, hx, hc⟩
  · exact .inl h3
  · rcases ho with ho | ho
    · exact .inl ho
    · exact .inr (fun y hy q => by
        rcases hG _ q with q | q
        · exact ho y hy q
        · rw [e] at hy; cases hy; omega)
end Go.Proofs.YtfmddnekooojkaaGreatDoor
