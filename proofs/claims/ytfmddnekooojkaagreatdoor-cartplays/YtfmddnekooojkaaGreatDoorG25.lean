/- What a law's frame wants of an image and of a wish that come in. Acts that come in: a slice of structs, each with bytes of its own. -/
import Derived.Test.YtfmddnekooojkaaGreatDoorRows
import Derived.Test.YtfmddnekooojkaaGreatDoorG04
import Derived.ProofKit
import Derived.OpenShut
import Derived.ChangeSlices
import Derived.SizedLaws
import Derived.Test.YtfmddnekooojkaaGreatDoorG02
namespace Go.Proofs.YtfmddnekooojkaaGreatDoor
open Go.RowKit Go.ChangeShapes Go.WideShapes Go.ChangeAt
set_option linter.unusedVariables false
set_option linter.unusedSimpArgs false

theorem sized_part {H : Type} {P : Program} {ts : List TypeId} {ds : List (DataW H)} (h : (DataW.weightsEach P ts ds).all (· ≤ reachBytes) = true) {j : Nat} {t : TypeId} {d : DataW H} (ht : ts[j]? = some t) (hd : ds[j]? = some d) : (d.weights P t).all (· ≤ reachBytes) = true :=
  List.all_eq_true.2 fun n hn => List.all_eq_true.1 h n (DataW.weights_mem_each ht hd n hn)
theorem cell_lt7 {W : World} {x : Addr} {v : Value} (h : W.cell? x = some v) : x.block < W.heap.size := by
  rcases Nat.lt_or_ge x.block W.heap.size with q | q
  · exact q
  · simp [World.cell?, Array.getElem?_eq_none q] at h
theorem row_nil7 (W : World) (a : Option Addr) : Row W a [] := ⟨by simp, (fun z hz => by cases hz), .inl rfl⟩
theorem row_of7 {W : World} {x : Addr} {zs : List Int} {len : Nat} (hl : len ≤ zs.length) (hc : ∀ i, i < zs.length → W.cell? (x.add i) = some (.int .u8 (zs.getD i 0))) (hw : ∀ z ∈ zs, 0 ≤ z ∧ z ≤ 255) (hm : len ≤ maxLen) : Row W (some x) (zs.take len) := by
  have tk : (zs.take len).length = len := by rw [List.length_take]; omega
  refine ⟨by rw [tk]; exact hm, fun z hz => hw z (List.mem_of_mem_take hz), ?_⟩
  by_cases h0 : len = 0
  · left; rw [h0]; rfl
  · right
    refine ⟨x, rfl, cell_lt7 (hc 0 (by omega)), fun i hi => ?_⟩
    rw [tk] at hi
    rw [hc i (by omega)]
    simp [List.getD_eq_getElem?_getD, List.getElem?_take, hi]
theorem open_bytes7 {H : Type} {enc : TypeId × Value → H} {W : World} {fuel : Nat} {c : Value} {x : DataW H × List MemPlace}
    (h : DataW.trod enc Tryz.prog W 0 (fun _ => true) true fuel 22 [c] = some x) :
    ∃ (a : Option Addr) (cap : Nat) (zs : List Int), c = .slice a zs.length cap ∧ Row W a zs ∧ zs.length ≤ cap ∧ cap ≤ maxLen ∧ (a = none → cap = 0) ∧ ((x.1.weights Tryz.prog 22).all (· ≤ reachBytes) = true → zs.length ≤ 140737488355328) := by
  rcases open_ints Tryz.underlying22 Tryz.underlying5 (by kernel_rfl) h with ⟨hcs, hx⟩ | ⟨y, l, cp, zs, hcs, hb, hl, hm, hz, hx, hcell, hwz⟩
  · simp at hcs
    subst hcs
    exact ⟨none, 0, [], rfl, row_nil7 W none, by simp, by simp, fun _ => rfl, fun _ => by simp⟩
  · simp at hcs
    subst hcs
    simp only [if_true] at hz
    have tk : (zs.take l).length = l := by rw [List.length_take, hz]; omega
    exact ⟨some y, cp, zs.take l, by rw [tk], row_of7 (by omega) hcell (fun z hz => bounds_u8 (hwz z hz)) (by omega), by omega, hm, (fun e => by cases e), fun hw => by
      rw [hx] at hw
      simp only [DataW.weights, Tryz.underlying22, List.all_cons, Bool.and_eq_true, decide_eq_true_eq, lits, List.length_map, show Tryz.prog.bytesOf 5 = 1 by kernel_rfl] at hw
      have rl : reachBytes = 140737488351232 := rfl
      have := hw.1
      omega⟩
end Go.Proofs.YtfmddnekooojkaaGreatDoor
namespace Go.Proofs.YtfmddnekooojkaaGreatDoor
open Go.RowKit Go.ChangeShapes Go.WideShapes Go.ChangeAt
set_option linter.unusedVariables false
set_option linter.unusedSimpArgs false

/-- An act: its kind, its place, its byte; where its bytes lie, their room, and they. -/
structure Ac where
  k : Int
  a : Int
  v : Int
  p : Option Addr
  cap : Nat
  z : List Int
def elA (x : Ac) : List Value := [.int .i64 x.k, .int .u16 x.a, .int .u8 x.v, .slice x.p x.z.length x.cap]
structure AcIn (W : World) (x : Ac) : Prop where
  k0 : -9223372036854775808 ≤ x.k
  k1 : x.k ≤ 9223372036854775807
  a0 : 0 ≤ x.a
  a1 : x.a ≤ 65535
  v0 : 0 ≤ x.v
  v1 : x.v ≤ 255
  row : Row W x.p x.z
  len : x.z.length ≤ x.cap
  max : x.cap ≤ maxLen
  nil : x.p = none → x.cap = 0
set_option maxRecDepth 100000 in
theorem act_fields : ∃ fs : Array Field, Tryz.prog.underlying 41 = some (.struct fs) ∧ fs.size = 4 ∧ (fs.toList.map fun f => (f.type, f.offset, Tryz.prog.cellsOf f.type)) = [(3, 0, 1), (29, 1, 1), (5, 2, 1), (22, 3, 1)] :=
  ⟨_, Tryz.underlying41, by kernel_rfl, by kernel_rfl⟩
set_option maxRecDepth 100000 in
theorem open_act {H : Type} {enc : TypeId × Value → H} {W : World} {fuel : Nat} {cs : List Value} {y : DataW H × List MemPlace} (hsz : cs.length = 4)
    (hf : DataW.trod enc Tryz.prog W 0 (fun _ => true) true fuel 41 cs = some y) : ∃ x : Ac, cs = elA x ∧ AcIn W x := by
  obtain ⟨fs, hs, hsz4, hfs⟩ := act_fields
  obtain ⟨xs, n, _, hxe, _, hlen, hfl⟩ := DataW.trod_struct hs hf
  rw [hsz4] at hlen
  have each : ∀ (i : Nat) (t o : Nat), (fs.toList.map fun f => (f.type, f.offset, Tryz.prog.cellsOf f.type))[i]? = some (t, o, 1) → DataW.trod enc Tryz.prog W 0 (fun _ => true) true n t ((cs.drop o).take 1) = xs[i]? := by
    intro i t o hi
    rw [List.getElem?_map] at hi
    cases hq : fs.toList[i]? with
    | none => rw [hq] at hi; cases hi
    | some f =>
      rw [hq] at hi
      have e := Option.some.inj hi
      simp only [Prod.mk.injEq] at e
      obtain ⟨e1, e2, e3⟩ := e
      have q := hfl i f (by rw [← hq]; simp)
      rw [e1, e2] at q
      rw [e1] at e3
      rw [e3] at q
      exact q
  rw [hfs] at each
  match cs, hsz, xs, hlen with
  | [c0, c1, c2, c3], _, [y0, y1, y2, y3], _ =>
    have h0 : DataW.trod enc Tryz.prog W 0 (fun _ => true) true n 3 [c0] = some y0 := each 0 _ _ rfl
    have h1 : DataW.trod enc Tryz.prog W 0 (fun _ => true) true n 29 [c1] = some y1 := each 1 _ _ rfl
    have h2 : DataW.trod enc Tryz.prog W 0 (fun _ => true) true n 5 [c2] = some y2 := each 2 _ _ rfl
    have h3 : DataW.trod enc Tryz.prog W 0 (fun _ => true) true n 22 [c3] = some y3 := each 3 _ _ rfl
    obtain ⟨k, e0, _, w0⟩ := DataW.trod_int Tryz.underlying3 h0
    obtain ⟨a, e1, _, w1⟩ := DataW.trod_int Tryz.underlying29 h1
    obtain ⟨v, e2, _, w2⟩ := DataW.trod_int Tryz.underlying5 h2
    obtain ⟨p, cap, zs, e3, r3, l3, m3, n3, _⟩ := open_bytes7 h3
    simp at e0 e1 e2
    subst e0 e1 e2 e3
    exact ⟨⟨k, a, v, p, cap, zs⟩, rfl, (bounds_i64 w0).1, (bounds_i64 w0).2, (bounds_u16 w1).1, (bounds_u16 w1).2, (bounds_u8 w2).1, (bounds_u8 w2).2, r3, l3, m3, n3⟩
set_option maxRecDepth 100000 in
theorem open_acts {H : Type} {enc : TypeId × Value → H} {W : World} {fuel : Nat} {v : Value} {x : DataW H × List MemPlace} (h : DataW.trod enc Tryz.prog W 0 (fun _ => true) true fuel 23 [v] = some x) :
    ∃ (a : Option Addr) (cap : Nat) (s : List Ac), v = .slice a s.length cap ∧ FRow W a 4 (s.map elA) ∧ (∀ y ∈ s, AcIn W y) ∧ s.length ≤ cap ∧ cap ≤ maxLen ∧ (a = none → cap = 0) := by
  have ht := Tryz.underlying23
  have hc : Tryz.prog.cellsOf 41 = 4 := by kernel_rfl
  rcases DataW.trod_slice ht h with ⟨h1, h2⟩ | ⟨a, len, cap, elems, rest, m, _, hv, hx, hb, hl, hm, hlen, hel, hsp, hns⟩
  · simp at h1
    subst h1
    exact ⟨none, 0, [], rfl, ⟨by simp, .inl rfl⟩, fun _ h => (by cases h), by simp, by simp, fun _ => rfl⟩
  · simp at hv
    subst hv
    have each : ∀ i, i < len → ∃ cs y, W.cells? 0 (a.add (i * 4)) 4 = some cs ∧ DataW.trod enc Tryz.prog W 0 (fun _ => true) true m 41 cs = some y := by
      intro i hi
      have := hel i hi
      rw [hc, List.getElem?_eq_getElem (by omega)] at this
      obtain ⟨cs, h1, h2⟩ := Option.bind_eq_some_iff.1 this
      exact ⟨cs, _, h1, h2⟩
    obtain ⟨s, hs1, hs2⟩ := list_choose (f := elA) (p := AcIn W) ((List.range len).map (fun i => (W.cells? 0 (a.add (i * 4)) 4).getD [])) (fun cs hcs => by
      obtain ⟨i, hi, rfl⟩ := List.mem_map.1 hcs
      obtain ⟨cs2, y2, h3, h4⟩ := each i (List.mem_range.1 hi)
      rw [h3, Option.getD_some]
      exact open_act (World.cells?_some h3).2.1 h4)
    have sl : s.length = len := by
      have := congrArg List.length hs1
      simpa using this.symm
    refine ⟨some a, cap, s, by rw [sl], ⟨by rw [← hs1]; simp; omega, ?_⟩, hs2, by omega, hm, (fun e => by cases e)⟩
    by_cases hz : len = 0
    · left
      obtain rfl := List.eq_nil_of_length_eq_zero (sl.trans hz)
      rfl
    · right
      obtain ⟨cs, y, h1, _⟩ := each 0 (by omega)
      refine ⟨a, rfl, ?_, fun i cs hi j hj => ?_⟩
      · have := World.cells?_block h1 (by decide)
        rw [addFB] at this
        exact this
      · rw [← hs1, List.getElem?_map] at hi
        have hil : i < len := by
          by_cases q : i < len
          · exact q
          · rw [List.getElem?_eq_none (by simp; omega)] at hi; cases hi
        rw [List.getElem?_range hil] at hi
        obtain ⟨cs2, y2, h3, _⟩ := each i hil
        simp only [Option.map_some, Option.some.injEq, h3, Option.getD_some] at hi
        subst hi
        obtain ⟨_, hlen2, hcell⟩ := World.cells?_some h3
        rw [← addF]
        exact hcell j hj
theorem acIn_kept {W w : World} (g : Kept W w) {x : Ac} (h : AcIn W x) : AcIn w x := ⟨h.k0, h.k1, h.a0, h.a1, h.v0, h.v1, row_kept g h.row, h.len, h.max, h.nil⟩
end Go.Proofs.YtfmddnekooojkaaGreatDoor
