/- What a law's frame wants of an image and of a wish that come in. -/
import Derived.Test.YtfmehkaojfjdjaaDoorRows
import Derived.Test.YtfmehkaojfjdjaaDoorRow7
import Derived.ProofKit
import Derived.OpenShut
import Derived.ChangeSlices
import Derived.SizedLaws
namespace Go.Proofs.YtfmehkaojfjdjaaDoor
open Go.RowKit Go.ChangeShapes Go.WideShapes Go.ChangeAt
set_option linter.unusedVariables false
set_option linter.unusedSimpArgs false

theorem sized_part {H : Type} {P : Program} {ts : List TypeId} {ds : List (DataW H)} (h : (DataW.weightsEach P ts ds).all (· ≤ reachBytes) = true) {j : Nat} {t : TypeId} {d : DataW H} (ht : ts[j]? = some t) (hd : ds[j]? = some d) : (d.weights P t).all (· ≤ reachBytes) = true :=
  List.all_eq_true.2 fun n hn => List.all_eq_true.1 h n (DataW.weights_mem_each ht hd n hn)
theorem cell_lt7 {W : World} {x : Addr} {v : Value} (h : W.cell? x = some v) : x.block < W.heap.size := by
  rcases Nat.lt_or_ge x.block W.heap.size with q | q
  · exact q
  · simp [World.cell?, Array.getElem?_eq_none q] at h
theorem row_nil7 (W : World) (a : Option Addr) : Row W a [] := ⟨by simp, (fun z hz => by cases hz), .inl rfl⟩
theorem row_of7 {W : World} {x : Addr} {zs : List Int} {len : Nat} (hl : len ≤ zs.length) (hc : ∀ i, i < zs.length → W.cell? (x.add i) = some (.int .u8 (zs.getD i 0))) (hw : ∀ z ∈ zs, 0 ≤ z ∧ z ≤ 255) (hm : len ≤ maxLen) : Row W (some x) (zs.take len) := by
  have tk : (zs.take len).length = len := by rw [List.length_take]; omega
  refine ⟨by rw [tk]; exact hm, fun z hz => hw z (List.mem_of_mem_take hz), ?_⟩
  by_cases h0 : len = 0
  · left; rw [h0]; rfl
  · right
    refine ⟨x, rfl, cell_lt7 (hc 0 (by omega)), fun i hi => ?_⟩
    rw [tk] at hi
    rw [hc i (by omega)]
    simp [List.getD_eq_getElem?_getD, List.getElem?_take, hi]
theorem open_bytes7 {H : Type} {enc : TypeId × Value → H} {W : World} {fuel : Nat} {c : Value} {x : DataW H × List MemPlace}
    (h : DataW.trod enc Tryd.prog W 0 (fun _ => true) true fuel 22 [c] = some x) :
    ∃ (a : Option Addr) (cap : Nat) (zs : List Int), c = .slice a zs.length cap ∧ Row W a zs ∧ zs.length ≤ cap ∧ cap ≤ maxLen ∧ (a = none → cap = 0) ∧ ((x.1.weights Tryd.prog 22).all (· ≤ reachBytes) = true → zs.length ≤ 140737488355328) := by
  rcases open_ints Tryd.underlying22 Tryd.underlying5 (by kernel_rfl) h with ⟨hcs, hx⟩ | ⟨y, l, cp, zs, hcs, hb, hl, hm, hz, hx, hcell, hwz⟩
  · simp at hcs
    subst hcs
    exact ⟨none, 0, [], rfl, row_nil7 W none, by simp, by simp, fun _ => rfl, fun _ => by simp⟩
  · simp at hcs
    subst hcs
    simp only [if_true] at hz
    have tk : (zs.take l).length = l := by rw [List.length_take, hz]; omega
    exact ⟨some y, cp, zs.take l, by rw [tk], row_of7 (by omega) hcell (fun z hz => bounds_u8 (hwz z hz)) (by omega), by omega, hm, (fun e => by cases e), fun hw => by
      rw [hx] at hw
      simp only [DataW.weights, Tryd.underlying22, List.all_cons, Bool.and_eq_true, decide_eq_true_eq, lits, List.length_map, show Tryd.prog.bytesOf 5 = 1 by kernel_rfl] at hw
      have rl : reachBytes = 140737488351232 := rfl
      have := hw.1
      omega⟩
theorem wish_fields : ∃ fs : Array Field, Tryd.prog.underlying 39 = some (.struct fs) ∧ fs.size = 5 ∧ (fs.toList.map fun f => (f.type, f.offset, Tryd.prog.cellsOf f.type)) = [(9, 0, 1), (5, 1, 1), (5, 2, 1), (5, 3, 1), (22, 4, 1)] :=
  ⟨_, Tryd.underlying39, by kernel_rfl, by kernel_rfl⟩
theorem open_wish {H : Type} {enc : TypeId × Value → H} {W : World} {r : Reach} {b0 : Nat} {v : Value} {d : DataW H} {p : List MemPlace}
    (hv : Value.okWide Tryd.prog W r b0 39 v) (h : DataW.Trod enc Tryd.prog W 0 (fun _ => true) true 39 v d p) :
    ∃ (T : ByteArray) (k rm m : Int) (a : Option Addr) (cap : Nat) (zs : List Int), v = .agg #[.string T, .int .u8 k, .int .u8 rm, .int .u8 m, .slice a zs.length cap] ∧ T.size ≤ maxLen ∧ (Lit.int .u8 k).wf = true ∧ (Lit.int .u8 rm).wf = true ∧ (Lit.int .u8 m).wf = true ∧
      Row W a zs ∧ zs.length ≤ cap ∧ cap ≤ maxLen ∧ (a = none → cap = 0) ∧ ((d.weights Tryd.prog 39).all (· ≤ reachBytes) = true → zs.length ≤ 140737488355328) := by
  obtain ⟨fs, hs, hsz5, hfs⟩ := wish_fields
  obtain ⟨cs, rfl, hsz⟩ := okWide_struct hs hv
  rw [show Tryd.prog.cellsOf 39 = 5 by kernel_rfl] at hsz
  obtain ⟨fuel, hf⟩ := h
  obtain ⟨xs, n, _, hxe, _, hlen, hfl⟩ := DataW.trod_struct hs hf
  have hty : fs.toList.map (·.type) = [9, 5, 5, 5, 22] := by
    have := congrArg (List.map (·.1)) hfs
    rw [List.map_map] at this
    exact this
  rw [hsz5] at hlen
  have each : ∀ (i : Nat) (t o : Nat), (fs.toList.map fun f => (f.type, f.offset, Tryd.prog.cellsOf f.type))[i]? = some (t, o, 1) → DataW.trod enc Tryd.prog W 0 (fun _ => true) true n t ((cs.toList.drop o).take 1) = xs[i]? := by
    intro i t o hi
    rw [List.getElem?_map] at hi
    cases hq : fs.toList[i]? with
    | none => rw [hq] at hi; cases hi
    | some f =>
      rw [hq] at hi
      have e := Option.some.inj hi
      simp only [Prod.mk.injEq] at e
      obtain ⟨e1, e2, e3⟩ := e
      have q := hfl i f (by rw [← hq]; simp)
      rw [e1, e2] at q
      rw [e1] at e3
      rw [e3] at q
      exact q
  rw [hfs] at each
  match cs, hsz, xs, hlen with
  | ⟨[c0, c1, c2, c3, c4]⟩, _, [y0, y1, y2, y3, y4], _ =>
    have h0 : DataW.trod enc Tryd.prog W 0 (fun _ => true) true n 9 [c0] = some y0 := each 0 _ _ rfl
    have h1 : DataW.trod enc Tryd.prog W 0 (fun _ => true) true n 5 [c1] = some y1 := each 1 _ _ rfl
    have h2 : DataW.trod enc Tryd.prog W 0 (fun _ => true) true n 5 [c2] = some y2 := each 2 _ _ rfl
    have h3 : DataW.trod enc Tryd.prog W 0 (fun _ => true) true n 5 [c3] = some y3 := each 3 _ _ rfl
    have h4 : DataW.trod enc Tryd.prog W 0 (fun _ => true) true n 22 [c4] = some y4 := each 4 _ _ rfl
    obtain ⟨T, e0, _, w0⟩ := DataW.trod_string Tryd.underlying9 h0
    obtain ⟨k, e1, _, w1⟩ := DataW.trod_int Tryd.underlying5 h1
    obtain ⟨rm, e2, _, w2⟩ := DataW.trod_int Tryd.underlying5 h2
    obtain ⟨m, e3, _, w3⟩ := DataW.trod_int Tryd.underlying5 h3
    obtain ⟨a, cap, zs, e4, r4, l4, m4, n4, q4⟩ := open_bytes7 h4
    simp at e0 e1 e2 e3
    subst e0 e1 e2 e3 e4
    exact ⟨T, k, rm, m, a, cap, zs, rfl, w0, w1, w2, w3, r4, l4, m4, n4, fun hw => q4 (by
      have hd := congrArg Prod.fst hxe
      simp only at hd
      rw [hd] at hw
      simp only [DataW.weights, hs, hty, List.map_cons, List.map_nil, DataW.weightsEach, List.all_append, Bool.and_eq_true] at hw
      exact hw.2.2.2.2.1)⟩
end Go.Proofs.YtfmehkaojfjdjaaDoor
