/- What a law's frame wants of an image and of a wish that come in. -/
import Derived.Test.YtecgpdjgbdobbabRows
import Derived.Test.YtecgpdjgbdobbabG09
import Derived.ProofKit
import Derived.OpenShut
import Derived.ChangeSlices
import Derived.SizedLaws
namespace Go.Proofs.Ytecgpdjgbdobbab
open Go.RowKit Go.ChangeShapes Go.WideShapes Go.ChangeAt
set_option linter.unusedVariables false
set_option linter.unusedSimpArgs false

theorem sized_part {H : Type} {P : Program} {ts : List TypeId} {ds : List (DataW H)} (h : (DataW.weightsEach P ts ds).all (· ≤ reachBytes) = true) {j : Nat} {t : TypeId} {d : DataW H} (ht : ts[j]? = some t) (hd : ds[j]? = some d) : (d.weights P t).all (· ≤ reachBytes) = true :=
  List.all_eq_true.2 fun n hn => List.all_eq_true.1 h n (DataW.weights_mem_each ht hd n hn)
theorem cell_lt7 {W : World} {x : Addr} {v : Value} (h : W.cell? x = some v) : x.block < W.heap.size := by
  rcases Nat.lt_or_ge x.block W.heap.size with q | q
  · exact q
  · simp [World.cell?, Array.getElem?_eq_none q] at h
theorem row_nil7 (W : World) (a : Option Addr) : Row W a [] := ⟨by simp, (fun z hz => by cases hz), .inl rfl⟩
theorem row_of7 {W : World} {x : Addr} {zs : List Int} {len : Nat} (hl : len ≤ zs.length) (hc : ∀ i, i < zs.length → W.cell? (x.add i) = some (.int .u8 (zs.getD i 0))) (hw : ∀ z ∈ zs, 0 ≤ z ∧ z ≤ 255) (hm : len ≤ maxLen) : Row W (some x) (zs.take len) := by
  have tk : (zs.take len).length = len := by rw [List.length_take]; omega
  refine ⟨by rw [tk]; exact hm, fun z hz => hw z (List.mem_of_mem_take hz), ?_⟩
  by_cases h0 : len = 0
  · left; rw [h0]; rfl
  · right
    refine ⟨x, rfl, cell_lt7 (hc 0 (by omega)), fun i hi => ?_⟩
    rw [tk] at hi
    rw [hc i (by omega)]
    simp [List.getD_eq_getElem?_getD, List.getElem?_take, hi]
theorem open_bytes7 {H : Type} {enc : TypeId × Value → H} {W : World} {fuel : Nat} {c : Value} {x : DataW H × List MemPlace}
    (h : DataW.trod enc Try.prog W 0 (fun _ => true) true fuel 22 [c] = some x) :
    ∃ (a : Option Addr) (cap : Nat) (zs : List Int), c = .slice a zs.length cap ∧ Row W a zs ∧ zs.length ≤ cap ∧ cap ≤ maxLen ∧ (a = none → cap = 0) ∧ ((x.1.weights Try.prog 22).all (· ≤ reachBytes) = true → zs.length ≤ 140737488355328) := by
  rcases open_ints Try.underlying22 Try.underlying5 (by kernel_rfl) h with ⟨hcs, hx⟩ | ⟨y, l, cp, zs, hcs, hb, hl, hm, hz, hx, hcell, hwz⟩
  · simp at hcs
    subst hcs
    exact ⟨none, 0, [], rfl, row_nil7 W none, by simp, by simp, fun _ => rfl, fun _ => by simp⟩
  · simp at hcs
    subst hcs
    simp only [if_true] at hz
    have tk : (zs.take l).length = l := by rw [List.length_take, hz]; omega
    exact ⟨some y, cp, zs.take l, by rw [tk], row_of7 (by omega) hcell (fun z hz => bounds_u8 (hwz z hz)) (by omega), by omega, hm, (fun e => by cases e), fun hw => by
      rw [hx] at hw
      simp only [DataW.weights, Try.underlying22, List.all_cons, Bool.and_eq_true, decide_eq_true_eq, lits, List.length_map, show Try.prog.bytesOf 5 = 1 by kernel_rfl] at hw
      have rl : reachBytes = 140737488351232 := rfl
      have := hw.1
      omega⟩
end Go.Proofs.Ytecgpdjgbdobbab
