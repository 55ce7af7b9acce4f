/- The document's examples of layer 6, at the statements' head. What a law's frame wants of slices that come in: bytes and strings, how long they may be. -/
import Derived.Test.YtlchkflpaehgcaaDoorDb
import Derived.Test.YtlchkflpaehgcaaDoorCl
import Derived.Test.YtlchkflpaehgcaaDoorCn
import Derived.Test.YtlchkflpaehgcaaDoorRows
import Derived.Test.YtlchkflpaehgcaaDoorCb
import Derived.Test.YtlchkflpaehgcaaDoorCg
import Derived.SizedLaws
import Derived.SliceStrings
import Derived.ProofKit
import Derived.OpenShut
namespace Go.Proofs.YtlchkflpaehgcaaDoor
open Go.RowKit
set_option linter.unusedVariables false
set_option linter.unusedSimpArgs false

theorem ex1 : oneS [62, 18] = ⟨#[76, 68, 32, 65, 44, 36, 49, 50]⟩ ∧ oneN [62, 18] = 2 := ⟨by kernel_rfl, by kernel_rfl⟩
theorem ex2 : oneS [203, 126] = ⟨#[66, 73, 84, 32, 55, 44, 40, 72, 76, 41]⟩ ∧ oneN [203, 126] = 2 := ⟨by kernel_rfl, by kernel_rfl⟩
theorem ex3 : asmB ⟨#[74, 80, 32, 78, 90, 44, 36, 49, 50, 51, 52]⟩ = [194, 52, 18] ∧ asmE ⟨#[74, 80, 32, 78, 90, 44, 36, 49, 50, 51, 52]⟩ = 0 := by
  have e : oneS [194, 52, 18] = ⟨#[74, 80, 32, 78, 90, 44, 36, 49, 50, 51, 52]⟩ := by kernel_rfl
  have n : oneN [194, 52, 18] = 3 := by kernel_rfl
  have q := asm_one [194, 52, 18] (fun z hz => by simp at hz; rcases hz with rfl | rfl | rfl <;> exact ⟨by decide, by decide⟩) (by simp)
  rw [e, n] at q
  exact q
theorem byts_form {w : World} {v : Value} {ns : List Int} (h : Byts w v ns) (hn : 1 ≤ ns.length) : ∃ g cap, v = .slice (some ⟨g, 0, none⟩) ns.length cap := by
  rcases h with ⟨_, h⟩ | ⟨g, cap, e, _⟩
  · rw [h] at hn; simp at hn
  · exact ⟨g, cap, e⟩
theorem row2 (w : World) (x y : Int) (hx : InByte x) (hy : InByte y) : Row (w.alloc (.cells #[.int .u8 x, .int .u8 y] 5)) (some ⟨w.heap.size, 0, none⟩) [x, y] := by
  refine ⟨by simp; decide, fun z hz => ?_, .inr ⟨_, rfl, by simp, fun i hi => ?_⟩⟩
  · simp at hz; rcases hz with rfl | rfl
    · exact hx
    · exact hy
  · have := (has_alloc w #[.int .u8 x, .int .u8 y] 5).2
    match i, hi with
    | 0, _ => exact this 0
    | 1, _ => exact this 1
theorem str3 : strOf [194, 52, 18] = ⟨#[194, 52, 18]⟩ := by kernel_rfl
set_option maxHeartbeats 2000000 in
theorem shown6_any (w : World) (lay : Lay w) : Calls Tryd.prog 6 #[] w fun e w' => e = .returned (.bool true) ∧ Kept w w' := by
  have E1 := hid ex1
  have E2 := hid ex2
  have E3 := hid ex3
  have S3 := hid str3
  go_enter Tryd.func6, Tryd.ntmps6
  go_wp2_with fail
  refine (lone_any [62, 18] _ 2 _ (row2 _ 62 18 ⟨by decide, by decide⟩ ⟨by decide, by decide⟩) (by simp) (by decide) (lay.kept ((Kept.refl w).alloc _))).mono ?_
  rintro e u1 ⟨rfl, g1⟩
  rw [E1.out.1, E1.out.2]
  have K1 := hid (((Kept.refl w).alloc _).trans g1)
  clear g1
  go_wp2_with fail
  refine (lone_any [203, 126] _ 2 _ (row2 _ 203 126 ⟨by decide, by decide⟩ ⟨by decide, by decide⟩) (by simp) (by decide) (lay.kept (K1.out.alloc _))).mono ?_
  rintro e u2 ⟨rfl, g2⟩
  rw [E2.out.1, E2.out.2]
  have K2 := hid ((K1.out.alloc _).trans g2)
  clear g2
  go_wp2_with fail
  refine (lassemble_any ⟨#[74, 80, 32, 78, 90, 44, 36, 49, 50, 51, 52]⟩ _ (by decide) (lay.kept K2.out)).mono ?_
  rintro e u3 ⟨v, rfl, o3, g3⟩
  rw [E3.out.2]
  rw [E3.out.1] at o3
  have cv := conv_byts o3
  rw [S3.out] at cv
  have K3 := hid (K2.out.trans g3)
  clear g3 o3
  go_wp2
  go_ret
  exact ⟨rfl, K3.out⟩
end Go.Proofs.YtlchkflpaehgcaaDoor
namespace Go.Proofs.YtlchkflpaehgcaaDoor
open Go.RowKit Go.ChangeShapes
set_option linter.unusedVariables false
set_option linter.unusedSimpArgs false

theorem cell_lt {W : World} {x : Addr} {v : Value} (h : W.cell? x = some v) : x.block < W.heap.size := by
  rcases Nat.lt_or_ge x.block W.heap.size with q | q
  · exact q
  · simp [World.cell?, Array.getElem?_eq_none q] at h
theorem row_nil (W : World) (a : Option Addr) : Row W a [] := ⟨by simp, (fun z hz => by cases hz), .inl rfl⟩
theorem srow_nil (W : World) (a : Option Addr) : SRow W a [] := ⟨(fun z hz => by cases hz), .inl rfl⟩
theorem row_of {W : World} {x : Addr} {zs : List Int} {len : Nat} (hl : len ≤ zs.length) (hc : ∀ i, i < zs.length → W.cell? (x.add i) = some (.int .u8 (zs.getD i 0))) (hw : ∀ z ∈ zs, 0 ≤ z ∧ z ≤ 255) (hm : len ≤ maxLen) : Row W (some x) (zs.take len) := by
  have tk : (zs.take len).length = len := by rw [List.length_take]; omega
  refine ⟨by rw [tk]; exact hm, fun z hz => hw z (List.mem_of_mem_take hz), ?_⟩
  by_cases h0 : len = 0
  · left; rw [h0]; rfl
  · right
    refine ⟨x, rfl, cell_lt (hc 0 (by omega)), fun i hi => ?_⟩
    rw [tk] at hi
    rw [hc i (by omega)]
    simp [List.getD_eq_getElem?_getD, List.getElem?_take, hi]
theorem srow_of {W : World} {x : Addr} {ss : List ByteArray} {len : Nat} (hl : len ≤ ss.length) (hc : ∀ i, i < ss.length → W.cell? (x.add i) = some (.string (ss.getD i ByteArray.empty))) (hw : ∀ s ∈ ss, s.size ≤ 4611686018427387904) : SRow W (some x) (ss.take len) := by
  have tk : (ss.take len).length = len := by rw [List.length_take]; omega
  refine ⟨fun z hz => hw z (List.mem_of_mem_take hz), ?_⟩
  by_cases h0 : len = 0
  · left; rw [h0]; rfl
  · right
    refine ⟨x, rfl, cell_lt (hc 0 (by omega)), fun i hi => ?_⟩
    rw [tk] at hi
    rw [hc i (by omega)]
    simp [List.getD_eq_getElem?_getD, List.getElem?_take, hi]
theorem all_mem {H : Type} {P : Program} {e : TypeId} (l : List ByteArray) (q : ByteArray) (h : q ∈ l) : q.data.toList.length ∈ DataW.weightsAll (H := H) P e (Go.ChangeShapes.strs l) := by
  induction l with
  | nil => cases h
  | cons a l ih =>
    simp only [Go.ChangeShapes.strs, List.map_cons, DataW.weightsAll, DataW.weights, List.mem_append]
    rcases List.mem_cons.1 h with rfl | h
    · exact .inl (by simp)
    · exact .inr (ih h)
theorem str_sized {H : Type} {P : Program} {ts : List TypeId} {ds : List (DataW H)} (h : (DataW.weightsEach P ts ds).all (· ≤ reachBytes) = true) {j : Nat} {t e : TypeId} {ss : List ByteArray} {len : Nat} (ht : ts[j]? = some t) (hd : ds[j]? = some (.slice (Go.ChangeShapes.strs (ss.take len)) (Go.ChangeShapes.strs (ss.drop len)))) (hu : P.underlying t = some (.slice e)) (q : ByteArray) (hq : q ∈ ss) : q.size ≤ 4611686018427387904 := by
  have m : q.data.toList.length ∈ DataW.weights P t (.slice (Go.ChangeShapes.strs (ss.take len)) (Go.ChangeShapes.strs (ss.drop len)) : DataW H) := by
    simp only [DataW.weights, hu, List.mem_cons, List.mem_append]
    rw [← List.take_append_drop len ss] at hq
    rcases List.mem_append.1 hq with g | g
    · exact .inr (.inl (all_mem _ q g))
    · exact .inr (.inr (all_mem _ q g))
  have := List.all_eq_true.1 h _ (DataW.weights_mem_each ht hd _ m)
  have rl := reachBytes_lt
  simp only [decide_eq_true_eq] at this
  have e : q.size = q.data.toList.length := by rw [Array.length_toList]; rfl
  omega
theorem bulk_one {H : Type} (d : DataW H) : 1 ≤ Rows.uptoBulk d := by
  cases d with
  | lit l => cases l <;> simp [Rows.uptoBulk]
  | nil => simp [Rows.uptoBulk]
  | ptr d => simp [Rows.uptoBulk]
  | slice a b => simp [Rows.uptoBulk]
  | agg a => simp [Rows.uptoBulk]
  | iface a d => simp [Rows.uptoBulk]
  | map a => simp [Rows.uptoBulk]
  | held a => simp [Rows.uptoBulk]
theorem bulk_len {H : Type} (l : List (DataW H)) : l.length ≤ Rows.uptoBulkAll l := by
  induction l with
  | nil => simp [Rows.uptoBulkAll]
  | cons x r ih => have := bulk_one x; simp only [Rows.uptoBulkAll, List.length_cons]; omega
theorem bulk_mem {H : Type} {d : DataW H} {l : List (DataW H)} (h : d ∈ l) : Rows.uptoBulk d ≤ Rows.uptoBulkAll l := by
  induction l with
  | nil => cases h
  | cons x r ih =>
    simp only [Rows.uptoBulkAll]
    rcases List.mem_cons.1 h with e | e
    · rw [e]; omega
    · have := ih e; omega
theorem bulk_part {H : Type} {l : List (DataW H)} (hk : Rows.uptoSmall H l = true) {d : DataW H} (h : d ∈ l) : Rows.uptoBulk d ≤ 1048576 := by
  have a := bulk_mem h
  have b : Rows.uptoBulkAll l ≤ 1048576 := of_decide_eq_true hk
  exact Nat.le_trans a b
theorem bulk_slice {H : Type} {l : List (DataW H)} (hk : Rows.uptoSmall H l = true) {elems spare : List (DataW H)} (h : DataW.slice elems spare ∈ l) : elems.length ≤ 1048576 := by
  have a := bulk_part hk h
  have b := bulk_len elems
  simp only [Rows.uptoBulk] at a
  omega
end Go.Proofs.YtlchkflpaehgcaaDoor
