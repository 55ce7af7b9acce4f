/- What Fast of layer 3 comes to, over this seat's translation. -/
import Derived.Test.YtbgegbddommcgabShift
import Derived.Test.YtbgegbddommcgabGrow2
import Derived.Deep.DeepCutAuto
namespace Go.Proofs.Ytbgegbddommcgab
open Go.RowKit
set_option linter.unusedVariables false
set_option linter.unusedSimpArgs false

set_option maxHeartbeats 2000000 in
theorem fast_any (op k v : Int) (z n h c : Bool) (w : World) (ho : op % 4 = k) (v0 : 0 ≤ v) (v1 : v ≤ 255) :
    Calls Try.prog 9 #[.int .i64 op, .int .u8 v, .agg #[.bool z, .bool n, .bool h, .bool c]] w fun e w' => e = .returned (.tuple #[.int .u8 (shOf k v c), .agg #[.bool false, .bool false, .bool false, .bool (shOut k v)]]) ∧ Grown w w' := by
  have HO := hid ho
  have HK := hid (show k % 8 = k by omega)
  clear ho
  have Bf : Has ((w.alloc (.cells #[.bool z, .bool n, .bool h, .bool c] 23)).alloc (.cells #[.bool false, .bool false, .bool false, .bool false] 23)) w.heap.size #[.bool z, .bool n, .bool h, .bool c] := has_past (has_alloc _ _ _) _
  have Br : Has ((w.alloc (.cells #[.bool z, .bool n, .bool h, .bool c] 23)).alloc (.cells #[.bool false, .bool false, .bool false, .bool false] 23)) (w.heap.size + 1) #[.bool false, .bool false, .bool false, .bool false] := by have := has_alloc (w.alloc (.cells #[.bool z, .bool n, .bool h, .bool c] 23)) #[.bool false, .bool false, .bool false, .bool false] 23; simpa using this
  have G0 := hid ((alloc1 w #[.bool z, .bool n, .bool h, .bool c] 23).alloc #[.bool false, .bool false, .bool false, .bool false] 23)
  have BN : Has (((w.alloc (.cells #[.bool z, .bool n, .bool h, .bool c] 23)).alloc (.cells #[.bool false, .bool false, .bool false, .bool false] 23)).alloc (.cells #[.bool false, .bool false, .bool false, .bool false] 23)) (w.heap.size + 1 + 1) #[.bool false, .bool false, .bool false, .bool false] := by have := has_alloc ((w.alloc (.cells #[.bool z, .bool n, .bool h, .bool c] 23)).alloc (.cells #[.bool false, .bool false, .bool false, .bool false] 23)) #[.bool false, .bool false, .bool false, .bool false] 23; simpa using this
  have y1 : w.heap.size + 1 + 1 ≠ w.heap.size := by omega
  have y2 : w.heap.size ≠ w.heap.size + 1 + 1 := by omega
  have y3 : w.heap.size + 1 + 1 ≠ w.heap.size + 1 := by omega
  go_enter Try.func9, Try.ntmps9
  go_wp2
  go_cut [8, 9] (fun x g wx => ∃ gb : Nat, x = .int .u8 (shOf k v c) ∧ g = .pointer (some ⟨gb, 0, none⟩) ∧ w.heap.size ≤ gb ∧ gb ≠ w.heap.size + 1 ∧ Has wx gb #[.bool (shOf k v c == 0), .bool false, .bool false, .bool (shOut k v)] ∧ Has wx (w.heap.size + 1) #[.bool false, .bool false, .bool false, .bool false] ∧ Grown w wx)
  case first =>
    go_region_held3 (fun w' => w'.cell? ⟨w.heap.size, 0, none⟩ = some (.bool z) ∧ w'.cell? ⟨w.heap.size, 1, none⟩ = some (.bool n) ∧ w'.cell? ⟨w.heap.size, 2, none⟩ = some (.bool h) ∧ w'.cell? ⟨w.heap.size, 3, none⟩ = some (.bool c)) (go_keep) (first | (go_at_call 10; refine (mod4_any _ _).mono ?_; rintro e v2 ⟨rfl, rfl⟩; rw [HO.out]) | (go_at_call 5; refine (do_any _ k _ _ _ _ _ _ HK.out v0 v1).mono ?_; rintro e v1 ⟨rfl, q1⟩; have D1 : Has v1 w.heap.size #[.bool z, .bool n, .bool h, .bool c] := (by (repeat (first | with_reducible exact Bf | with_reducible exact has_alloc _ _ _ | with_reducible refine has_grown q1 ?_ | with_reducible refine has_drew ?_ | with_reducible refine has_past ?_ _))); have D2 : Has v1 (w.heap.size + 1) #[.bool false, .bool false, .bool false, .bool false] := (by (repeat (first | with_reducible exact Br | with_reducible refine has_grown q1 ?_ | with_reducible refine has_drew ?_ | with_reducible refine has_past ?_ _))); obtain ⟨zD1, cD1⟩ := id D1; obtain ⟨zD2, cD2⟩ := id D2; have yD1 : w.heap.size < v1.heap.size + 1 := (by omega); have yE1 : w.heap.size ≠ v1.heap.size := (by omega); have yF1 : v1.heap.size ≠ w.heap.size := (by omega); obtain ⟨hc1, hf1⟩ := gcell q1))
    all_goals
      go_wp2_with fail
    all_goals
      go_meet
    all_goals
      refine ⟨_, rfl, rfl, ?_, ?_, ?_, ?_, ?_⟩
      · omega
      · omega
      · (repeat (first | with_reducible exact BN | with_reducible exact has_alloc _ _ _ | with_reducible refine has_grown q1 ?_ | with_reducible refine has_drew ?_ | with_reducible refine has_past ?_ _ | with_reducible refine has_set4 (c0 := .bool false) (c1 := .bool false) (c2 := .bool false) (c3 := .bool false) ?_ _ _ _ _ | with_reducible refine has_other ?_ (by exact y3) _))
      · (repeat (first | with_reducible exact D2 | with_reducible exact Br | with_reducible exact has_alloc _ _ _ | with_reducible refine has_grown q1 ?_ | with_reducible refine has_drew ?_ | with_reducible refine has_past ?_ _ | with_reducible refine has_set4 (c0 := .bool false) (c1 := .bool false) (c2 := .bool false) (c3 := .bool false) ?_ _ _ _ _ | with_reducible refine has_other ?_ (by exact y3) _))
      · (repeat (first | with_reducible exact G0.out | with_reducible refine grown_trans ?_ q1 | with_reducible refine Grown.drew ?_ | with_reducible refine Grown.alloc ?_ _ _ | with_reducible refine Grown.setCell ?_ (by simp; omega) _))
  case rest =>
    obtain ⟨gb, rfl, rfl, l1, l2, Bg, Br2, Gw⟩ := hcut
    obtain ⟨zBg, cBg⟩ := id Bg
    obtain ⟨zBr, cBr⟩ := id Br2
    have y4 : gb ≠ w.heap.size + 1 := l2
    have y5 : w.heap.size + 1 ≠ gb := fun e => l2 e.symm
    have fg : ∀ o, wc.frozen? ⟨gb, o, none⟩ = false := fun o => grown_froz Gw l1 o
    have fr : ∀ o, wc.frozen? ⟨w.heap.size + 1, o, none⟩ = false := fun o => grown_froz Gw (Nat.le_succ _) o
    clear Bf Br BN
    go_wp2
    go_region
    all_goals
      go_wp2
    all_goals
      refine bodyPost_ret (v := .tuple #[.int .u8 (shOf k v c), .agg #[.bool false, .bool false, .bool false, .bool (shOut k v)]]) (by simp [results, Try.results9, go_sem, cBr, y4, y5]) rfl ⟨rfl, ?_⟩
      exact (((((Gw.setCell l1 _).setCell (Nat.le_succ _) _).setCell (Nat.le_succ _) _).setCell (Nat.le_succ _) _).setCell (Nat.le_succ _) _).drew
end Go.Proofs.Ytbgegbddommcgab
