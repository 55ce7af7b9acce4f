/- What the program's calls of layer 14 come to, but for All and First. -/
import Derived.Test.YtfgkchmnmnmccaaIq14
import Derived.Test.YtfgkchmnmnmccaaRef
import Derived.Test.YtfgkchmnmnmccaaK8
import Derived.Test.YtfgkchmnmnmccaaBk
import Derived.Test.YtfgkchmnmnmccaaChecked
import Derived.Handy
import Derived.Deep.RegionHeld3
import Derived.BigQuiet
namespace Go.Proofs.Ytfgkchmnmnmccaa
open Go.RowKit
set_option linter.unusedVariables false
set_option linter.unusedSimpArgs false

abbrev iqV (i : Iq) : Value := .agg #[.int .u8 i.f, .int .u8 i.e]
def isI (n : Int) : Bool := decide (0 ≤ n ∧ n < 5)
theorem isI_yes {n : Int} (h : 0 ≤ n ∧ n < 5) : isI n = true := decide_eq_true h
theorem isI_no {n : Int} (h : ¬ (0 ≤ n ∧ n < 5)) : isI n = false := decide_eq_false h
set_option maxRecDepth 100000 in
set_option maxHeartbeats 4000000 in
theorem pis14 (n : Int) (w : World) : Calls Try.prog 30 #[.int .i64 n] w fun e w' => e = .returned (.bool (isI n)) ∧ w' = w := by
  by_cases a : 0 ≤ n
  · have a1 : decide (0 ≤ n) = true := decide_eq_true a
    by_cases b : n < 5
    · have b1 : decide (n < 5) = true := decide_eq_true b
      rw [isI_yes ⟨a, b⟩]
      go_enter Try.func30, Try.ntmps30
      go_wp2
      go_ret
      exact ⟨rfl, rfl⟩
    · have b1 : decide (n < 5) = false := decide_eq_false b
      rw [isI_no (fun h => b h.2)]
      go_enter Try.func30, Try.ntmps30
      go_wp2
      go_ret
      exact ⟨rfl, rfl⟩
  · have a1 : decide (0 ≤ n) = false := decide_eq_false a
    rw [isI_no (fun h => a h.1)]
    go_enter Try.func30, Try.ntmps30
    go_wp2
    go_ret
    exact ⟨rfl, rfl⟩
theorem shl14 : ∀ k : Fin 5, (2 : Int) ^ k.val % 256 = bitN (k.val : Int) := by decide +kernel
set_option maxRecDepth 100000 in
set_option maxHeartbeats 4000000 in
theorem pbit14 (n : Int) (w : World) : Calls Try.prog 29 #[.int .i64 n] w fun e w' => e = .returned (.int .u8 (bitN n)) ∧ w' = w := by
  have H := hid (fun u => pis14 n u)
  by_cases h : 0 ≤ n ∧ n < 5
  · rw [isI_yes h] at H
    obtain ⟨k, rfl⟩ : ∃ k : Nat, n = (k : Int) := ⟨n.toNat, by omega⟩
    have s1 := shl14 ⟨k, by omega⟩
    simp only at s1
    have kl : k < 8 := by omega
    go_enter Try.func29, Try.ntmps29
    go_wp2_with fail
    refine (H.out _).mono ?_
    rintro e u1 ⟨rfl, rfl⟩
    go_wp2
    go_ret
    exact ⟨by first | rfl | (rw [← s1]; rfl) | (simp [← s1]; done), rfl⟩
  · rw [isI_no h] at H
    rw [show bitN n = 0 from if_neg h]
    go_enter Try.func29, Try.ntmps29
    go_wp2_with fail
    refine (H.out _).mono ?_
    rintro e u1 ⟨rfl, rfl⟩
    go_wp2
    go_ret
    exact ⟨rfl, rfl⟩
set_option maxRecDepth 100000 in
set_option maxHeartbeats 4000000 in
theorem ppend14 (i : Iq) (w : World) (I : IqIn i) : Calls Try.prog 12 #[iqV i] w fun e w' => e = .returned (.int .u8 (pendP i.f i.e)) ∧ Kept w w' := by
  obtain ⟨jf, je⟩ := i
  have f0 := I.f0
  have f1 := I.f1
  have e0 := I.e0
  have e1 := I.e1
  simp only at f0 f1 e0 e1
  have q := pend_and jf je f0 f1 e0 e1
  clear I
  go_enter Try.func12, Try.ntmps12
  go_wp2
  go_ret
  exact ⟨by first | rfl | (rw [← q]; rfl), (Kept.refl w).alloc _⟩
set_option maxRecDepth 100000 in
set_option maxHeartbeats 4000000 in
theorem pvec14 (n : Int) (w : World) : Calls Try.prog 16 #[.int .i64 n] w fun e w' => e = .returned (.tuple #[.int .u16 (vecV n), .int .i64 (vecE n)]) ∧ w' = w := by
  have H := hid (fun u => pis14 n u)
  by_cases h : 0 ≤ n ∧ n < 5
  · rw [isI_yes h] at H
    rw [show vecV n = 64 + 8 * n from if_pos h, show vecE n = 0 from if_pos h]
    have s1 : IntKind.i64.wrap (8 * n) = 8 * n := by rw [IntKind.wrap_i64]; omega
    have s2 : IntKind.i64.wrap (64 + 8 * n) = 64 + 8 * n := by rw [IntKind.wrap_i64]; omega
    have s3 : IntKind.u16.wrap (64 + 8 * n) = 64 + 8 * n := by rw [IntKind.wrap_u16]; omega
    go_enter Try.func16, Try.ntmps16
    go_wp2_with fail
    refine (H.out _).mono ?_
    rintro e u1 ⟨rfl, rfl⟩
    go_wp2
    refine bodyPost_ret (results_tmp2 rfl _ _ _) rfl ?_
    exact ⟨by first | rfl | (rw [s3]; done) | (rw [s3]; rfl), rfl⟩
  · rw [isI_no h] at H
    rw [show vecV n = 0 from if_neg h, show vecE n = 1 from if_neg h]
    go_enter Try.func16, Try.ntmps16
    go_wp2_with fail
    refine (H.out _).mono ?_
    rintro e u1 ⟨rfl, rfl⟩
    go_wp2
    refine bodyPost_ret (results_tmp2 rfl _ _ _) rfl ?_
    exact ⟨rfl, rfl⟩
set_option maxRecDepth 100000 in
set_option maxHeartbeats 4000000 in
theorem pask14 (i : Iq) (n : Int) (w : World) (I : IqIn i) : Calls Try.prog 18 #[iqV i, .int .i64 n] w fun e w' => e = .returned (iqV (askI i n)) ∧ Kept w w' := by
  have H := hid (fun u => pbit14 n u)
  obtain ⟨jf, je⟩ := i
  have f0 := I.f0
  have f1 := I.f1
  have e0 := I.e0
  have e1 := I.e1
  simp only at f0 f1 e0 e1
  have q := ask_or jf n f0 f1
  show Calls _ _ _ _ fun e w' => e = .returned (.agg #[.int .u8 (askN jf n), .int .u8 je]) ∧ Kept w w'
  generalize bitN n = bn at *
  generalize askN jf n = gv at *
  clear I
  go_enter Try.func18, Try.ntmps18
  go_wp2_with fail
  go_region_with (first | (refine (H.out _).mono ?_; rintro e u1 ⟨rfl, rfl⟩))
  all_goals
    go_wp2
    exact bodyPost_ret (v := .agg #[.int .u8 gv, .int .u8 je]) (by first | (simp [results, Try.results18, go_sem, q]; done) | (rw [← q]; simp [results, Try.results18, go_sem])) rfl ⟨rfl, by repeat (first | with_reducible exact Kept.refl _ | with_reducible refine Kept.alloc ?_ _ | with_reducible refine Kept.drew ?_ | (with_reducible refine Kept.setCell8 ?_ ?_ _ _; rotate_left; (first | exact Nat.le_refl _ | omega | (simp; done) | (simp; omega))))⟩
set_option maxRecDepth 100000 in
set_option maxHeartbeats 4000000 in
theorem ptake14 (i : Iq) (n : Int) (w : World) (I : IqIn i) : Calls Try.prog 20 #[iqV i, .int .i64 n] w fun e w' => e = .returned (iqV (takeI i n)) ∧ Kept w w' := by
  have H := hid (fun u => pbit14 n u)
  obtain ⟨jf, je⟩ := i
  have f0 := I.f0
  have f1 := I.f1
  have e0 := I.e0
  have e1 := I.e1
  simp only at f0 f1 e0 e1
  have q := take_not jf n f0 f1
  show Calls _ _ _ _ fun e w' => e = .returned (.agg #[.int .u8 (takeN jf n), .int .u8 je]) ∧ Kept w w'
  generalize bitN n = bn at *
  generalize takeN jf n = gv at *
  clear I
  go_enter Try.func20, Try.ntmps20
  go_wp2_with fail
  go_region_with (first | (refine (H.out _).mono ?_; rintro e u1 ⟨rfl, rfl⟩))
  all_goals
    go_wp2
    exact bodyPost_ret (v := .agg #[.int .u8 gv, .int .u8 je]) (by first | (simp [results, Try.results20, go_sem, q]; done) | (rw [← q]; simp [results, Try.results20, go_sem])) rfl ⟨rfl, by repeat (first | with_reducible exact Kept.refl _ | with_reducible refine Kept.alloc ?_ _ | with_reducible refine Kept.drew ?_ | (with_reducible refine Kept.setCell8 ?_ ?_ _ _; rotate_left; (first | exact Nat.le_refl _ | omega | (simp; done) | (simp; omega))))⟩
set_option maxRecDepth 100000 in
set_option maxHeartbeats 4000000 in
theorem pread14 (i : Iq) (a : Int) (w : World) (I : IqIn i) : Calls Try.prog 22 #[iqV i, .int .u16 a] w fun e w' => e = .returned (.int .u8 (readI i a)) ∧ Kept w w' := by
  obtain ⟨jf, je⟩ := i
  have f0 := I.f0
  have f1 := I.f1
  have e0 := I.e0
  have e1 := I.e1
  simp only at f0 f1 e0 e1
  have q := or224 jf f0 f1
  clear I
  by_cases h1 : a = 65295
  · subst h1
    rw [show readI ⟨jf, je⟩ 65295 = 224 + jf % 32 from rfl]
    go_enter Try.func22, Try.ntmps22
    go_wp2
    go_ret
    exact ⟨by first | rfl | (rw [← q]; rfl), (Kept.refl w).alloc _⟩
  · have d1 : (a == 65295) = false := by simpa using h1
    by_cases h2 : a = 65535
    · subst h2
      rw [show readI ⟨jf, je⟩ 65535 = je from rfl]
      go_enter Try.func22, Try.ntmps22
      go_wp2
      go_ret
      exact ⟨rfl, (Kept.refl w).alloc _⟩
    · have d2 : (a == 65535) = false := by simpa using h2
      rw [show readI ⟨jf, je⟩ a = 255 by unfold readI; rw [if_neg h1, if_neg h2]]
      go_enter Try.func22, Try.ntmps22
      go_wp2
      go_ret
      exact ⟨rfl, (Kept.refl w).alloc _⟩
set_option maxRecDepth 100000 in
set_option maxHeartbeats 4000000 in
theorem pwrite14 (i : Iq) (a v : Int) (w : World) (I : IqIn i) (v0 : 0 ≤ v) (v1 : v ≤ 255) : Calls Try.prog 24 #[iqV i, .int .u16 a, .int .u8 v] w fun e w' => e = .returned (iqV (writeI i a v)) ∧ Kept w w' := by
  obtain ⟨jf, je⟩ := i
  have q := and31 v v0 v1
  clear I
  by_cases h1 : a = 65295
  · subst h1
    rw [show writeI ⟨jf, je⟩ 65295 v = ⟨v % 32, je⟩ from rfl]
    go_enter Try.func24, Try.ntmps24
    go_wp2
    exact bodyPost_ret (v := .agg #[.int .u8 (v % 32), .int .u8 je]) (by first | (simp [results, Try.results24, go_sem]; done) | (simp [results, Try.results24, go_sem, q]; done)) rfl ⟨rfl, by repeat (first | with_reducible exact Kept.refl _ | with_reducible refine Kept.alloc ?_ _ | with_reducible refine Kept.drew ?_ | (with_reducible refine Kept.setCell8 ?_ ?_ _ _; rotate_left; (first | exact Nat.le_refl _ | omega | (simp; done) | (simp; omega))))⟩
  · have d1 : (a == 65295) = false := by simpa using h1
    by_cases h2 : a = 65535
    · subst h2
      rw [show writeI ⟨jf, je⟩ 65535 v = ⟨jf, v⟩ from rfl]
      go_enter Try.func24, Try.ntmps24
      go_wp2
      exact bodyPost_ret (v := .agg #[.int .u8 jf, .int .u8 v]) (by first | (simp [results, Try.results24, go_sem]; done) | (simp [results, Try.results24, go_sem, q]; done)) rfl ⟨rfl, by repeat (first | with_reducible exact Kept.refl _ | with_reducible refine Kept.alloc ?_ _ | with_reducible refine Kept.drew ?_ | (with_reducible refine Kept.setCell8 ?_ ?_ _ _; rotate_left; (first | exact Nat.le_refl _ | omega | (simp; done) | (simp; omega))))⟩
    · have d2 : (a == 65535) = false := by simpa using h2
      rw [show writeI ⟨jf, je⟩ a v = ⟨jf, je⟩ by unfold writeI; rw [if_neg h1, if_neg h2]]
      go_enter Try.func24, Try.ntmps24
      go_wp2
      exact bodyPost_ret (v := .agg #[.int .u8 jf, .int .u8 je]) (by first | (simp [results, Try.results24, go_sem]; done) | (simp [results, Try.results24, go_sem, q]; done)) rfl ⟨rfl, by repeat (first | with_reducible exact Kept.refl _ | with_reducible refine Kept.alloc ?_ _ | with_reducible refine Kept.drew ?_ | (with_reducible refine Kept.setCell8 ?_ ?_ _ _; rotate_left; (first | exact Nat.le_refl _ | omega | (simp; done) | (simp; omega))))⟩
end Go.Proofs.Ytfgkchmnmnmccaa
