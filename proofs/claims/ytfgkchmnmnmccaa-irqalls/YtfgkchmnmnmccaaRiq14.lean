/- What the document's answers of layer 14 come to, but for All and First. -/
import Derived.Test.YtfgkchmnmnmccaaPiq14
namespace Go.Proofs.Ytfgkchmnmnmccaa
open Go.RowKit
set_option linter.unusedVariables false
set_option linter.unusedSimpArgs false

set_option maxRecDepth 100000 in
set_option maxHeartbeats 4000000 in
theorem rpend14 (i : Iq) (w : World) (I : IqIn i) : Calls Try.prog 13 #[iqV i] w fun e w' => e = .returned (.int .u8 (pendP i.f i.e)) ∧ Kept w w' := by
  obtain ⟨jf, je⟩ := i
  have f0 := I.f0
  have f1 := I.f1
  have e0 := I.e0
  have e1 := I.e1
  simp only at f0 f1 e0 e1
  show Calls _ _ _ _ fun e w' => e = .returned (.int .u8 (eachTo 4 jf je 5)) ∧ Kept w w'
  clear I
  have P0 := hid (blk_new w [.int .u8 jf, .int .u8 je] 23)
  have KX := hid ((Kept.refl w).alloc (.cells ([.int .u8 jf, .int .u8 je] : List Value).toArray 23))
  go_enter Try.func13, Try.ntmps13
  go_wp2_with fail
  go_loop [3, 4] (fun v i => ∃ j : Nat, j ≤ 5 ∧ v = .int .u8 (eachTo 4 jf je j) ∧ i = .int .i64 (j : Int)) (fun _ i => 5 - (intOf i).toNat)
  case atStart => exact ⟨0, Nat.zero_le _, rfl, rfl⟩
  case round =>
    obtain ⟨j, hj, rfl, rfl⟩ := hrel
    by_cases hlt : j < 5
    · have g1 : decide ((j : Int) < 5) = true := decide_eq_true (by omega)
      have g2 : decide (j < 5) = true := decide_eq_true hlt
      have ew : IntKind.i64.wrap ((j : Int) + 1) = (j : Int) + 1 := by rw [IntKind.wrap_i64]; omega
      have A := hid (fun u => rbit_any jf j u f0 f1)
      have B := hid (fun u => rbit_any je j u e0 e1)
      have C := hid (fun on u => rput_any (eachTo 4 jf je j) j on u (eachTo_bd 4 jf je j).1 (eachTo_bd 4 jf je j).2)
      have NX := hid (pend_next jf je j)
      generalize bitOf jf j = x at *
      generalize bitOf je j = y at *
      generalize eachTo 4 jf je j = pv at *
      cases x <;> cases y
      all_goals
        go_wp2_with fail
        refine (A.out _).mono ?_
        rintro e u1 ⟨rfl, rfl⟩
        go_wp2_with fail
        refine (B.out _).mono ?_
        rintro e u2 ⟨rfl, rfl⟩
        go_wp2_with fail
        refine (C.out _ _).mono ?_
        rintro e u3 ⟨rfl, rfl⟩
        go_wp2_with fail
        go_round
        case rel => exact ⟨j + 1, by omega, by first | (rw [NX.out]; done) | (rw [NX.out]; rfl), by first | go_num | rfl⟩
        case measure => first | omega | (simp; omega) | (simp [intOf]; omega)
    · have je5 : j = 5 := by omega
      subst je5
      go_wp2
      go_ret
      exact ⟨rfl, KX.out⟩
set_option maxRecDepth 100000 in
set_option maxHeartbeats 4000000 in
theorem rvec14 (n : Int) (w : World) : Calls Try.prog 17 #[.int .i64 n] w fun e w' => e = .returned (.tuple #[.int .u16 (vecV n), .int .i64 (vecE n)]) ∧ w' = w := by
  by_cases a : n < 0
  · have a1 : decide (n < 0) = true := decide_eq_true a
    have h : ¬ (0 ≤ n ∧ n < 5) := by omega
    rw [show vecV n = 0 from if_neg h, show vecE n = 1 from if_neg h]
    go_enter Try.func17, Try.ntmps17
    go_wp2
    refine bodyPost_ret (results_tmp2 rfl _ _ _) rfl ?_
    exact ⟨rfl, rfl⟩
  · have a1 : decide (n < 0) = false := decide_eq_false a
    by_cases b : n > 4
    · have b1 : decide (n > 4) = true := decide_eq_true b
      have b2 : decide (4 < n) = true := decide_eq_true b
      have h : ¬ (0 ≤ n ∧ n < 5) := by omega
      rw [show vecV n = 0 from if_neg h, show vecE n = 1 from if_neg h]
      go_enter Try.func17, Try.ntmps17
      go_wp2
      refine bodyPost_ret (results_tmp2 rfl _ _ _) rfl ?_
      exact ⟨rfl, rfl⟩
    · have b1 : decide (n > 4) = false := decide_eq_false b
      have b2 : decide (4 < n) = false := decide_eq_false b
      have h : 0 ≤ n ∧ n < 5 := by omega
      rw [show vecV n = 64 + 8 * n from if_pos h, show vecE n = 0 from if_pos h]
      have s1 : IntKind.i64.wrap (8 * n) = 8 * n := by rw [IntKind.wrap_i64]; omega
      have s2 : IntKind.i64.wrap (64 + 8 * n) = 64 + 8 * n := by rw [IntKind.wrap_i64]; omega
      have s3 : IntKind.u16.wrap (64 + 8 * n) = 64 + 8 * n := by rw [IntKind.wrap_u16]; omega
      go_enter Try.func17, Try.ntmps17
      go_wp2
      refine bodyPost_ret (results_tmp2 rfl _ _ _) rfl ?_
      exact ⟨by first | rfl | (rw [s3]; done) | (rw [s3]; rfl), rfl⟩
set_option maxRecDepth 100000 in
set_option maxHeartbeats 4000000 in
theorem rask14 (i : Iq) (n : Int) (w : World) (I : IqIn i) : Calls Try.prog 19 #[iqV i, .int .i64 n] w fun e w' => e = .returned (iqV (askI i n)) ∧ Kept w w' := by
  obtain ⟨jf, je⟩ := i
  have f0 := I.f0
  have f1 := I.f1
  have e0 := I.e0
  have e1 := I.e1
  simp only at f0 f1 e0 e1
  have H := hid (fun u => rput_any jf n true u f0 f1)
  show Calls _ _ _ _ fun e w' => e = .returned (.agg #[.int .u8 (askN jf n), .int .u8 je]) ∧ Kept w w'
  clear I
  by_cases a : 0 ≤ n
  · have a1 : decide (0 ≤ n) = true := decide_eq_true a
    have a2 : decide (n ≥ 0) = true := decide_eq_true a
    by_cases b : n ≤ 4
    · have b1 : decide (n ≤ 4) = true := decide_eq_true b
      rw [show askN jf n = putOf jf n true from if_pos ⟨a, by omega⟩]
      generalize putOf jf n true = gv at *
      go_enter Try.func19, Try.ntmps19
      go_wp2_with fail
      refine (H.out _).mono ?_
      rintro e u1 ⟨rfl, rfl⟩
      go_wp2
      exact bodyPost_ret (v := .agg #[.int .u8 gv, .int .u8 je]) (by simp [results, Try.results19, go_sem]) rfl ⟨rfl, by repeat (first | with_reducible exact Kept.refl _ | with_reducible refine Kept.alloc ?_ _ | with_reducible refine Kept.drew ?_ | (with_reducible refine Kept.setCell8 ?_ ?_ _ _; rotate_left; (first | exact Nat.le_refl _ | omega | (simp; done) | (simp; omega))))⟩
    · have b1 : decide (n ≤ 4) = false := decide_eq_false b
      rw [show askN jf n = jf from if_neg (by omega)]
      go_enter Try.func19, Try.ntmps19
      go_wp2
      exact bodyPost_ret (v := .agg #[.int .u8 jf, .int .u8 je]) (by simp [results, Try.results19, go_sem]) rfl ⟨rfl, by repeat (first | with_reducible exact Kept.refl _ | with_reducible refine Kept.alloc ?_ _ | with_reducible refine Kept.drew ?_ | (with_reducible refine Kept.setCell8 ?_ ?_ _ _; rotate_left; (first | exact Nat.le_refl _ | omega | (simp; done) | (simp; omega))))⟩
  · have a1 : decide (0 ≤ n) = false := decide_eq_false a
    have a2 : decide (n ≥ 0) = false := decide_eq_false a
    rw [show askN jf n = jf from if_neg (by omega)]
    go_enter Try.func19, Try.ntmps19
    go_wp2
    exact bodyPost_ret (v := .agg #[.int .u8 jf, .int .u8 je]) (by simp [results, Try.results19, go_sem]) rfl ⟨rfl, by repeat (first | with_reducible exact Kept.refl _ | with_reducible refine Kept.alloc ?_ _ | with_reducible refine Kept.drew ?_ | (with_reducible refine Kept.setCell8 ?_ ?_ _ _; rotate_left; (first | exact Nat.le_refl _ | omega | (simp; done) | (simp; omega))))⟩
set_option maxRecDepth 100000 in
set_option maxHeartbeats 4000000 in
theorem rtake14 (i : Iq) (n : Int) (w : World) (I : IqIn i) : Calls Try.prog 21 #[iqV i, .int .i64 n] w fun e w' => e = .returned (iqV (takeI i n)) ∧ Kept w w' := by
  obtain ⟨jf, je⟩ := i
  have f0 := I.f0
  have f1 := I.f1
  have e0 := I.e0
  have e1 := I.e1
  simp only at f0 f1 e0 e1
  have H := hid (fun u => rput_any jf n false u f0 f1)
  show Calls _ _ _ _ fun e w' => e = .returned (.agg #[.int .u8 (takeN jf n), .int .u8 je]) ∧ Kept w w'
  clear I
  by_cases a : 0 ≤ n
  · have a1 : decide (0 ≤ n) = true := decide_eq_true a
    have a2 : decide (n ≥ 0) = true := decide_eq_true a
    by_cases b : n ≤ 4
    · have b1 : decide (n ≤ 4) = true := decide_eq_true b
      rw [show takeN jf n = putOf jf n false from if_pos ⟨a, by omega⟩]
      generalize putOf jf n false = gv at *
      go_enter Try.func21, Try.ntmps21
      go_wp2_with fail
      refine (H.out _).mono ?_
      rintro e u1 ⟨rfl, rfl⟩
      go_wp2
      exact bodyPost_ret (v := .agg #[.int .u8 gv, .int .u8 je]) (by simp [results, Try.results21, go_sem]) rfl ⟨rfl, by repeat (first | with_reducible exact Kept.refl _ | with_reducible refine Kept.alloc ?_ _ | with_reducible refine Kept.drew ?_ | (with_reducible refine Kept.setCell8 ?_ ?_ _ _; rotate_left; (first | exact Nat.le_refl _ | omega | (simp; done) | (simp; omega))))⟩
    · have b1 : decide (n ≤ 4) = false := decide_eq_false b
      rw [show takeN jf n = jf from if_neg (by omega)]
      go_enter Try.func21, Try.ntmps21
      go_wp2
      exact bodyPost_ret (v := .agg #[.int .u8 jf, .int .u8 je]) (by simp [results, Try.results21, go_sem]) rfl ⟨rfl, by repeat (first | with_reducible exact Kept.refl _ | with_reducible refine Kept.alloc ?_ _ | with_reducible refine Kept.drew ?_ | (with_reducible refine Kept.setCell8 ?_ ?_ _ _; rotate_left; (first | exact Nat.le_refl _ | omega | (simp; done) | (simp; omega))))⟩
  · have a1 : decide (0 ≤ n) = false := decide_eq_false a
    have a2 : decide (n ≥ 0) = false := decide_eq_false a
    rw [show takeN jf n = jf from if_neg (by omega)]
    go_enter Try.func21, Try.ntmps21
    go_wp2
    exact bodyPost_ret (v := .agg #[.int .u8 jf, .int .u8 je]) (by simp [results, Try.results21, go_sem]) rfl ⟨rfl, by repeat (first | with_reducible exact Kept.refl _ | with_reducible refine Kept.alloc ?_ _ | with_reducible refine Kept.drew ?_ | (with_reducible refine Kept.setCell8 ?_ ?_ _ _; rotate_left; (first | exact Nat.le_refl _ | omega | (simp; done) | (simp; omega))))⟩
set_option maxRecDepth 100000 in
set_option maxHeartbeats 4000000 in
theorem rread14 (i : Iq) (a : Int) (w : World) (I : IqIn i) : Calls Try.prog 23 #[iqV i, .int .u16 a] w fun e w' => e = .returned (.int .u8 (readI i a)) ∧ Kept w w' := by
  obtain ⟨jf, je⟩ := i
  have f0 := I.f0
  have f1 := I.f1
  have e0 := I.e0
  have e1 := I.e1
  simp only at f0 f1 e0 e1
  have q1 : Int.tmod jf 32 = jf % 32 := Int.tmod_eq_emod_of_nonneg f0
  have q : IntKind.u8.wrap (224 + jf % 32) = 224 + jf % 32 := by rw [IntKind.wrap_u8]; omega
  clear I
  by_cases h1 : a = 65295
  · subst h1
    rw [show readI ⟨jf, je⟩ 65295 = 224 + jf % 32 from rfl]
    go_enter Try.func23, Try.ntmps23
    go_wp2
    go_ret
    exact ⟨by first | rfl | (rw [q1, q]; done) | (rw [← q]; rfl), (Kept.refl w).alloc _⟩
  · have d1 : (a == 65295) = false := by simpa using h1
    by_cases h2 : a = 65535
    · subst h2
      rw [show readI ⟨jf, je⟩ 65535 = je from rfl]
      go_enter Try.func23, Try.ntmps23
      go_wp2
      go_ret
      exact ⟨rfl, (Kept.refl w).alloc _⟩
    · have d2 : (a == 65535) = false := by simpa using h2
      rw [show readI ⟨jf, je⟩ a = 255 by unfold readI; rw [if_neg h1, if_neg h2]]
      go_enter Try.func23, Try.ntmps23
      go_wp2
      go_ret
      exact ⟨rfl, (Kept.refl w).alloc _⟩
set_option maxRecDepth 100000 in
set_option maxHeartbeats 4000000 in
theorem rwrite14 (i : Iq) (a v : Int) (w : World) (I : IqIn i) (v0 : 0 ≤ v) (v1 : v ≤ 255) : Calls Try.prog 25 #[iqV i, .int .u16 a, .int .u8 v] w fun e w' => e = .returned (iqV (writeI i a v)) ∧ Kept w w' := by
  obtain ⟨jf, je⟩ := i
  have q : Int.tmod v 32 = v % 32 := Int.tmod_eq_emod_of_nonneg v0
  clear I
  by_cases h1 : a = 65295
  · subst h1
    rw [show writeI ⟨jf, je⟩ 65295 v = ⟨v % 32, je⟩ from rfl]
    go_enter Try.func25, Try.ntmps25
    go_wp2
    exact bodyPost_ret (v := .agg #[.int .u8 (v % 32), .int .u8 je]) (by first | (simp [results, Try.results25, go_sem]; done) | (simp [results, Try.results25, go_sem, q]; done)) rfl ⟨rfl, by repeat (first | with_reducible exact Kept.refl _ | with_reducible refine Kept.alloc ?_ _ | with_reducible refine Kept.drew ?_ | (with_reducible refine Kept.setCell8 ?_ ?_ _ _; rotate_left; (first | exact Nat.le_refl _ | omega | (simp; done) | (simp; omega))))⟩
  · have d1 : (a == 65295) = false := by simpa using h1
    by_cases h2 : a = 65535
    · subst h2
      rw [show writeI ⟨jf, je⟩ 65535 v = ⟨jf, v⟩ from rfl]
      go_enter Try.func25, Try.ntmps25
      go_wp2
      exact bodyPost_ret (v := .agg #[.int .u8 jf, .int .u8 v]) (by first | (simp [results, Try.results25, go_sem]; done) | (simp [results, Try.results25, go_sem, q]; done)) rfl ⟨rfl, by repeat (first | with_reducible exact Kept.refl _ | with_reducible refine Kept.alloc ?_ _ | with_reducible refine Kept.drew ?_ | (with_reducible refine Kept.setCell8 ?_ ?_ _ _; rotate_left; (first | exact Nat.le_refl _ | omega | (simp; done) | (simp; omega))))⟩
    · have d2 : (a == 65535) = false := by simpa using h2
      rw [show writeI ⟨jf, je⟩ a v = ⟨jf, je⟩ by unfold writeI; rw [if_neg h1, if_neg h2]]
      go_enter Try.func25, Try.ntmps25
      go_wp2
      exact bodyPost_ret (v := .agg #[.int .u8 jf, .int .u8 je]) (by first | (simp [results, Try.results25, go_sem]; done) | (simp [results, Try.results25, go_sem, q]; done)) rfl ⟨rfl, by repeat (first | with_reducible exact Kept.refl _ | with_reducible refine Kept.alloc ?_ _ | with_reducible refine Kept.drew ?_ | (with_reducible refine Kept.setCell8 ?_ ?_ _ _; rotate_left; (first | exact Nat.le_refl _ | omega | (simp; done) | (simp; omega))))⟩
end Go.Proofs.Ytfgkchmnmnmccaa
