/- Extra dots, over this seat's translation: the program's and the document's. -/
import Derived.Test.YtaknbjignaefkaaSl16
import Derived.Test.YtaknbjignaefkaaChecked
namespace Go.Proofs.Ytaknbjignaefkaa
open Go.RowKit
set_option linter.unusedVariables false
set_option linter.unusedSimpArgs false

set_option maxRecDepth 100000 in
set_option maxHeartbeats 4000000 in
theorem pext16 (a : Option Addr) (cap : Nat) (L : List Ob) (s : Int) (w : World) (h : SlO w a cap L) (hl : L.length ≤ 28147497670246) (s0 : 0 ≤ s) (s1 : s ≤ 255) :
    Calls Try.prog 19 #[.slice a L.length cap, .int .u8 s] w fun e w' => e = .returned (.int .i64 (sumI L s L.length)) ∧ Kept w w' := by
  have FG := hid (fun q => slO_at h q)
  have SB := hid (sum_bd L s s0)
  obtain ⟨n, hn⟩ : ∃ n : Nat, L.length = n := ⟨_, rfl⟩
  rw [hn] at hl FG ⊢
  have e0 : IntKind.i64.wrap s = s := by rw [IntKind.wrap_i64]; omega
  have e1 : Int.tmod s 8 = s % 8 := Int.tmod_eq_emod_of_nonneg s0
  have e2 : IntKind.i64.wrap (s % 8) = s % 8 := by rw [IntKind.wrap_i64]; omega
  clear hn h
  go_enter Try.func19, Try.ntmps19
  go_wp2
  go_loopw [5, 13] (fun dv iv wr => ∃ j : Nat, j ≤ n ∧ iv = .int .i64 (j : Int) ∧ dv = .int .i64 (sumI L s j) ∧ Kept w wr) (fun _ iv _ => n - (intOf iv).toNat)
  case atStart => exact ⟨0, Nat.zero_le _, rfl, rfl, Kept.refl w⟩
  case round =>
    obtain ⟨j, hj, rfl, rfl, hk⟩ := hrel
    have KK := hid hk
    by_cases hlt : j < n
    · have g1 : decide ((j : Int) < (n : Int)) = true := decide_eq_true (by omega)
      have g3 : (j : Int) < (n : Int) := by omega
      obtain ⟨x, rfl, hx, hc⟩ := FG.out (by omega)
      have O := oat_kept hk (by rw [addFB]; exact hx) (hc j hlt)
      obtain ⟨b0, b1⟩ := SB.out j
      obtain ⟨o, ho⟩ : ∃ o, L.getD j default = o := ⟨_, rfl⟩
      have HY := hid (fun q => sum_yes (s := s) ho q)
      have HN := hid (fun q => sum_no (s := s) ho q)
      rw [ho] at O
      obtain ⟨⟨oy, ly⟩, ⟨ox, lx⟩, ⟨ot, lt⟩, ⟨oa, la⟩, ⟨on, ln⟩⟩ := o
      obtain ⟨d0, d1, d2, d3, d4⟩ := O
      simp only [b8] at d0 d1 d2 d3 d4 HY HN
      generalize sumI L s j = S at *
      clear hc ho hk hx
      by_cases hx : (ox : Int) < 168
      · have g4 : decide ((ox : Int) < 168) = true := decide_eq_true hx
        have NX := hid (HY.out hx)
        have f1 : IntKind.i64.wrap (ox : Int) = (ox : Int) := by rw [IntKind.wrap_i64]; omega
        have f2 : IntKind.i64.wrap ((ox : Int) + s) = (ox : Int) + s := by rw [IntKind.wrap_i64]; omega
        have f3 : Int.tmod ((ox : Int) + s) 8 = ((ox : Int) + s) % 8 := Int.tmod_eq_emod_of_nonneg (by omega)
        obtain ⟨q, hq⟩ : ∃ q, ((ox : Int) + s) % 8 = q := ⟨_, rfl⟩
        rw [hq] at f3 NX
        have q0 : 0 ≤ q := by omega
        have q7 : q ≤ 7 := by omega
        have f4 : IntKind.i64.wrap q = q := by rw [IntKind.wrap_i64]; omega
        clear HY HN hq
        obtain ⟨mn, hm⟩ : ∃ v, min 5 q = v := ⟨_, rfl⟩
        rw [hm] at NX
        have m0 : 0 ≤ mn := by omega
        have m5 : mn ≤ 5 := by omega
        have f5 : IntKind.i64.wrap (11 - mn) = 11 - mn := by rw [IntKind.wrap_i64]; omega
        have f6 : IntKind.i64.wrap (S + (11 - mn)) = S + (11 - mn) := by rw [IntKind.wrap_i64]; omega
        by_cases c5 : q < 5
        · have m1 : mn = q := by omega
          subst m1
          have g5 : decide (mn < 5) = true := decide_eq_true c5
          have g6 : decide (5 < mn) = false := decide_eq_false (by omega)
          have g7 : decide (5 ≤ mn) = false := decide_eq_false (by omega)
          go_wp2
          go_roundw
          case rel => exact ⟨j + 1, by omega, by go_num, by rw [NX.out], KK.out.alloc _⟩
          case measure => first | omega | (simp; omega) | (simp [intOf]; omega)
        · have m1 : mn = 5 := by omega
          subst m1
          have g5 : decide (q < 5) = false := decide_eq_false c5
          have g7 : decide (5 ≤ q) = true := decide_eq_true (by omega)
          go_wp2
          go_roundw
          case rel => exact ⟨j + 1, by omega, by go_num, by rw [NX.out]; rfl, KK.out.alloc _⟩
          case measure => first | omega | (simp; omega) | (simp [intOf]; omega)
      · have g4 : decide ((ox : Int) < 168) = false := decide_eq_false hx
        have NX := hid (HN.out hx)
        clear HY HN
        go_wp2
        go_roundw
        case rel => exact ⟨j + 1, by omega, by go_num, by rw [NX.out], KK.out.alloc _⟩
        case measure => first | omega | (simp; omega) | (simp [intOf]; omega)
    · have je : j = n := by omega
      subst je
      go_wp2
      go_ret
      exact ⟨rfl, KK.out⟩
set_option maxRecDepth 100000 in
set_option maxHeartbeats 4000000 in
theorem rext16 (a : Option Addr) (cap : Nat) (L : List Ob) (s : Int) (w : World) (h : SlO w a cap L) (hl : L.length ≤ 28147497670246) (s0 : 0 ≤ s) (s1 : s ≤ 255) :
    Calls Try.prog 20 #[.slice a L.length cap, .int .u8 s] w fun e w' => e = .returned (.int .i64 (sumI L s L.length)) ∧ w' = w := by
  have FG := hid (fun q => slO_at h q)
  have SB := hid (sum_bd L s s0)
  obtain ⟨n, hn⟩ : ∃ n : Nat, L.length = n := ⟨_, rfl⟩
  rw [hn] at hl FG ⊢
  have e0 : IntKind.i64.wrap s = s := by rw [IntKind.wrap_i64]; omega
  have e1 : Int.tmod s 8 = s % 8 := Int.tmod_eq_emod_of_nonneg s0
  have e2 : IntKind.i64.wrap (s % 8) = s % 8 := by rw [IntKind.wrap_i64]; omega
  clear hn h
  go_enter Try.func20, Try.ntmps20
  go_wp2
  go_loopw [5, 6] (fun dv iv wr => ∃ j : Nat, j ≤ n ∧ iv = .int .i64 (j : Int) ∧ dv = .int .i64 (sumI L s j) ∧ wr = w) (fun _ iv _ => n - (intOf iv).toNat)
  case atStart => exact ⟨0, Nat.zero_le _, rfl, rfl, rfl⟩
  case round =>
    obtain ⟨j, hj, rfl, rfl, rfl⟩ := hrel
    by_cases hlt : j < n
    · have g1 : decide ((j : Int) < (n : Int)) = true := decide_eq_true (by omega)
      have g3 : (j : Int) < (n : Int) := by omega
      obtain ⟨x, rfl, hx, hc⟩ := FG.out (by omega)
      have O := hc j hlt
      obtain ⟨b0, b1⟩ := SB.out j
      obtain ⟨o, ho⟩ : ∃ o, L.getD j default = o := ⟨_, rfl⟩
      have HY := hid (fun q => sum_yes (s := s) ho q)
      have HN := hid (fun q => sum_no (s := s) ho q)
      rw [ho] at O
      obtain ⟨⟨oy, ly⟩, ⟨ox, lx⟩, ⟨ot, lt⟩, ⟨oa, la⟩, ⟨on, ln⟩⟩ := o
      obtain ⟨d0, d1, d2, d3, d4⟩ := O
      simp only [b8] at d0 d1 d2 d3 d4 HY HN
      generalize sumI L s j = S at *
      clear hc ho hx
      by_cases hx : (ox : Int) < 168
      · have g4 : decide ((ox : Int) < 168) = true := decide_eq_true hx
        have NX := hid (HY.out hx)
        have f1 : IntKind.i64.wrap (ox : Int) = (ox : Int) := by rw [IntKind.wrap_i64]; omega
        have f2 : IntKind.i64.wrap ((ox : Int) + s) = (ox : Int) + s := by rw [IntKind.wrap_i64]; omega
        have f3 : Int.tmod ((ox : Int) + s) 8 = ((ox : Int) + s) % 8 := Int.tmod_eq_emod_of_nonneg (by omega)
        obtain ⟨q, hq⟩ : ∃ q, ((ox : Int) + s) % 8 = q := ⟨_, rfl⟩
        rw [hq] at f3 NX
        have q0 : 0 ≤ q := by omega
        have q7 : q ≤ 7 := by omega
        have f4 : IntKind.i64.wrap q = q := by rw [IntKind.wrap_i64]; omega
        have f5 : IntKind.i64.wrap (S + 11) = S + 11 := by rw [IntKind.wrap_i64]; omega
        clear HY HN hq
        by_cases c5 : 5 < q
        · have g5 : decide (5 < q) = true := decide_eq_true c5
          have f6 : IntKind.i64.wrap (S + 11 - 5) = S + 11 - 5 := by rw [IntKind.wrap_i64]; omega
          have NE : Hid (S + 11 - 5 = sumI L s (j + 1)) := by rw [NX.out]; show _ = _; omega
          go_wp2
          go_roundw
          case rel => exact ⟨j + 1, by omega, by go_num, by rw [← NE.out], trivial⟩
          case measure => first | omega | (simp; omega) | (simp [intOf]; omega)
        · have g5 : decide (5 < q) = false := decide_eq_false c5
          have f6 : IntKind.i64.wrap (S + 11 - q) = S + 11 - q := by rw [IntKind.wrap_i64]; omega
          have NE : Hid (S + 11 - q = sumI L s (j + 1)) := by rw [NX.out]; show _ = _; omega
          go_wp2
          go_roundw
          case rel => exact ⟨j + 1, by omega, by go_num, by rw [← NE.out], trivial⟩
          case measure => first | omega | (simp; omega) | (simp [intOf]; omega)
      · have g4 : decide ((ox : Int) < 168) = false := decide_eq_false hx
        have NX := hid (HN.out hx)
        clear HY HN
        go_wp2
        go_roundw
        case rel => exact ⟨j + 1, by omega, by go_num, by rw [NX.out], trivial⟩
        case measure => first | omega | (simp; omega) | (simp [intOf]; omega)
    · have je : j = n := by omega
      subst je
      go_wp2
      go_ret
      exact ⟨rfl, rfl⟩
end Go.Proofs.Ytaknbjignaefkaa
