/- What in, Kinds, Most, signs, Sum and Whole of the document's answers of layer 7 come to. -/
import Derived.Test.YtfmehkaojfjdjaaDoorH7
import Derived.Test.YtfmehkaojfjdjaaDoorChecked
import Derived.Deep.QuietTactic
import Derived.BigQuiet
namespace Go.Proofs.YtfmehkaojfjdjaaDoor
open Go.RowKit
set_option linter.unusedVariables false
set_option linter.unusedSimpArgs false

theorem inL_yes (ls : List Int) (b : Int) (k : Nat) (h : k < ls.length) (e : ls.getD k 0 = b) : inL ls b = true := by
  unfold inL
  rw [List.any_eq_true]
  refine ⟨ls[k], List.getElem_mem h, ?_⟩
  rw [List.getD_eq_getElem?_getD, List.getElem?_eq_getElem h] at e
  simpa using e
theorem inL_no (ls : List Int) (b : Int) (h : ∀ k, k < ls.length → ls.getD k 0 ≠ b) : inL ls b = false := by
  unfold inL
  rw [List.any_eq_false]
  intro x hx
  obtain ⟨k, hk, rfl⟩ := List.getElem_of_mem hx
  have := h k hk
  rw [List.getD_eq_getElem?_getD, List.getElem?_eq_getElem hk] at this
  simpa using this
set_option maxRecDepth 100000 in
theorem rin_any (ls : List Int) (b : Int) (g cap : Nat) (w : World) (hz : g < w.heap.size) (hc : ∀ i, i < ls.length → w.cell? ⟨g, i, none⟩ = some (.int .u8 (ls.getD i 0))) (hl : ls.length ≤ 1000) : Calls Tryd.prog 34 #[.slice (some ⟨g, 0, none⟩) ls.length cap, .int .u8 b] w fun e w' => e = .returned (.bool (inL ls b)) ∧ w' = w := by
  obtain ⟨LN, hLN⟩ : ∃ n, ls.length = n := ⟨_, rfl⟩
  have HN := hid (inL_no ls b)
  have HY := hid (inL_yes ls b)
  have HC := hid hc
  have HL := hid hLN
  rw [hLN] at hl ⊢
  clear hc hLN
  go_enter Tryd.func34, Tryd.ntmps34
  go_wp2
  go_loopw [5] (fun i wr => ∃ k : Nat, k ≤ LN ∧ i = .int .i64 (k : Int) ∧ (∀ j, j < k → ls.getD j 0 ≠ b) ∧ wr = w) (fun i _ => LN - (intOf i).toNat)
  case atStart => exact ⟨0, Nat.zero_le _, rfl, fun j h => absurd h (by omega), rfl⟩
  case round =>
    obtain ⟨k, hk, rfl, hno, rfl⟩ := hrel
    have NO := hid hno
    clear hno
    by_cases hlt : k < LN
    · have hlt2 : (k : Int) < (LN : Int) := by omega
      have ck := HC.out k (by rw [HL.out]; exact hlt)
      obtain ⟨x, hx⟩ : ∃ x, ls.getD k 0 = x := ⟨_, rfl⟩
      rw [hx] at ck
      cases hb : (x == b)
      · have hb2 : x ≠ b := by simpa using hb
        have NN := hid (show ∀ j, j < k + 1 → ls.getD j 0 ≠ b from fun j hj => by
          by_cases e : j = k
          · rw [e, hx]; exact hb2
          · exact NO.out j (by omega))
        clear hx hb2
        go_wp2
        go_roundw
        case rel => exact ⟨k + 1, by omega, by go_num, NN.out, by trivial⟩
        case measure => first | omega | (simp; omega) | (simp [intOf]; omega)
      · have hb2 : x = b := by simpa using hb
        have Y := hid (HY.out k (by rw [HL.out]; exact hlt) (hx.trans hb2))
        clear hx hb2
        go_wp2
        go_ret
        exact ⟨ret_bool Y.out.symm, rfl⟩
    · obtain rfl : k = LN := by omega
      have E := hid (HN.out (fun j hj => NO.out j (by rw [← HL.out]; exact hj)))
      have hl2 : ¬ ((k : Int) < (k : Int)) := by omega
      go_wp2
      go_ret
      exact ⟨ret_bool E.out.symm, rfl⟩
theorem rsigns_any (b : Int) (w : World) : Calls Tryd.prog 22 #[.int .u8 b] w fun e w' => e = .returned (.bool (signB b)) ∧ w' = w := by
  unfold signB
  go_enter Tryd.func22, Tryd.ntmps22
  by_cases h : 32 ≤ b
  · have h2 : decide (32 ≤ b) = true := decide_eq_true h
    rw [h2]
    go_wp2
    go_ret
    exact ⟨by simp, rfl⟩
  · have h2 : decide (32 ≤ b) = false := decide_eq_false h
    rw [h2]
    go_wp2
    go_ret
    exact ⟨by simp, rfl⟩
set_option maxRecDepth 100000 in
theorem rmost_any (r : Int) (w : World) (h0 : 0 ≤ r) (h1 : r ≤ 8) : Calls Tryd.prog 21 #[.int .u8 r] w fun e w' => e = .returned (.int .i64 (mostOf r)) ∧ w' = w := by
  go_enter Tryd.func21, Tryd.ntmps21
  go_wp2
  go_loopw [3, 4] (fun n i wr => ∃ k : Nat, (k : Int) ≤ r ∧ n = .int .i64 (mostTo k) ∧ i = .int .u8 (k : Int) ∧ wr = w) (fun _ i _ => 9 - (intOf i).toNat)
  case atStart => exact ⟨0, h0, rfl, rfl, rfl⟩
  case round =>
    obtain ⟨k, hk, rfl, rfl, rfl⟩ := hrel
    have mf := most_fin ⟨k, by omega⟩
    simp only at mf
    by_cases hlt : (k : Int) < r
    · have h9 : (k : Int) < 9 := by omega
      have w1 : IntKind.u8.wrap ((k : Int) + 1) = (k : Int) + 1 := by rw [IntKind.wrap_u8]; omega
      have w2 : IntKind.i64.wrap (mostTo k * 2) = mostTo k * 2 := by rw [IntKind.wrap_i64]; omega
      have E := hid (show mostTo (k + 1) = mostTo k * 2 from rfl)
      generalize mostTo k = M at *
      go_wp2
      go_roundw
      case rel => exact ⟨k + 1, by omega, by rw [E.out], by go_num, by trivial⟩
      case measure => first | omega | (simp; omega) | (simp [intOf]; omega)
    · have E := hid (show mostOf r = mostTo k by unfold mostOf; congr 1; omega)
      generalize mostTo k = M at *
      go_wp2
      go_ret
      exact ⟨by rw [E.out]; rfl, rfl⟩
set_option maxRecDepth 100000 in
theorem rsum_any (z : List Int) (a : Option Addr) (cap : Nat) (w : World) (row : Row w a z) : Calls Tryd.prog 13 #[.slice a z.length cap] w fun e w' => e = .returned (.tuple #[.int .u8 (sumV z), .int .i64 (sumE z)]) ∧ w' = w := by
  have hm : z.length ≤ maxLen := row.1
  by_cases hs : z.length < 336
  · have e1 : sumV z = 0 := by simp [sumV, hs]
    have e2 : sumE z = 2 := by simp [sumE, hs]
    rw [e1, e2]
    generalize z.length = n at *
    have h2 : (n : Int) < 336 := by omega
    clear row
    go_enter Tryd.func13, Tryd.ntmps13
    go_wp2
    go_ret2
    exact ⟨rfl, rfl⟩
  · have e1 : sumV z = sumTo z 25 := by simp [sumV, hs, sumOf]
    have e2 : sumE z = 0 := by simp [sumE, hs]
    rw [e1, e2]
    obtain ⟨x, rfl, hx, hc⟩ := row_get row (by omega)
    have HC := hid hc
    obtain ⟨n, hn⟩ : ∃ n, z.length = n := ⟨_, rfl⟩
    have HN := hid hn
    rw [hn] at hs hm ⊢
    have h2 : ¬ ((n : Int) < 336) := by omega
    clear row hc hn
    go_enter Tryd.func13, Tryd.ntmps13
    go_wp2
    go_loopw [4, 5] (fun v i wr => ∃ k : Nat, k ≤ 25 ∧ v = .int .i64 (sumTo z k) ∧ i = .int .i64 (308 + (k : Int)) ∧ wr = w) (fun _ i _ => 400 - (intOf i).toNat)
    case atStart => exact ⟨0, by omega, rfl, rfl, rfl⟩
    case round =>
      obtain ⟨k, hk, rfl, rfl, rfl⟩ := hrel
      have sb := sumTo_bd z k
      by_cases hlt : k < 25
      · have hlt2 : 308 + (k : Int) ≤ 332 := by omega
        have hlt3 : 308 + (k : Int) < (n : Int) := by omega
        have ck := HC.out (308 + k) (by rw [HN.out]; omega)
        have E := hid (show sumTo z (k + 1) = (sumTo z k + 512 - z.getD (308 + k) 0 - 1) % 256 from rfl)
        obtain ⟨y, hy⟩ : ∃ y, z.getD (308 + k) 0 = y := ⟨_, rfl⟩
        rw [hy] at ck E
        obtain ⟨ck, y0, y1⟩ := ck
        generalize sumTo z k = S at *
        clear hy
        have tn : (308 + (k : Int)).toNat = 308 + k := by omega
        have w1 : IntKind.i64.wrap (S + 512) = S + 512 := by rw [IntKind.wrap_i64]; omega
        have w2 : IntKind.i64.wrap (S + 512 - y) = S + 512 - y := by rw [IntKind.wrap_i64]; omega
        have w3 : IntKind.i64.wrap (S + 512 - y - 1) = S + 512 - y - 1 := by rw [IntKind.wrap_i64]; omega
        have tm : Int.tmod (S + 512 - y - 1) 256 = (S + 512 - y - 1) % 256 := Int.tmod_eq_emod_of_nonneg (by omega)
        go_wp2
        go_roundw
        case rel => exact ⟨k + 1, by omega, by rw [E.out], by go_num, by trivial⟩
        case measure => first | omega | (simp; omega) | (simp [intOf]; omega)
      · obtain rfl : k = 25 := by omega
        generalize hS : sumTo z 25 = S at *
        have HS := hid hS
        clear hS
        have w1 : IntKind.u8.wrap S = S := by rw [IntKind.wrap_u8]; omega
        go_wp2
        go_ret2
        exact ⟨by rw [HS.out]; rfl, rfl⟩
set_option maxRecDepth 100000 in
theorem rwhole_any (z : List Int) (a : Option Addr) (cap : Nat) (w : World) (row : Row w a z) : Calls Tryd.prog 15 #[.slice a z.length cap] w fun e w' => e = .returned (.int .u16 (wholeOf z)) ∧ w' = w := by
  have hm : z.length ≤ maxLen := row.1
  unfold wholeOf
  have HR := hid row
  obtain ⟨n, hn⟩ : ∃ n, z.length = n := ⟨_, rfl⟩
  have HN := hid hn
  rw [hn] at hm ⊢
  clear row hn
  go_enter Tryd.func15, Tryd.ntmps15
  go_wp2
  go_loopw [3, 4] (fun v i wr => ∃ k : Nat, k ≤ n ∧ v = .int .i64 (wholeTo z k) ∧ i = .int .i64 (k : Int) ∧ wr = w) (fun _ i _ => n - (intOf i).toNat)
  case atStart => exact ⟨0, by omega, rfl, rfl, rfl⟩
  case round =>
    obtain ⟨k, hk, rfl, rfl, rfl⟩ := hrel
    have sb := wholeTo_bd z k
    by_cases hlt : k < n
    · have hlt2 : (k : Int) < (n : Int) := by omega
      obtain ⟨x, rfl, hx, hc⟩ := row_get HR.out (by rw [HN.out]; omega)
      obtain ⟨ck, y0, y1⟩ := hc k (by rw [HN.out]; exact hlt)
      have w0 : IntKind.i64.wrap ((k : Int) + 1) = (k : Int) + 1 := by unfold maxLen at hm; rw [IntKind.wrap_i64]; omega
      clear hc
      by_cases h3 : k = 334 ∨ k = 335
      · have E := hid (show wholeTo z (k + 1) = wholeTo z k by simp [wholeTo, h3])
        generalize wholeTo z k = S at *
        rcases h3 with rfl | rfl
        · go_wp2
          go_roundw
          case rel => exact ⟨334 + 1, by omega, by rw [E.out], by go_num, by trivial⟩
          case measure => first | omega | (simp; omega) | (simp [intOf]; omega)
        · go_wp2
          go_roundw
          case rel => exact ⟨335 + 1, by omega, by rw [E.out], by go_num, by trivial⟩
          case measure => first | omega | (simp; omega) | (simp [intOf]; omega)
      · have n1 : ((k : Int) != 334) = true := by simp; omega
        have n2 : ((k : Int) != 335) = true := by simp; omega
        have E := hid (show wholeTo z (k + 1) = (wholeTo z k + z.getD k 0) % 65536 by simp [wholeTo, h3])
        generalize z.getD k 0 = y at *
        generalize wholeTo z k = S at *
        have w1 : IntKind.i64.wrap (S + y) = S + y := by rw [IntKind.wrap_i64]; omega
        have tm : Int.tmod (S + y) 65536 = (S + y) % 65536 := Int.tmod_eq_emod_of_nonneg (by omega)
        clear h3
        go_wp2
        go_roundw
        case rel => exact ⟨k + 1, by omega, by rw [E.out], by go_num, by trivial⟩
        case measure => first | omega | (simp; omega) | (simp [intOf]; omega)
    · obtain rfl : k = n := by omega
      have hl2 : ¬ ((k : Int) < (k : Int)) := by omega
      generalize hS : wholeTo z k = S at *
      have HS := hid hS
      clear hS
      have w1 : IntKind.u16.wrap S = S := by rw [IntKind.wrap_u16]; omega
      go_wp2
      go_ret
      exact ⟨by rw [HS.out]; rfl, rfl⟩
end Go.Proofs.YtfmehkaojfjdjaaDoor
