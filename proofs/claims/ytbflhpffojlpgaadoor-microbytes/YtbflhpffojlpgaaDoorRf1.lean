/- What Fits of the document's answers of layer 5 comes to: a row's eight signs against an opcode. -/
import Derived.Test.YtbflhpffojlpgaaDoorRef
import Derived.Test.YtbflhpffojlpgaaDoorOp
import Derived.Test.YtbflhpffojlpgaaDoorGrow2
import Derived.Deep.RegionHeld3
namespace Go.Proofs.YtbflhpffojlpgaaDoor
open Go.RowKit
set_option linter.unusedVariables false
set_option linter.unusedSimpArgs false

def sg (s : ByteArray) (k : Nat) : Int := ((s.data.toList.getD k 0).toNat : Int)
theorem sg_get (s : ByteArray) (k : Nat) (h : k < s.size) : sg s k = ((s[k]'h).toNat : Int) := by
  unfold sg
  have h2 : k < s.data.toList.length := by simpa using h
  rw [List.getD_eq_getElem?_getD, List.getElem?_eq_getElem h2]
  rfl
theorem sign_run (s : ByteArray) (k : Nat) (c : Int) (h : k < s.size) (e : sg s k = c) : ∀ u, (Instr.index 9 (.string s) (.int .i64 (k : Int))).run Tryd.prog u = .ok (.int .u8 c) u := by
  intro u
  rw [run_index_string u 9 s .i64 (k : Int) (by kernel_rfl), dif_pos ⟨by omega, by omega⟩, ← e, sg_get s k h]
  rfl
def onOf (op : Int) (k : Nat) : Int := if bitOf op (7 - (k : Int)) then 1 else 0
def fx (s : ByteArray) (op : Int) : Nat → Int
  | 0 => 0
  | k + 1 => if sg s k = 120 then 2 * fx s op k + (if bitOf op (7 - (k : Int)) then 1 else 0) else fx s op k
def fy (s : ByteArray) (op : Int) : Nat → Int
  | 0 => 0
  | k + 1 => if sg s k = 121 then 2 * fy s op k + (if bitOf op (7 - (k : Int)) then 1 else 0) else fy s op k
def fok (s : ByteArray) (op : Int) : Nat → Bool
  | 0 => true
  | k + 1 => fok s op k && (if sg s k = 48 then !bitOf op (7 - (k : Int)) else if sg s k = 49 then bitOf op (7 - (k : Int)) else true)
theorem fok_no (s : ByteArray) (op : Int) (k n : Nat) (h : k ≤ n) (hk : fok s op k = false) : fok s op n = false := by
  induction n with
  | zero => obtain rfl : k = 0 := by omega
            exact hk
  | succ n ih =>
    by_cases e : k = n + 1
    · rw [← e]; exact hk
    · simp [fok, ih (by omega)]
theorem fx_bd (s : ByteArray) (op : Int) (k : Nat) : 0 ≤ fx s op k ∧ fx s op k < 2 ^ k := by
  induction k with
  | zero => exact ⟨Int.le_refl 0, (by decide : (0 : Int) < 1)⟩
  | succ k ih =>
    unfold fx
    rw [Int.pow_succ]
    split
    · split <;> omega
    · omega
theorem fy_bd (s : ByteArray) (op : Int) (k : Nat) : 0 ≤ fy s op k ∧ fy s op k < 2 ^ k := by
  induction k with
  | zero => exact ⟨Int.le_refl 0, (by decide : (0 : Int) < 1)⟩
  | succ k ih =>
    unfold fy
    rw [Int.pow_succ]
    split
    · split <;> omega
    · omega
theorem pw_bd (k : Nat) (h : k < 8) : (2 : Int) ^ k ≤ 128 := by
  have c : k = 0 ∨ k = 1 ∨ k = 2 ∨ k = 3 ∨ k = 4 ∨ k = 5 ∨ k = 6 ∨ k = 7 := by omega
  rcases c with rfl | rfl | rfl | rfl | rfl | rfl | rfl | rfl <;> decide
set_option maxHeartbeats 2000000 in
theorem fits_any (s : ByteArray) (op : Int) (w : World) (hs : s.size = 8) (hg : ∀ k : Nat, k < 8 → sg s k = 48 ∨ sg s k = 49 ∨ sg s k = 120 ∨ sg s k = 121) (h0 : 0 ≤ op) (h1 : op ≤ 255) :
    Calls Tryd.prog 47 #[.string s, .int .u8 op] w fun e w' => ((fok s op 8 = true ∧ e = .returned (.tuple #[.bool true, .int .i64 (fx s op 8), .int .i64 (fy s op 8)])) ∨ (fok s op 8 = false ∧ e = .returned (.tuple #[.bool false, .int .i64 0, .int .i64 0]))) ∧ w' = w := by
  go_enter Tryd.func47, Tryd.ntmps47
  go_wp2
  go_loopw [7, 8, 9] (fun x y i wr => ∃ k : Nat, k ≤ 8 ∧ x = .int .i64 (fx s op k) ∧ y = .int .i64 (fy s op k) ∧ i = .int .i64 (k : Int) ∧ fok s op k = true ∧ wr = w) (fun _ _ i _ => 8 - (intOf i).toNat)
  case atStart => exact ⟨0, Nat.zero_le _, rfl, rfl, rfl, rfl, rfl⟩
  case round =>
    obtain ⟨k, hk, rfl, rfl, rfl, hn, rfl⟩ := hrel
    have HN := hid hn
    clear hn
    by_cases hlt : k < 8
    · have p8 := pw_bd k hlt
      obtain ⟨x0, x1⟩ : 0 ≤ fx s op k ∧ fx s op k ≤ 127 := by have := fx_bd s op k; omega
      obtain ⟨y0, y1⟩ : 0 ≤ fy s op k ∧ fy s op k ≤ 127 := by have := fy_bd s op k; omega
      rcases hg k hlt with hc | hc | hc | hc
      · clear hg p8
        cases HB : bitOf op (7 - (k : Int))
        · have hb := hid (show bitOf op (7 - (k : Int)) = false from HB)
          have ix := sign_run s k 48 (by omega) hc
          have ho : fok s op (k + 1) = true := by simp [fok, hc, HB, HN.out]
          have e1 : fx s op (k + 1) = fx s op k := by simp [fx, hc, HB]
          have e2 : fy s op (k + 1) = fy s op k := by simp [fy, hc, HB]
          obtain ⟨X, hX⟩ : ∃ X, fx s op k = X := ⟨_, rfl⟩
          obtain ⟨Y, hY⟩ : ∃ Y, fy s op k = Y := ⟨_, rfl⟩
          rw [hX] at e1 x0 x1
          rw [hY] at e2 y0 y1
          rw [hX, hY]
          have EX := hid e1
          have EY := hid e2
          have HO := hid ho
          clear ho HB hc e1 e2 hX hY
          go_wp2_with (go_at_call 50; refine (rbit_any _ _ _ h0 h1).mono ?_; rintro e w' ⟨rfl, rfl⟩; rw [hb.out])
          go_roundw
          case rel => exact ⟨k + 1, by omega, by rw [EX.out], by rw [EY.out], by go_num, HO.out, by first | rfl | trivial⟩
          case measure => first | omega | (simp; omega) | (simp [intOf]; omega)
        · have hb := hid (show bitOf op (7 - (k : Int)) = true from HB)
          have ix := sign_run s k 48 (by omega) hc
          have ho : fok s op 8 = false := fok_no s op (k + 1) 8 (by omega) (by simp [fok, hc, HB])
          have HO := hid ho
          clear ho HB hc
          go_wp2_with (go_at_call 50; refine (rbit_any _ _ _ h0 h1).mono ?_; rintro e w' ⟨rfl, rfl⟩; rw [hb.out])
          exact bodyPost_ret (v := .tuple #[.bool false, .int .i64 0, .int .i64 0]) (by simp [results, Tryd.results47, go_sem]) rfl ⟨.inr ⟨HO.out, rfl⟩, rfl⟩
      · clear hg p8
        cases HB : bitOf op (7 - (k : Int))
        · have hb := hid (show bitOf op (7 - (k : Int)) = false from HB)
          have ix := sign_run s k 49 (by omega) hc
          have ho : fok s op 8 = false := fok_no s op (k + 1) 8 (by omega) (by simp [fok, hc, HB])
          have HO := hid ho
          clear ho HB hc
          go_wp2_with (go_at_call 50; refine (rbit_any _ _ _ h0 h1).mono ?_; rintro e w' ⟨rfl, rfl⟩; rw [hb.out])
          exact bodyPost_ret (v := .tuple #[.bool false, .int .i64 0, .int .i64 0]) (by simp [results, Tryd.results47, go_sem]) rfl ⟨.inr ⟨HO.out, rfl⟩, rfl⟩
        · have hb := hid (show bitOf op (7 - (k : Int)) = true from HB)
          have ix := sign_run s k 49 (by omega) hc
          have ho : fok s op (k + 1) = true := by simp [fok, hc, HB, HN.out]
          have e1 : fx s op (k + 1) = fx s op k := by simp [fx, hc, HB]
          have e2 : fy s op (k + 1) = fy s op k := by simp [fy, hc, HB]
          obtain ⟨X, hX⟩ : ∃ X, fx s op k = X := ⟨_, rfl⟩
          obtain ⟨Y, hY⟩ : ∃ Y, fy s op k = Y := ⟨_, rfl⟩
          rw [hX] at e1 x0 x1
          rw [hY] at e2 y0 y1
          rw [hX, hY]
          have EX := hid e1
          have EY := hid e2
          have HO := hid ho
          clear ho HB hc e1 e2 hX hY
          go_wp2_with (go_at_call 50; refine (rbit_any _ _ _ h0 h1).mono ?_; rintro e w' ⟨rfl, rfl⟩; rw [hb.out])
          go_roundw
          case rel => exact ⟨k + 1, by omega, by rw [EX.out], by rw [EY.out], by go_num, HO.out, by first | rfl | trivial⟩
          case measure => first | omega | (simp; omega) | (simp [intOf]; omega)
      · clear hg p8
        cases HB : bitOf op (7 - (k : Int))
        · have hb := hid (show bitOf op (7 - (k : Int)) = false from HB)
          have ix := sign_run s k 120 (by omega) hc
          have ho : fok s op (k + 1) = true := by simp [fok, hc, HB, HN.out]
          have e1 : fx s op (k + 1) = 2 * fx s op k := by simp [fx, hc, HB]
          have e2 : fy s op (k + 1) = fy s op k := by simp [fy, hc, HB]
          obtain ⟨X, hX⟩ : ∃ X, fx s op k = X := ⟨_, rfl⟩
          obtain ⟨Y, hY⟩ : ∃ Y, fy s op k = Y := ⟨_, rfl⟩
          rw [hX] at e1 x0 x1
          rw [hY] at e2 y0 y1
          rw [hX, hY]
          have EX := hid e1
          have EY := hid e2
          have HO := hid ho
          clear ho HB hc e1 e2 hX hY
          go_wp2_with (go_at_call 50; refine (rbit_any _ _ _ h0 h1).mono ?_; rintro e w' ⟨rfl, rfl⟩; rw [hb.out])
          go_roundw
          case rel => exact ⟨k + 1, by omega, by rw [EX.out], by rw [EY.out], by go_num, HO.out, by first | rfl | trivial⟩
          case measure => first | omega | (simp; omega) | (simp [intOf]; omega)
        · have hb := hid (show bitOf op (7 - (k : Int)) = true from HB)
          have ix := sign_run s k 120 (by omega) hc
          have ho : fok s op (k + 1) = true := by simp [fok, hc, HB, HN.out]
          have e1 : fx s op (k + 1) = 2 * fx s op k + 1 := by simp [fx, hc, HB]
          have e2 : fy s op (k + 1) = fy s op k := by simp [fy, hc, HB]
          obtain ⟨X, hX⟩ : ∃ X, fx s op k = X := ⟨_, rfl⟩
          obtain ⟨Y, hY⟩ : ∃ Y, fy s op k = Y := ⟨_, rfl⟩
          rw [hX] at e1 x0 x1
          rw [hY] at e2 y0 y1
          rw [hX, hY]
          have EX := hid e1
          have EY := hid e2
          have HO := hid ho
          clear ho HB hc e1 e2 hX hY
          go_wp2_with (go_at_call 50; refine (rbit_any _ _ _ h0 h1).mono ?_; rintro e w' ⟨rfl, rfl⟩; rw [hb.out])
          go_roundw
          case rel => exact ⟨k + 1, by omega, by rw [EX.out], by rw [EY.out], by go_num, HO.out, by first | rfl | trivial⟩
          case measure => first | omega | (simp; omega) | (simp [intOf]; omega)
      · clear hg p8
        cases HB : bitOf op (7 - (k : Int))
        · have hb := hid (show bitOf op (7 - (k : Int)) = false from HB)
          have ix := sign_run s k 121 (by omega) hc
          have ho : fok s op (k + 1) = true := by simp [fok, hc, HB, HN.out]
          have e1 : fx s op (k + 1) = fx s op k := by simp [fx, hc, HB]
          have e2 : fy s op (k + 1) = 2 * fy s op k := by simp [fy, hc, HB]
          obtain ⟨X, hX⟩ : ∃ X, fx s op k = X := ⟨_, rfl⟩
          obtain ⟨Y, hY⟩ : ∃ Y, fy s op k = Y := ⟨_, rfl⟩
          rw [hX] at e1 x0 x1
          rw [hY] at e2 y0 y1
          rw [hX, hY]
          have EX := hid e1
          have EY := hid e2
          have HO := hid ho
          clear ho HB hc e1 e2 hX hY
          go_wp2_with (go_at_call 50; refine (rbit_any _ _ _ h0 h1).mono ?_; rintro e w' ⟨rfl, rfl⟩; rw [hb.out])
          go_roundw
          case rel => exact ⟨k + 1, by omega, by rw [EX.out], by rw [EY.out], by go_num, HO.out, by first | rfl | trivial⟩
          case measure => first | omega | (simp; omega) | (simp [intOf]; omega)
        · have hb := hid (show bitOf op (7 - (k : Int)) = true from HB)
          have ix := sign_run s k 121 (by omega) hc
          have ho : fok s op (k + 1) = true := by simp [fok, hc, HB, HN.out]
          have e1 : fx s op (k + 1) = fx s op k := by simp [fx, hc, HB]
          have e2 : fy s op (k + 1) = 2 * fy s op k + 1 := by simp [fy, hc, HB]
          obtain ⟨X, hX⟩ : ∃ X, fx s op k = X := ⟨_, rfl⟩
          obtain ⟨Y, hY⟩ : ∃ Y, fy s op k = Y := ⟨_, rfl⟩
          rw [hX] at e1 x0 x1
          rw [hY] at e2 y0 y1
          rw [hX, hY]
          have EX := hid e1
          have EY := hid e2
          have HO := hid ho
          clear ho HB hc e1 e2 hX hY
          go_wp2_with (go_at_call 50; refine (rbit_any _ _ _ h0 h1).mono ?_; rintro e w' ⟨rfl, rfl⟩; rw [hb.out])
          go_roundw
          case rel => exact ⟨k + 1, by omega, by rw [EX.out], by rw [EY.out], by go_num, HO.out, by first | rfl | trivial⟩
          case measure => first | omega | (simp; omega) | (simp [intOf]; omega)
    · obtain rfl : k = 8 := by omega
      clear hg
      obtain ⟨X, hX⟩ : ∃ X, fx s op 8 = X := ⟨_, rfl⟩
      obtain ⟨Y, hY⟩ : ∃ Y, fy s op 8 = Y := ⟨_, rfl⟩
      rw [hX, hY]
      have EX := hid hX
      have EY := hid hY
      clear hX hY
      go_wp2
      exact bodyPost_ret (v := .tuple #[.bool true, .int .i64 X, .int .i64 Y]) (by simp [results, Tryd.results47, go_sem]) rfl ⟨.inl ⟨HN.out, by rw [EX.out, EY.out]⟩, rfl⟩
end Go.Proofs.YtbflhpffojlpgaaDoor
