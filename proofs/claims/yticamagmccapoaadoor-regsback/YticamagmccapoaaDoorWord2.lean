/- What the calls of layer 1 come to, over this seat's translation: Signed, Join, Split, digit, Hex8, Hex16. -/
import Derived.Test.YticamagmccapoaaDoorWord
import Derived.Test.YticamagmccapoaaDoorGrow
namespace Go.Proofs.YticamagmccapoaaDoor
open Go.RowKit

theorem signed_fin : ∀ a : Fin 256, IntKind.i64.wrap (IntKind.i8.wrap (a.val : Int)) = signedOf (a.val : Int) := by decide +kernel
theorem signed_wrap (a : Int) (h0 : 0 ≤ a) (h1 : a ≤ 255) : wrap64 (IntKind.i8.wrap a) = signedOf a := by
  have e := fin8 (p := fun a => IntKind.i64.wrap (IntKind.i8.wrap a) = signedOf a) signed_fin a h0 h1
  rw [← e, IntKind.wrap_i64]
  unfold wrap64
  rfl
theorem or_join (a b : Int) (h0 : 0 ≤ a) (h1 : a ≤ 255) (h2 : 0 ≤ b) (h3 : b ≤ 255) : bits .or .u16 (a * 256) b = a * 256 + b := by
  obtain ⟨x, rfl⟩ := Int.eq_ofNat_of_zero_le h0
  obtain ⟨y, rfl⟩ := Int.eq_ofNat_of_zero_le h2
  rw [u16_or _ _ (by omega) (by omega) (by omega) (by omega)]
  have e1 : ((x : Int) * 256).toNat = x * 256 := by omega
  have e2 : ((y : Int)).toNat = y := by omega
  rw [e1, e2, nat_join 8 (x * 256) y (by omega) (by omega)]
  omega
theorem join_any (a b : Int) (w : World) (h0 : 0 ≤ a) (h1 : a ≤ 255) (h2 : 0 ≤ b) (h3 : b ≤ 255) :
    Calls Tryd.prog 30 #[.int .u8 a, .int .u8 b] w fun e w' => e = .returned (.int .u16 (a * 256 + b)) ∧ w' = w := by
  go_enter Tryd.func30, Tryd.ntmps30
  go_wp2
  go_ret
  exact ⟨ret_int (or_join a b h0 h1 h2 h3), rfl⟩

theorem split_any (a : Int) (w : World) (h0 : 0 ≤ a) (h1 : a ≤ 65535) :
    Calls Tryd.prog 31 #[.int .u16 a] w fun e w' => e = .returned (.tuple #[.int .u8 (a / 256), .int .u8 (a % 256)]) ∧ w' = w := by
  go_enter Tryd.func31, Tryd.ntmps31
  go_wp2
  go_ret2
  exact ⟨rfl, rfl⟩

def hexs : List UInt8 := [48, 49, 50, 51, 52, 53, 54, 55, 56, 57, 65, 66, 67, 68, 69, 70]
def hexc (n : Int) : UInt8 := hexs.getD n.toNat 0
def hex8Of (a : Int) : ByteArray := ⟨#[hexc (a / 16), hexc (a % 16)]⟩
theorem hex_get (i : Nat) (h : i < (ByteArray.mk #[48, 49, 50, 51, 52, 53, 54, 55, 56, 57, 65, 66, 67, 68, 69, 70]).size) :
    (ByteArray.mk #[48, 49, 50, 51, 52, 53, 54, 55, 56, 57, 65, 66, 67, 68, 69, 70])[i]'h = hexs.getD i 0 := by
  have e : ∀ k : Fin 16, (ByteArray.mk #[48, 49, 50, 51, 52, 53, 54, 55, 56, 57, 65, 66, 67, 68, 69, 70])[k.val]'(by exact k.isLt) = hexs.getD k.val 0 := by decide +kernel
  exact e ⟨i, h⟩
theorem conv2 (w : World) (x y : Int) :
    (convert 73 9 (.slice (some ⟨w.heap.size, 0, none⟩) 2 2)).run Tryd.prog ((w.alloc (.cells #[.int .u8 x, .int .u8 y] 5)).drew) = .ok (.string ⟨#[UInt8.ofNat x.toNat, UInt8.ofNat y.toNat]⟩) ((w.alloc (.cells #[.int .u8 x, .int .u8 y] 5)).drew) := by
  rw [run_convert_bytes_string _ 73 9 5 _ _ _ Tryd.underlying73 Tryd.underlying5 Tryd.underlying9, run_bytesToString _ _ 2 2 [x, y] ?_]
  · rfl
  · have h := run_loadCells_list (P := Tryd.prog) ((w.alloc (.cells #[.int .u8 x, .int .u8 y] 5)).drew) ⟨w.heap.size, 0, none⟩ [.int .u8 x, .int .u8 y] (fun j v hj => by
      match j, hj with
      | 0, hj => simp at hj; subst hj; simp [Addr.add]
      | 1, hj => simp at hj; subst hj; simp [Addr.add]
      | j + 2, hj => simp at hj)
    exact h
theorem ret_str {a b : ByteArray} (h : a = b) : Ending.returned (.string a) = .returned (.string b) := by rw [h]
theorem hex8_any (a : Int) (w : World) (h0 : 0 ≤ a) (h1 : a ≤ 255) :
    Calls Tryd.prog 36 #[.int .u8 a] w fun e w' => e = .returned (.string (hex8Of a)) ∧ Grown w w' := by
  have b1 : 0 ≤ a / 16 := by omega
  have b2 : a / 16 < 16 := by omega
  have b3 : 0 ≤ a % 16 := by omega
  have b4 : a % 16 < 16 := by omega
  have hc := conv2 w
  go_enter Tryd.func36, Tryd.ntmps36
  go_wp2
  go_region
  all_goals
    go_wp2
    go_ret
    exact ⟨ret_str (by simp only [hex_get]; rfl), ((Grown.refl _).alloc _ _).drew⟩

def hex16Of (a : Int) : ByteArray := hex8Of (a / 256) ++ hex8Of (a % 256)
theorem hex16_any (a : Int) (w : World) (h0 : 0 ≤ a) (h1 : a ≤ 65535) :
    Calls Tryd.prog 28 #[.int .u16 a] w fun e w' => e = .returned (.string (hex16Of a)) ∧ Grown w w' := by
  have b1 : 0 ≤ a / 256 := by omega
  have b2 : a / 256 ≤ 255 := by omega
  have b3 : 0 ≤ a % 256 := by omega
  have b4 : a % 256 ≤ 255 := by omega
  go_enter Tryd.func28, Tryd.ntmps28
  go_wp2_with fail
  refine (split_any _ _ h0 h1).mono ?_
  rintro e w1 ⟨rfl, rfl⟩
  go_wp2_with fail
  refine (hex8_any _ _ b1 b2).mono ?_
  rintro e w1 ⟨rfl, hg1⟩
  go_wp2_with fail
  refine (hex8_any _ _ b3 b4).mono ?_
  rintro e w2 ⟨rfl, hg2⟩
  go_wp2_with fail
  go_ret
  exact ⟨rfl, grown_trans hg1 hg2⟩

def dokOf (r : Int) : Bool := (decide (48 ≤ r) && decide (r ≤ 57)) || (decide (65 ≤ r) && decide (r ≤ 70)) || (decide (97 ≤ r) && decide (r ≤ 102))
def dvalOf (r : Int) : Int := if 48 ≤ r ∧ r ≤ 57 then r - 48 else if 65 ≤ r ∧ r ≤ 70 then r - 55 else if 97 ≤ r ∧ r ≤ 102 then r - 87 else 0
theorem digit_any (r : Int) (w : World) (h0 : 0 ≤ r) (h1 : r ≤ 2147483647) :
    Calls Tryd.prog 37 #[.int .i32 r] w fun e w' => e = .returned (.tuple #[.int .u16 (dvalOf r), .bool (dokOf r)]) ∧ w' = w := by
  by_cases c1 : 48 ≤ r
  · by_cases c2 : r ≤ 57
    · have e1 : dvalOf r = r - 48 := by unfold dvalOf; rw [if_pos ⟨c1, c2⟩]
      have e2 : dokOf r = true := by simp [dokOf, c1, c2]
      rw [e1, e2]; clear e1 e2
      go_enter Tryd.func37, Tryd.ntmps37
      go_wp2
      go_ret2
      exact ⟨rfl, rfl⟩
    · by_cases c3 : 65 ≤ r
      · by_cases c4 : r ≤ 70
        · have e1 : dvalOf r = r - 65 + 10 := by unfold dvalOf; rw [if_neg (by omega), if_pos ⟨c3, c4⟩]; omega
          have e2 : dokOf r = true := by simp [dokOf, c3, c4]
          rw [e1, e2]; clear e1 e2
          go_enter Tryd.func37, Tryd.ntmps37
          go_wp2
          go_ret2
          exact ⟨rfl, rfl⟩
        · by_cases c5 : 97 ≤ r
          · by_cases c6 : r ≤ 102
            · have e1 : dvalOf r = r - 97 + 10 := by unfold dvalOf; rw [if_neg (by omega), if_neg (by omega), if_pos ⟨c5, c6⟩]; omega
              have e2 : dokOf r = true := by simp [dokOf, c5, c6]
              rw [e1, e2]; clear e1 e2
              go_enter Tryd.func37, Tryd.ntmps37
              go_wp2
              go_ret2
              exact ⟨rfl, rfl⟩
            · have e1 : dvalOf r = 0 := by unfold dvalOf; rw [if_neg (by omega), if_neg (by omega), if_neg (by omega)]
              have e2 : dokOf r = false := by simp [dokOf, c2, c4, c6]
              rw [e1, e2]; clear e1 e2
              go_enter Tryd.func37, Tryd.ntmps37
              go_wp2
              go_ret2
              exact ⟨rfl, rfl⟩
          · have e1 : dvalOf r = 0 := by unfold dvalOf; rw [if_neg (by omega), if_neg (by omega), if_neg (by omega)]
            have e2 : dokOf r = false := by simp [dokOf, c2, c4, c5]
            rw [e1, e2]; clear e1 e2
            go_enter Tryd.func37, Tryd.ntmps37
            go_wp2
            go_ret2
            exact ⟨rfl, rfl⟩
      · have c5 : ¬ 97 ≤ r := by omega
        have e1 : dvalOf r = 0 := by unfold dvalOf; rw [if_neg (by omega), if_neg (by omega), if_neg (by omega)]
        have e2 : dokOf r = false := by simp [dokOf, c2, c3, c5]
        rw [e1, e2]; clear e1 e2
        go_enter Tryd.func37, Tryd.ntmps37
        go_wp2
        go_ret2
        exact ⟨rfl, rfl⟩
  · have c3 : ¬ 65 ≤ r := by omega
    have c5 : ¬ 97 ≤ r := by omega
    have e1 : dvalOf r = 0 := by unfold dvalOf; rw [if_neg (by omega), if_neg (by omega), if_neg (by omega)]
    have e2 : dokOf r = false := by simp [dokOf, c1, c3, c5]
    rw [e1, e2]; clear e1 e2
    go_enter Tryd.func37, Tryd.ntmps37
    go_wp2
    go_ret2
    exact ⟨rfl, rfl⟩

end Go.Proofs.YticamagmccapoaaDoor
