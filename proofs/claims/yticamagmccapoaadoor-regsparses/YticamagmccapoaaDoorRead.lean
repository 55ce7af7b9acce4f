/- What Read of layer 1 comes to, over this seat's translation, at any text and any number of digits. -/
import Derived.Test.YticamagmccapoaaDoorWord2
namespace Go.Proofs.YticamagmccapoaaDoor
open Go.RowKit

def byteAt (s : ByteArray) (k : Nat) : Int := ((s.data.toList.getD k 0).toNat : Int)
def accTo (s : ByteArray) : Nat → Int
  | 0 => 0
  | k + 1 => accTo s k * 16 + dvalOf (byteAt s k)
def okTo (s : ByteArray) : Nat → Bool
  | 0 => true
  | k + 1 => okTo s k && dokOf (byteAt s k)
def finVal (s : ByteArray) : Int := if okTo s s.size then accTo s s.size else 0
def finErr (s : ByteArray) : Int := if okTo s s.size then 0 else 6
def readVal (s : ByteArray) (d : Int) : Int := if d < 1 ∨ 4 < d then 0 else if (s.size : Int) ≠ d then 0 else finVal s
def readErr (s : ByteArray) (d : Int) : Int := if d < 1 ∨ 4 < d then 1 else if (s.size : Int) ≠ d then 6 else finErr s
theorem fin_no (s : ByteArray) (h : okTo s s.size = false) : finVal s = 0 ∧ finErr s = 6 := by simp [finVal, finErr, h]
theorem fin_yes (s : ByteArray) (h : okTo s s.size = true) : finVal s = accTo s s.size ∧ finErr s = 0 := by simp [finVal, finErr, h]
theorem ret_ii {k j : IntKind} {a b c d : Int} (h1 : a = c) (h2 : b = d) : Ending.returned (.tuple #[.int k a, .int j b]) = .returned (.tuple #[.int k c, .int j d]) := by rw [h1, h2]

theorem byteAt_get (s : ByteArray) (k : Nat) (h : k < s.size) : byteAt s k = ((s[k]'h).toNat : Int) := by
  unfold byteAt
  have h2 : k < s.data.toList.length := by simpa using h
  rw [List.getD_eq_getElem?_getD, List.getElem?_eq_getElem h2]
  rfl
theorem byteAt_bd (s : ByteArray) (k : Nat) : 0 ≤ byteAt s k ∧ byteAt s k ≤ 255 := by
  unfold byteAt
  have := (s.data.toList.getD k 0).toNat_lt
  omega
theorem dval_bd (r : Int) : 0 ≤ dvalOf r ∧ dvalOf r ≤ 15 := by
  unfold dvalOf
  split
  · omega
  · split
    · omega
    · split <;> omega
theorem dok_hi (r : Int) (h : 128 ≤ r) : dokOf r = false := by
  have a : ¬ r ≤ 57 := by omega
  have b : ¬ r ≤ 70 := by omega
  have c : ¬ r ≤ 102 := by omega
  simp [dokOf, a, b, c]
theorem dec_no (s : ByteArray) (k : Nat) (h : k < s.size) (hd : dokOf (byteAt s k) = false) : dokOf ((Utf8.decode s k).1 : Int) = false := by
  rw [byteAt_get s k h] at hd
  by_cases ha : (s[k]'h).toNat < 128
  · rw [decode_ascii s k h ha]; exact hd
  · exact dok_hi _ (by have := (decode_high s k h (by omega)).1; omega)
theorem dec_yes (s : ByteArray) (k : Nat) (h : k < s.size) (hd : dokOf (byteAt s k) = true) : (((Utf8.decode s k).1 : Nat) : Int) = byteAt s k ∧ (Utf8.decode s k).2 = 1 := by
  have e := byteAt_get s k h
  by_cases ha : (s[k]'h).toNat < 128
  · rw [decode_ascii s k h ha, e]; exact ⟨rfl, rfl⟩
  · rw [dok_hi (byteAt s k) (by omega)] at hd; cases hd
theorem okTo_no (s : ByteArray) (k n : Nat) (h : k ≤ n) (hk : okTo s k = false) : okTo s n = false := by
  induction n with
  | zero => obtain rfl : k = 0 := by omega
            exact hk
  | succ n ih =>
    by_cases e : k = n + 1
    · rw [← e]; exact hk
    · simp [okTo, ih (by omega)]
theorem acc_bd (s : ByteArray) (k : Nat) : 0 ≤ accTo s k ∧ accTo s k < 16 ^ k := by
  induction k with
  | zero => exact ⟨Int.le_refl 0, (by decide : (0 : Int) < 1)⟩
  | succ k ih =>
    have d := dval_bd (byteAt s k)
    unfold accTo
    rw [Int.pow_succ]
    omega
theorem acc_bd3 (s : ByteArray) (k : Nat) (h : k < 4) : 0 ≤ accTo s k ∧ accTo s k ≤ 4095 := by
  have b := acc_bd s k
  have : k = 0 ∨ k = 1 ∨ k = 2 ∨ k = 3 := by omega
  rcases this with rfl | rfl | rfl | rfl <;> omega
theorem or_nib (a b : Int) (h0 : 0 ≤ a) (h1 : a ≤ 4095) (h2 : 0 ≤ b) (h3 : b ≤ 15) : bits .or .u16 (a * 16) b = a * 16 + b := by
  obtain ⟨x, rfl⟩ := Int.eq_ofNat_of_zero_le h0
  obtain ⟨y, rfl⟩ := Int.eq_ofNat_of_zero_le h2
  rw [u16_or _ _ (by omega) (by omega) (by omega) (by omega)]
  have e1 : ((x : Int) * 16).toNat = x * 16 := by omega
  have e2 : ((y : Int)).toNat = y := by omega
  rw [e1, e2, nat_join 4 (x * 16) y (by omega) (by omega)]
  omega
theorem frozen_iter (w : World) (s : ByteArray) (p : Nat) (a : Addr) : (w.iter s p).frozen? a = w.frozen? a := by
  by_cases h : a.block = w.heap.size
  · have e1 : (w.iter s p).heap[a.block]? = some (.stringIter s p) := by rw [h]; exact World.iter_heap w s p
    have e2 : w.heap[a.block]? = none := by rw [h]; simp
    simp [World.frozen?, e1, e2]
  · exact World.frozen?_alloc_old _ _ _ h
theorem grown_iter (w : World) (s : ByteArray) (p : Nat) : Grown w (w.iter s p) :=
  ⟨World.keptBut_alloc _ _ _, frozen_iter w s p, by show w.heap.size ≤ (w.heap.push _).size; simp⟩

set_option maxHeartbeats 1000000 in
theorem read_any (s : ByteArray) (d : Int) (w : World) (hs : s.size ≤ maxLen) :
    Calls Tryd.prog 32 #[.string s, .int .i64 d] w fun e w' => e = .returned (.tuple #[.int .u16 (readVal s d), .int .i64 (readErr s d)]) ∧ Grown w w' := by
  unfold maxLen at hs
  by_cases d1 : d < 1
  · have e1 : readVal s d = 0 := by unfold readVal; rw [if_pos (.inl d1)]
    have e2 : readErr s d = 1 := by unfold readErr; rw [if_pos (.inl d1)]
    rw [e1, e2]; clear e1 e2
    go_enter Tryd.func32, Tryd.ntmps32
    go_wp2
    go_ret2
    exact ⟨rfl, Grown.refl _⟩
  by_cases d2 : 4 < d
  · have e1 : readVal s d = 0 := by unfold readVal; rw [if_pos (.inr d2)]
    have e2 : readErr s d = 1 := by unfold readErr; rw [if_pos (.inr d2)]
    rw [e1, e2]; clear e1 e2
    go_enter Tryd.func32, Tryd.ntmps32
    go_wp2
    go_ret2
    exact ⟨rfl, Grown.refl _⟩
  by_cases d3 : (s.size : Int) = d
  · have hsz : s.size ≤ 4 := by omega
    have e1 : readVal s d = finVal s := by unfold readVal; rw [if_neg (by omega), if_neg (by omega)]
    have e2 : readErr s d = finErr s := by unfold readErr; rw [if_neg (by omega), if_neg (by omega)]
    rw [e1, e2]; clear e1 e2
    subst d3
    go_enter Tryd.func32, Tryd.ntmps32
    go_wp2
    go_loopw [6] (fun t wr => ∃ k : Nat, k ≤ s.size ∧ wr = w.iter s k ∧ t = .int .u16 (accTo s k) ∧ okTo s k = true) (fun _ wr => s.size - wr.iterPos w.heap.size)
    case atStart => exact ⟨0, Nat.zero_le _, rfl, rfl, rfl⟩
    case round =>
      obtain ⟨k, hk, rfl, rfl, hok⟩ := hrel
      have HOK : Hid (okTo s k = true) := hok
      clear hok
      by_cases hlt : k < s.size
      · have hnx := fun ty => run_next_any (P := Tryd.prog) w s k ty hlt
        have hle := decode_le s k
        have ab := acc_bd3 s k (by omega)
        cases hd : dokOf (byteAt s k)
        · have hd2 := dec_no s k hlt hd
          have hfin : okTo s s.size = false := okTo_no s (k + 1) s.size (by omega) (by simp [okTo, hd])
          have HF : Hid (okTo s s.size = false) := hfin
          have HD : Hid (dokOf ((Utf8.decode s k).1 : Int) = false) := hd2
          clear hfin hd2 hd
          go_wp2_with (go_at_call 37; refine (digit_any _ _ (by omega) (by omega)).mono ?_; rintro e w' ⟨rfl, rfl⟩; rw [HD.out])
          go_ret2
          exact ⟨ret_ii (fin_no s HF.out).1.symm (fin_no s HF.out).2.symm, grown_iter _ _ _⟩
        · obtain ⟨y1, y2⟩ := dec_yes s k hlt hd
          have hok2 : okTo s (k + 1) = true := by simp [okTo, HOK.out, hd]
          have HK : Hid (okTo s (k + 1) = true) := hok2
          have HD : Hid (dokOf (byteAt s k) = true) := hd
          rw [y1, y2] at hnx
          have bb := byteAt_bd s k
          have db := dval_bd (byteAt s k)
          have hor := or_nib _ _ ab.1 ab.2 db.1 db.2
          clear y1 y2 hok2 hd hle
          go_wp2_with (go_at_call 37; refine (digit_any _ _ bb.1 (by omega)).mono ?_; rintro e w' ⟨rfl, rfl⟩; rw [HD.out])
          go_roundw
          case rel => exact ⟨k + 1, by omega, rfl, rfl, HK.out⟩
          case measure => simp; omega
      · have hnx := fun ty => run_next_end (P := Tryd.prog) w s k ty hlt
        obtain rfl : k = s.size := by omega
        go_wp2
        go_ret2
        exact ⟨ret_ii (fin_yes s HOK.out).1.symm (fin_yes s HOK.out).2.symm, grown_iter _ _ _⟩
  · have e1 : readVal s d = 0 := by unfold readVal; rw [if_neg (by omega), if_pos d3]
    have e2 : readErr s d = 6 := by unfold readErr; rw [if_neg (by omega), if_pos d3]
    rw [e1, e2]; clear e1 e2
    go_enter Tryd.func32, Tryd.ntmps32
    go_wp2
    go_ret2
    exact ⟨rfl, Grown.refl _⟩

end Go.Proofs.YticamagmccapoaaDoor
