/- What the document's answers of layer 1 come to, over this seat's translation: sign, worth, Read. -/
import Derived.Test.YticamagmccapoaaDoorRead
namespace Go.Proofs.YticamagmccapoaaDoor
open Go.RowKit

theorem slice_hex_fin : ∀ n : Fin 16, (ByteArray.mk #[48, 49, 50, 51, 52, 53, 54, 55, 56, 57, 65, 66, 67, 68, 69, 70]).extract n.val (n.val + 1) = ByteArray.mk #[hexc (n.val : Int)] := by decide +kernel
theorem sign_any (n : Int) (w : World) (h0 : 0 ≤ n) (h1 : n < 16) :
    Calls Tryd.prog 38 #[.int .i64 n] w fun e w' => e = .returned (.string (ByteArray.mk #[hexc n])) ∧ w' = w := by
  obtain ⟨m, rfl⟩ := Int.eq_ofNat_of_zero_le h0
  have hm : m < 16 := by omega
  go_enter Tryd.func38, Tryd.ntmps38
  go_wp2
  go_ret
  exact ⟨ret_str (slice_hex_fin ⟨m, hm⟩), rfl⟩

def digOf (c : Int) : Int := if dokOf c then dvalOf c else -1
def hitB (k : Nat) (c : Int) : Bool := (((hexc (k : Int)).toNat : Int) == c) || (decide (9 < (k : Int)) && (((hexc (k : Int)).toNat : Int) + 32 == c))
theorem hit_fin : ∀ c : Fin 256, ∀ k : Fin 16, hitB k.val (c.val : Int) = false ∨ digOf (c.val : Int) = (k.val : Int) := by decide +kernel
theorem miss_fin : ∀ c : Fin 256, (∀ k : Fin 16, hitB k.val (c.val : Int) = false) → digOf (c.val : Int) = -1 := by decide +kernel
theorem hexc_fin : ∀ k : Fin 16, (hexc (k.val : Int)).toNat ≤ 70 := by decide +kernel
theorem hit_val (c : Int) (k : Nat) (h0 : 0 ≤ c) (h1 : c ≤ 255) (hk : k < 16) (h : hitB k c = true) : digOf c = k := by
  rcases fin8 (p := fun c => ∀ k : Fin 16, hitB k.val c = false ∨ digOf c = (k.val : Int)) hit_fin c h0 h1 ⟨k, hk⟩ with e | e
  · rw [h] at e; cases e
  · exact e
theorem miss_val (c : Int) (h0 : 0 ≤ c) (h1 : c ≤ 255) (h : ∀ k : Nat, k < 16 → hitB k c = false) : digOf c = -1 :=
  fin8 (p := fun c => (∀ k : Fin 16, hitB k.val c = false) → digOf c = -1) miss_fin c h0 h1 (fun k => h k.val k.isLt)

set_option maxHeartbeats 1000000 in
theorem dig_any (c : Int) (w : World) (h0 : 0 ≤ c) (h1 : c ≤ 255) :
    Calls Tryd.prog 33 #[.int .u8 c] w fun e w' => e = .returned (.int .i64 (digOf c)) ∧ w' = w := by
  go_enter Tryd.func33, Tryd.ntmps33
  go_wp2
  go_loop [3] (fun i => ∃ k : Nat, k ≤ 16 ∧ i = .int .i64 k ∧ ∀ j : Nat, j < k → hitB j c = false) (fun i => 16 - (intOf i).toNat)
  case atStart => exact ⟨0, Nat.zero_le _, rfl, fun j hj => absurd hj (Nat.not_lt_zero _)⟩
  case round =>
    obtain ⟨k, hk, rfl, hno⟩ := hrel
    have HN : Hid (∀ j : Nat, j < k → hitB j c = false) := hno
    clear hno
    by_cases hlt : k < 16
    · have x1 := hexc_fin ⟨k, hlt⟩
      have x2 : ((hexc (k : Int)).toNat : Int) ≤ 70 := by simp only at x1; omega
      clear x1
      have hz : (ByteArray.mk #[hexc (k : Int)])[0]'(by exact Nat.zero_lt_one) = hexc (k : Int) := rfl
      cases t1 : (((hexc (k : Int)).toNat : Int) == c)
      · by_cases t2 : 9 < k
        · have t2' : decide (9 < (k : Int)) = true := by simp; omega
          cases t3 : (((hexc (k : Int)).toNat : Int) + 32 == c)
          · have hno2 : Hid (∀ j : Nat, j < k + 1 → hitB j c = false) := by
              intro j hj
              by_cases e : j = k
              · subst e; unfold hitB; rw [t1, t2', t3]; rfl
              · exact HN.out j (by omega)
            clear t2'
            go_wp2_with (go_at_call 38; refine (sign_any _ _ (by omega) (by omega)).mono ?_; rintro e w' ⟨rfl, rfl⟩)
            go_round
            case rel => exact ⟨k + 1, by omega, by go_num, hno2.out⟩
            case measure => simp [intOf]; omega
          · have hv : Hid (digOf c = k) := hit_val c k h0 h1 hlt (by unfold hitB; rw [t1, t2', t3]; rfl)
            clear t2'
            go_wp2_with (go_at_call 38; refine (sign_any _ _ (by omega) (by omega)).mono ?_; rintro e w' ⟨rfl, rfl⟩)
            go_ret
            exact ⟨ret_int hv.out.symm, rfl⟩
        · have t2' : decide (9 < (k : Int)) = false := by simp; omega
          have hno2 : Hid (∀ j : Nat, j < k + 1 → hitB j c = false) := by
            intro j hj
            by_cases e : j = k
            · subst e; unfold hitB; rw [t1, t2']; rfl
            · exact HN.out j (by omega)
          clear t2'
          go_wp2_with (go_at_call 38; refine (sign_any _ _ (by omega) (by omega)).mono ?_; rintro e w' ⟨rfl, rfl⟩)
          go_round
          case rel => exact ⟨k + 1, by omega, by go_num, hno2.out⟩
          case measure => simp [intOf]; omega
      · have hv : Hid (digOf c = k) := hit_val c k h0 h1 hlt (by unfold hitB; rw [t1]; rfl)
        go_wp2_with (go_at_call 38; refine (sign_any _ _ (by omega) (by omega)).mono ?_; rintro e w' ⟨rfl, rfl⟩)
        go_ret
        exact ⟨ret_int hv.out.symm, rfl⟩
    · have hv : Hid (digOf c = -1) := miss_val c h0 h1 (fun j hj => HN.out j (by omega))
      go_wp2
      go_ret
      exact ⟨ret_int hv.out.symm, rfl⟩

theorem dig_yes (c : Int) (h : dokOf c = true) : digOf c = dvalOf c := by unfold digOf; rw [h]; rfl
theorem dig_no (c : Int) (h : dokOf c = false) : digOf c = -1 := by unfold digOf; rw [h]; rfl

set_option maxHeartbeats 1000000 in
theorem rread_any (s : ByteArray) (d : Int) (w : World) (hs : s.size ≤ maxLen) :
    Calls Tryd.prog 21 #[.string s, .int .i64 d] w fun e w' => e = .returned (.tuple #[.int .u16 (readVal s d), .int .i64 (readErr s d)]) ∧ w' = w := by
  unfold maxLen at hs
  by_cases d1 : d < 1
  · have e1 : readVal s d = 0 := by unfold readVal; rw [if_pos (.inl d1)]
    have e2 : readErr s d = 1 := by unfold readErr; rw [if_pos (.inl d1)]
    rw [e1, e2]; clear e1 e2
    go_enter Tryd.func21, Tryd.ntmps21
    go_wp2
    go_ret2
    exact ⟨rfl, rfl⟩
  by_cases d2 : 4 < d
  · have e1 : readVal s d = 0 := by unfold readVal; rw [if_pos (.inr d2)]
    have e2 : readErr s d = 1 := by unfold readErr; rw [if_pos (.inr d2)]
    rw [e1, e2]; clear e1 e2
    go_enter Tryd.func21, Tryd.ntmps21
    go_wp2
    go_ret2
    exact ⟨rfl, rfl⟩
  by_cases d3 : (s.size : Int) = d
  · have hsz : s.size ≤ 4 := by omega
    have e1 : readVal s d = finVal s := by unfold readVal; rw [if_neg (by omega), if_neg (by omega)]
    have e2 : readErr s d = finErr s := by unfold readErr; rw [if_neg (by omega), if_neg (by omega)]
    rw [e1, e2]; clear e1 e2
    subst d3
    have aB := acc_bd s s.size
    have aB2 : accTo s s.size ≤ 65535 := by
      have e : s.size = 1 ∨ s.size = 2 ∨ s.size = 3 ∨ s.size = 4 := by omega
      rcases e with e | e | e | e <;> rw [e] at aB ⊢ <;> omega
    have aB1 := aB.1
    clear aB
    go_enter Tryd.func21, Tryd.ntmps21
    go_wp2
    go_loop [6, 7] (fun t i => ∃ k : Nat, k ≤ s.size ∧ i = .int .i64 k ∧ t = .int .i64 (accTo s k) ∧ okTo s k = true) (fun _ i => s.size - (intOf i).toNat)
    case atStart => exact ⟨0, Nat.zero_le _, rfl, rfl, rfl⟩
    case round =>
      obtain ⟨k, hk, rfl, rfl, hok⟩ := hrel
      have HOK : Hid (okTo s k = true) := hok
      clear hok
      by_cases hlt : k < s.size
      · have ab := acc_bd3 s k (by omega)
        have bb := byteAt_bd s k
        have db := dval_bd (byteAt s k)
        have hbk : Hid (byteAt s k = ((s[k]'hlt).toNat : Int)) := byteAt_get s k hlt
        cases hd : dokOf (byteAt s k)
        · have hfin : okTo s s.size = false := okTo_no s (k + 1) s.size (by omega) (by simp [okTo, hd])
          have HF : Hid (okTo s s.size = false) := hfin
          have HD : Hid (digOf (byteAt s k) = -1) := dig_no _ hd
          clear hfin hd
          go_wp2_with (go_at_call 33; rw [← hbk.out]; refine (dig_any _ _ bb.1 bb.2).mono ?_; rintro e w' ⟨rfl, rfl⟩; rw [HD.out])
          go_ret2
          exact ⟨ret_ii (fin_no s HF.out).1.symm (fin_no s HF.out).2.symm, rfl⟩
        · have hok2 : okTo s (k + 1) = true := by simp [okTo, HOK.out, hd]
          have HK : Hid (okTo s (k + 1) = true) := hok2
          have HD : Hid (digOf (byteAt s k) = dvalOf (byteAt s k)) := dig_yes _ hd
          clear hok2 hd
          go_wp2_with (go_at_call 33; rw [← hbk.out]; refine (dig_any _ _ bb.1 bb.2).mono ?_; rintro e w' ⟨rfl, rfl⟩; rw [HD.out])
          go_round
          case rel => exact ⟨k + 1, by omega, by go_num, rfl, HK.out⟩
          case measure => simp [intOf]; omega
      · obtain rfl : k = s.size := by omega
        go_wp2
        go_ret2
        exact ⟨ret_ii (fin_yes s HOK.out).1.symm (fin_yes s HOK.out).2.symm, rfl⟩
  · have e1 : readVal s d = 0 := by unfold readVal; rw [if_neg (by omega), if_pos d3]
    have e2 : readErr s d = 6 := by unfold readErr; rw [if_neg (by omega), if_pos d3]
    rw [e1, e2]; clear e1 e2
    go_enter Tryd.func21, Tryd.ntmps21
    go_wp2
    go_ret2
    exact ⟨rfl, rfl⟩
end Go.Proofs.YticamagmccapoaaDoor
