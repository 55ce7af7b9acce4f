/- What the statements' own comparison of lines comes to. -/
import Derived.Test.YtlchkflpaehgcaaGreatDoorCk
import Derived.Test.YtlchkflpaehgcaaGreatDoorCl
import Derived.Deep.QuietTactic
namespace Go.Proofs.YtlchkflpaehgcaaGreatDoor
open Go.RowKit
set_option linter.unusedVariables false
set_option linter.unusedSimpArgs false

set_option maxHeartbeats 2000000 in
theorem same_any (v1 v2 : Value) (L : List ByteArray) (b1 b2 : Nat) (w : World) (o1 : w.ownsRow b1 9 1 v1 L.length (L.map Value.string)) (o2 : w.ownsRow b2 9 1 v2 L.length (L.map Value.string)) (hL : L.length ≤ 9223372036854775806) :
    Calls Tryz.prog 7 #[v1, v2] w fun e w' => e = .returned (.bool true) ∧ Kept w w' := by
  by_cases h0 : L = []
  · subst h0
    rcases o1.2 with ⟨rfl, _⟩ | ⟨g1, c1, cur1, rfl, _⟩ <;> rcases o2.2 with ⟨rfl, _⟩ | ⟨g2, c2, cur2, rfl, _⟩
    all_goals
      clear o1 o2
      go_enter Tryz.func7, Tryz.ntmps7
      go_wp2
      go_loopw [5] (fun i wr => i = .int .i64 0 ∧ wr = w) (fun _ _ => 0)
      case atStart => exact ⟨rfl, rfl⟩
      case round =>
        obtain ⟨rfl, rfl⟩ := hrel
        go_wp2
        go_ret
        exact ⟨rfl, Kept.refl _⟩
  · have n1 : 1 ≤ L.length := by
      cases L with
      | nil => exact absurd rfl h0
      | cons a l => simp
    obtain ⟨g1, c1, rfl, k1⟩ := owned_form o1 n1
    obtain ⟨g2, c2, rfl, k2⟩ := owned_form o2 n1
    obtain ⟨N, hN⟩ : ∃ n, L.length = n := ⟨_, rfl⟩
    have HN := hid hN
    have nm : (N : Int) ≤ 9223372036854775806 := by omega
    rw [hN]
    clear o1 o2 h0 hN hL
    go_enter Tryz.func7, Tryz.ntmps7
    go_wp2
    go_loopw [5] (fun i wr => ∃ k : Nat, k ≤ N ∧ i = .int .i64 (k : Int) ∧ wr.heap = w.heap ∧ Kept w wr) (fun i _ => N - (intOf i).toNat)
    case atStart => exact ⟨0, Nat.zero_le _, rfl, rfl, Kept.refl _⟩
    case round =>
      obtain ⟨k, hk, rfl, hhp, hkp⟩ := hrel
      have HH := hid hhp
      have HK := hid hkp
      have cl : ∀ x, wr.cell? x = w.cell? x := fun x => World.cell?_of_block (w := w) (by rw [hhp])
      clear hhp hkp
      by_cases hlt : k < N
      · have hl2 : (k : Int) < (N : Int) := by omega
        have hl3 : k < L.length := by rw [HN.out]; exact hlt
        have d1 : w.cell? ⟨g1, k, none⟩ = some (.string L[k]) := by
          have := k1 k (.string L[k]) (by simp [List.getElem?_eq_getElem hl3])
          by_cases e : k = 0
          · subst e; simpa [Addr.add] using this
          · simpa [Addr.add, e] using this
        have d2 : w.cell? ⟨g2, k, none⟩ = some (.string L[k]) := by
          have := k2 k (.string L[k]) (by simp [List.getElem?_eq_getElem hl3])
          by_cases e : k = 0
          · subst e; simpa [Addr.add] using this
          · simpa [Addr.add, e] using this
        obtain ⟨S, hS⟩ : ∃ S, L[k] = S := ⟨_, rfl⟩
        rw [hS] at d1 d2
        rw [← cl] at d1 d2
        have sS : (S.toList == S.toList) = true := by simp
        clear hS k1 k2 hl3 cl
        go_wp2
        go_region
        go_wp2
        go_roundw
        case rel => exact ⟨k + 1, by omega, by go_num, HH.out, HK.out.drew⟩
        case measure => first | omega | (simp; omega) | (simp [intOf]; omega)
      · obtain rfl : k = N := by omega
        have hl2 : ¬ ((k : Int) < (k : Int)) := by omega
        go_wp2
        go_ret
        exact ⟨rfl, HK.out⟩
end Go.Proofs.YtlchkflpaehgcaaGreatDoor
