/- What Decode, DecodeCB and Illegal of layer 5 come to, over this seat's translation. -/
import Derived.Test.YtbflhpffojlpgaaDoorOp4
namespace Go.Proofs.YtbflhpffojlpgaaDoor
open Go.RowKit
set_option linter.unusedVariables false
set_option linter.unusedSimpArgs false

set_option maxHeartbeats 1000000 in
theorem decode_any (op : Int) (w : World) (h0 : 0 ≤ op) (h1 : op ≤ 255) : Calls Tryd.prog 14 #[.int .u8 op] w fun e w' => e = .returned (.agg #[.int .i64 (decOf op).kind, .int .i64 (decOf op).x, .int .i64 (decOf op).y, .int .i64 (decOf op).bytes, .int .i64 (decOf op).cycles, .int .i64 (decOf op).taken]) ∧ Grown w w' := by
  have HA := hid (has_alloc w #[.int .i64 0, .int .i64 0, .int .i64 0, .int .i64 0, .int .i64 0, .int .i64 0] 29)
  by_cases q1 : 64 ≤ op ∧ op < 128
  · have b1 : (op / 64 == 1) = true := by simp; omega
    go_enter Tryd.func14, Tryd.ntmps14
    go_wp2_with (first | (go_at_call 26; refine (quarter_any _ _ h0 h1).mono ?_; rintro e w' ⟨rfl, rfl⟩))
    refine (load_any _ _ h0 h1 q1.1 q1.2).mono ?_
    rintro e uz ⟨rfl, gz⟩
    have GG := hid (grown_trans (alloc1 w _ _) gz)
    obtain ⟨zA, cA⟩ := has_grown gz HA.out
    have fA := fun o => grown_froz GG.out (Nat.le_refl w.heap.size) o
    have a0 := cA 0
    have a1 := cA 1
    have a2 := cA 2
    have a3 := cA 3
    have a4 := cA 4
    have a5 := cA 5
    simp at a0 a1 a2 a3 a4 a5
    clear cA
    go_wp2
    exact bodyPost_ret (v := .agg #[.int .i64 (decOf op).kind, .int .i64 (decOf op).x, .int .i64 (decOf op).y, .int .i64 (decOf op).bytes, .int .i64 (decOf op).cycles, .int .i64 (decOf op).taken]) (by simp [results, Tryd.results14, go_sem, a0, a1, a2, a3, a4, a5, zA]) rfl ⟨rfl, (((((GG.out.setCell (Nat.le_refl _) _).setCell (Nat.le_refl _) _).setCell (Nat.le_refl _) _).setCell (Nat.le_refl _) _).setCell (Nat.le_refl _) _).setCell (Nat.le_refl _) _⟩
  by_cases q2 : 128 ≤ op ∧ op < 192
  · have b1 : (op / 64 == 1) = false := by simp; omega
    have b2 : (op / 64 == 2) = true := by simp; omega
    go_enter Tryd.func14, Tryd.ntmps14
    go_wp2_with (first | (go_at_call 26; refine (quarter_any _ _ h0 h1).mono ?_; rintro e w' ⟨rfl, rfl⟩))
    refine (operation_any _ _ h0 h1 q2.1 q2.2).mono ?_
    rintro e uz ⟨rfl, gz⟩
    have GG := hid (grown_trans (alloc1 w _ _) gz)
    obtain ⟨zA, cA⟩ := has_grown gz HA.out
    have fA := fun o => grown_froz GG.out (Nat.le_refl w.heap.size) o
    have a0 := cA 0
    have a1 := cA 1
    have a2 := cA 2
    have a3 := cA 3
    have a4 := cA 4
    have a5 := cA 5
    simp at a0 a1 a2 a3 a4 a5
    clear cA
    go_wp2
    exact bodyPost_ret (v := .agg #[.int .i64 (decOf op).kind, .int .i64 (decOf op).x, .int .i64 (decOf op).y, .int .i64 (decOf op).bytes, .int .i64 (decOf op).cycles, .int .i64 (decOf op).taken]) (by simp [results, Tryd.results14, go_sem, a0, a1, a2, a3, a4, a5, zA]) rfl ⟨rfl, (((((GG.out.setCell (Nat.le_refl _) _).setCell (Nat.le_refl _) _).setCell (Nat.le_refl _) _).setCell (Nat.le_refl _) _).setCell (Nat.le_refl _) _).setCell (Nat.le_refl _) _⟩
  have b1 : (op / 64 == 1) = false := by simp; omega
  have b2 : (op / 64 == 2) = false := by simp; omega
  go_enter Tryd.func14, Tryd.ntmps14
  go_wp2_with (first | (go_at_call 26; refine (quarter_any _ _ h0 h1).mono ?_; rintro e w' ⟨rfl, rfl⟩))
  refine (rowOf_any _ _ h0 h1).mono ?_
  rintro e u1 ⟨(⟨k, hk, hn, hf, rfl⟩ | ⟨hn, rfl⟩), g1⟩
  · have G1 := hid g1
    have HA := hid (has_grown g1 HA.out)
    obtain ⟨rm, ⟨k0, k1⟩, ⟨l0, l1⟩, ⟨m0, m1⟩, ⟨n0, n1⟩⟩ := rk_fin ⟨k, hk⟩
    have E := hid ((same_iff _ _).1 (fin8 (p := fun a => ∀ k : Fin 48, (a / 64 != 1 && a / 64 != 2 && fitR a k.val && noneTo a k.val) = true → ((decOf a).same ⟨rk k.val 2, (rk k.val 6 + bits .andNot .u8 a (rk k.val 0) / shD (rk k.val 0)) % 256, 0, rk k.val 3, rk k.val 4, rk k.val 5⟩) = true) row_fin op h0 h1 ⟨k, hk⟩ (by simp [hn, hf, bne, b1, b2])))
    simp only at E rm k0 k1 l0 l1 m0 m1 n0 n1
    generalize rk k 0 = r0 at *
    generalize rk k 1 = r1 at *
    generalize rk k 2 = r2 at *
    generalize rk k 3 = r3 at *
    generalize rk k 4 = r4 at *
    generalize rk k 5 = r5 at *
    generalize rk k 6 = r6 at *
    have RM := hid rm
    clear hn hf g1 rm
    go_wp2_with fail
    refine (form_any r0 r1 r2 r3 r4 r5 r6 op _ RM.out h0 h1 k0 k1 l0 l1 m0 m1 n0 n1).mono ?_
    rintro e uz ⟨rfl, gz⟩
    have GG := hid (grown_trans (grown_trans (alloc1 w _ _) G1.out) gz)
    obtain ⟨zA, cA⟩ := has_grown gz HA.out
    have fA := fun o => grown_froz GG.out (Nat.le_refl w.heap.size) o
    have a0 := cA 0
    have a1 := cA 1
    have a2 := cA 2
    have a3 := cA 3
    have a4 := cA 4
    have a5 := cA 5
    simp at a0 a1 a2 a3 a4 a5
    clear cA
    go_wp2
    exact bodyPost_ret (v := .agg #[.int .i64 r2, .int .i64 ((r6 + bits .andNot .u8 op r0 / shD r0) % 256), .int .i64 0, .int .i64 r3, .int .i64 r4, .int .i64 r5]) (by simp [results, Tryd.results14, go_sem, a0, a1, a2, a3, a4, a5, zA]) rfl ⟨by rw [E.out], (((((GG.out.setCell (Nat.le_refl _) _).setCell (Nat.le_refl _) _).setCell (Nat.le_refl _) _).setCell (Nat.le_refl _) _).setCell (Nat.le_refl _) _).setCell (Nat.le_refl _) _⟩
  · have G1 := hid g1
    have HA := hid (has_grown g1 HA.out)
    have E := hid ((same_iff _ _).1 (fin8 (p := fun a => (a / 64 != 1 && a / 64 != 2 && noneTo a 48) = true → ((decOf a).same ⟨5, (0 + bits .andNot .u8 a 255 / shD 255) % 256, 0, 1, 1, 1⟩) = true) ill_fin op h0 h1 (by simp [hn, bne, b1, b2])))
    clear hn g1
    go_wp2_with fail
    refine (form_any 255 op 5 1 1 1 0 op _ (.inl rfl) h0 h1 (by decide) (by decide) (by decide) (by decide) (by decide) (by decide) (by decide) (by decide)).mono ?_
    rintro e uz ⟨rfl, gz⟩
    have GG := hid (grown_trans (grown_trans (alloc1 w _ _) G1.out) gz)
    obtain ⟨zA, cA⟩ := has_grown gz HA.out
    have fA := fun o => grown_froz GG.out (Nat.le_refl w.heap.size) o
    have a0 := cA 0
    have a1 := cA 1
    have a2 := cA 2
    have a3 := cA 3
    have a4 := cA 4
    have a5 := cA 5
    simp at a0 a1 a2 a3 a4 a5
    clear cA
    go_wp2
    exact bodyPost_ret (v := .agg #[.int .i64 5, .int .i64 ((0 + bits .andNot .u8 op 255 / shD 255) % 256), .int .i64 0, .int .i64 1, .int .i64 1, .int .i64 1]) (by simp [results, Tryd.results14, go_sem, a0, a1, a2, a3, a4, a5, zA]) rfl ⟨by rw [E.out], (((((GG.out.setCell (Nat.le_refl _) _).setCell (Nat.le_refl _) _).setCell (Nat.le_refl _) _).setCell (Nat.le_refl _) _).setCell (Nat.le_refl _) _).setCell (Nat.le_refl _) _⟩
theorem decodeCB_any (op : Int) (w : World) (h0 : 0 ≤ op) (h1 : op ≤ 255) (lay : Has w 0 #[.int .i64 43, .int .i64 4, .int .i64 44, .int .i64 3, .int .i64 45, .int .i64 4, .int .i64 46, .int .i64 4]) : Calls Tryd.prog 15 #[.int .u8 op] w fun e w' => e = .returned (.agg #[.int .i64 (cbOf op).kind, .int .i64 (cbOf op).x, .int .i64 (cbOf op).y, .int .i64 (cbOf op).bytes, .int .i64 (cbOf op).cycles, .int .i64 (cbOf op).taken]) ∧ Grown w w' := by
  obtain ⟨zl, cl⟩ := id lay
  have l0 := cl 0
  have l1 := cl 1
  have l2 := cl 2
  have l3 := cl 3
  have l4 := cl 4
  have l5 := cl 5
  have l6 := cl 6
  have l7 := cl 7
  simp at l0 l1 l2 l3 l4 l5 l6 l7
  clear cl lay
  rcases (show op / 64 = 0 ∨ op / 64 = 1 ∨ op / 64 = 2 ∨ op / 64 = 3 by omega) with hq | hq | hq | hq
  · have bq : (op / 64 == 0) = true := by simp [hq]
    cases bY : (op % 8 == 6)
    · have E := hid (cb0n op h0 h1 (by simp [bq, bY]))
      have HA := hid (has_alloc w #[.int .i64 0, .int .i64 0, .int .i64 0, .int .i64 0, .int .i64 0, .int .i64 0] 29)
      go_enter Tryd.func15, Tryd.ntmps15
      go_wp2_with (first | (go_at_call 26; refine (quarter_any _ _ h0 h1).mono ?_; rintro e w' ⟨rfl, rfl⟩) | (go_at_call 31; refine (letters_any _ _ h0 h1).mono ?_; rintro e w' ⟨rfl, rfl⟩))
      refine (steady_any _ _ _ _ _ _).mono ?_
      rintro e uz ⟨rfl, gz⟩
      have GG := hid (grown_trans ((alloc1 w _ _).alloc _ _) gz)
      obtain ⟨zA, cA⟩ := has_grown gz (has_past HA.out _)
      have fA := fun o => grown_froz GG.out (Nat.le_refl w.heap.size) o
      have a0 := cA 0
      have a1 := cA 1
      have a2 := cA 2
      have a3 := cA 3
      have a4 := cA 4
      have a5 := cA 5
      simp at a0 a1 a2 a3 a4 a5
      clear cA
      go_wp2
      exact bodyPost_ret (v := .agg #[.int .i64 43, .int .i64 (op / 8 % 8), .int .i64 (op % 8), .int .i64 2, .int .i64 2, .int .i64 2]) (by simp [results, Tryd.results15, go_sem, a0, a1, a2, a3, a4, a5, zA]) rfl ⟨by rw [E.out], (((((GG.out.setCell (Nat.le_refl _) _).setCell (Nat.le_refl _) _).setCell (Nat.le_refl _) _).setCell (Nat.le_refl _) _).setCell (Nat.le_refl _) _).setCell (Nat.le_refl _) _⟩
    · have E := hid (cb0y op h0 h1 (by simp [bq, bY]))
      have HA := hid (has_alloc w #[.int .i64 0, .int .i64 0, .int .i64 0, .int .i64 0, .int .i64 0, .int .i64 0] 29)
      go_enter Tryd.func15, Tryd.ntmps15
      go_wp2_with (first | (go_at_call 26; refine (quarter_any _ _ h0 h1).mono ?_; rintro e w' ⟨rfl, rfl⟩) | (go_at_call 31; refine (letters_any _ _ h0 h1).mono ?_; rintro e w' ⟨rfl, rfl⟩))
      refine (steady_any _ _ _ _ _ _).mono ?_
      rintro e uz ⟨rfl, gz⟩
      have GG := hid (grown_trans ((alloc1 w _ _).alloc _ _) gz)
      obtain ⟨zA, cA⟩ := has_grown gz (has_past HA.out _)
      have fA := fun o => grown_froz GG.out (Nat.le_refl w.heap.size) o
      have a0 := cA 0
      have a1 := cA 1
      have a2 := cA 2
      have a3 := cA 3
      have a4 := cA 4
      have a5 := cA 5
      simp at a0 a1 a2 a3 a4 a5
      clear cA
      go_wp2
      exact bodyPost_ret (v := .agg #[.int .i64 43, .int .i64 (op / 8 % 8), .int .i64 (op % 8), .int .i64 2, .int .i64 4, .int .i64 4]) (by simp [results, Tryd.results15, go_sem, a0, a1, a2, a3, a4, a5, zA]) rfl ⟨by rw [E.out], (((((GG.out.setCell (Nat.le_refl _) _).setCell (Nat.le_refl _) _).setCell (Nat.le_refl _) _).setCell (Nat.le_refl _) _).setCell (Nat.le_refl _) _).setCell (Nat.le_refl _) _⟩
  · have bq : (op / 64 == 1) = true := by simp [hq]
    cases bY : (op % 8 == 6)
    · have E := hid (cb1n op h0 h1 (by simp [bq, bY]))
      have HA := hid (has_alloc w #[.int .i64 0, .int .i64 0, .int .i64 0, .int .i64 0, .int .i64 0, .int .i64 0] 29)
      go_enter Tryd.func15, Tryd.ntmps15
      go_wp2_with (first | (go_at_call 26; refine (quarter_any _ _ h0 h1).mono ?_; rintro e w' ⟨rfl, rfl⟩) | (go_at_call 31; refine (letters_any _ _ h0 h1).mono ?_; rintro e w' ⟨rfl, rfl⟩))
      refine (steady_any _ _ _ _ _ _).mono ?_
      rintro e uz ⟨rfl, gz⟩
      have GG := hid (grown_trans ((alloc1 w _ _).alloc _ _) gz)
      obtain ⟨zA, cA⟩ := has_grown gz (has_past HA.out _)
      have fA := fun o => grown_froz GG.out (Nat.le_refl w.heap.size) o
      have a0 := cA 0
      have a1 := cA 1
      have a2 := cA 2
      have a3 := cA 3
      have a4 := cA 4
      have a5 := cA 5
      simp at a0 a1 a2 a3 a4 a5
      clear cA
      go_wp2
      exact bodyPost_ret (v := .agg #[.int .i64 44, .int .i64 (op / 8 % 8), .int .i64 (op % 8), .int .i64 2, .int .i64 2, .int .i64 2]) (by simp [results, Tryd.results15, go_sem, a0, a1, a2, a3, a4, a5, zA]) rfl ⟨by rw [E.out], (((((GG.out.setCell (Nat.le_refl _) _).setCell (Nat.le_refl _) _).setCell (Nat.le_refl _) _).setCell (Nat.le_refl _) _).setCell (Nat.le_refl _) _).setCell (Nat.le_refl _) _⟩
    · have E := hid (cb1y op h0 h1 (by simp [bq, bY]))
      have HA := hid (has_alloc w #[.int .i64 0, .int .i64 0, .int .i64 0, .int .i64 0, .int .i64 0, .int .i64 0] 29)
      go_enter Tryd.func15, Tryd.ntmps15
      go_wp2_with (first | (go_at_call 26; refine (quarter_any _ _ h0 h1).mono ?_; rintro e w' ⟨rfl, rfl⟩) | (go_at_call 31; refine (letters_any _ _ h0 h1).mono ?_; rintro e w' ⟨rfl, rfl⟩))
      refine (steady_any _ _ _ _ _ _).mono ?_
      rintro e uz ⟨rfl, gz⟩
      have GG := hid (grown_trans ((alloc1 w _ _).alloc _ _) gz)
      obtain ⟨zA, cA⟩ := has_grown gz (has_past HA.out _)
      have fA := fun o => grown_froz GG.out (Nat.le_refl w.heap.size) o
      have a0 := cA 0
      have a1 := cA 1
      have a2 := cA 2
      have a3 := cA 3
      have a4 := cA 4
      have a5 := cA 5
      simp at a0 a1 a2 a3 a4 a5
      clear cA
      go_wp2
      exact bodyPost_ret (v := .agg #[.int .i64 44, .int .i64 (op / 8 % 8), .int .i64 (op % 8), .int .i64 2, .int .i64 3, .int .i64 3]) (by simp [results, Tryd.results15, go_sem, a0, a1, a2, a3, a4, a5, zA]) rfl ⟨by rw [E.out], (((((GG.out.setCell (Nat.le_refl _) _).setCell (Nat.le_refl _) _).setCell (Nat.le_refl _) _).setCell (Nat.le_refl _) _).setCell (Nat.le_refl _) _).setCell (Nat.le_refl _) _⟩
  · have bq : (op / 64 == 2) = true := by simp [hq]
    cases bY : (op % 8 == 6)
    · have E := hid (cb2n op h0 h1 (by simp [bq, bY]))
      have HA := hid (has_alloc w #[.int .i64 0, .int .i64 0, .int .i64 0, .int .i64 0, .int .i64 0, .int .i64 0] 29)
      go_enter Tryd.func15, Tryd.ntmps15
      go_wp2_with (first | (go_at_call 26; refine (quarter_any _ _ h0 h1).mono ?_; rintro e w' ⟨rfl, rfl⟩) | (go_at_call 31; refine (letters_any _ _ h0 h1).mono ?_; rintro e w' ⟨rfl, rfl⟩))
      refine (steady_any _ _ _ _ _ _).mono ?_
      rintro e uz ⟨rfl, gz⟩
      have GG := hid (grown_trans ((alloc1 w _ _).alloc _ _) gz)
      obtain ⟨zA, cA⟩ := has_grown gz (has_past HA.out _)
      have fA := fun o => grown_froz GG.out (Nat.le_refl w.heap.size) o
      have a0 := cA 0
      have a1 := cA 1
      have a2 := cA 2
      have a3 := cA 3
      have a4 := cA 4
      have a5 := cA 5
      simp at a0 a1 a2 a3 a4 a5
      clear cA
      go_wp2
      exact bodyPost_ret (v := .agg #[.int .i64 45, .int .i64 (op / 8 % 8), .int .i64 (op % 8), .int .i64 2, .int .i64 2, .int .i64 2]) (by simp [results, Tryd.results15, go_sem, a0, a1, a2, a3, a4, a5, zA]) rfl ⟨by rw [E.out], (((((GG.out.setCell (Nat.le_refl _) _).setCell (Nat.le_refl _) _).setCell (Nat.le_refl _) _).setCell (Nat.le_refl _) _).setCell (Nat.le_refl _) _).setCell (Nat.le_refl _) _⟩
    · have E := hid (cb2y op h0 h1 (by simp [bq, bY]))
      have HA := hid (has_alloc w #[.int .i64 0, .int .i64 0, .int .i64 0, .int .i64 0, .int .i64 0, .int .i64 0] 29)
      go_enter Tryd.func15, Tryd.ntmps15
      go_wp2_with (first | (go_at_call 26; refine (quarter_any _ _ h0 h1).mono ?_; rintro e w' ⟨rfl, rfl⟩) | (go_at_call 31; refine (letters_any _ _ h0 h1).mono ?_; rintro e w' ⟨rfl, rfl⟩))
      refine (steady_any _ _ _ _ _ _).mono ?_
      rintro e uz ⟨rfl, gz⟩
      have GG := hid (grown_trans ((alloc1 w _ _).alloc _ _) gz)
      obtain ⟨zA, cA⟩ := has_grown gz (has_past HA.out _)
      have fA := fun o => grown_froz GG.out (Nat.le_refl w.heap.size) o
      have a0 := cA 0
      have a1 := cA 1
      have a2 := cA 2
      have a3 := cA 3
      have a4 := cA 4
      have a5 := cA 5
      simp at a0 a1 a2 a3 a4 a5
      clear cA
      go_wp2
      exact bodyPost_ret (v := .agg #[.int .i64 45, .int .i64 (op / 8 % 8), .int .i64 (op % 8), .int .i64 2, .int .i64 4, .int .i64 4]) (by simp [results, Tryd.results15, go_sem, a0, a1, a2, a3, a4, a5, zA]) rfl ⟨by rw [E.out], (((((GG.out.setCell (Nat.le_refl _) _).setCell (Nat.le_refl _) _).setCell (Nat.le_refl _) _).setCell (Nat.le_refl _) _).setCell (Nat.le_refl _) _).setCell (Nat.le_refl _) _⟩
  · have bq : (op / 64 == 3) = true := by simp [hq]
    cases bY : (op % 8 == 6)
    · have E := hid (cb3n op h0 h1 (by simp [bq, bY]))
      have HA := hid (has_alloc w #[.int .i64 0, .int .i64 0, .int .i64 0, .int .i64 0, .int .i64 0, .int .i64 0] 29)
      go_enter Tryd.func15, Tryd.ntmps15
      go_wp2_with (first | (go_at_call 26; refine (quarter_any _ _ h0 h1).mono ?_; rintro e w' ⟨rfl, rfl⟩) | (go_at_call 31; refine (letters_any _ _ h0 h1).mono ?_; rintro e w' ⟨rfl, rfl⟩))
      refine (steady_any _ _ _ _ _ _).mono ?_
      rintro e uz ⟨rfl, gz⟩
      have GG := hid (grown_trans ((alloc1 w _ _).alloc _ _) gz)
      obtain ⟨zA, cA⟩ := has_grown gz (has_past HA.out _)
      have fA := fun o => grown_froz GG.out (Nat.le_refl w.heap.size) o
      have a0 := cA 0
      have a1 := cA 1
      have a2 := cA 2
      have a3 := cA 3
      have a4 := cA 4
      have a5 := cA 5
      simp at a0 a1 a2 a3 a4 a5
      clear cA
      go_wp2
      exact bodyPost_ret (v := .agg #[.int .i64 46, .int .i64 (op / 8 % 8), .int .i64 (op % 8), .int .i64 2, .int .i64 2, .int .i64 2]) (by simp [results, Tryd.results15, go_sem, a0, a1, a2, a3, a4, a5, zA]) rfl ⟨by rw [E.out], (((((GG.out.setCell (Nat.le_refl _) _).setCell (Nat.le_refl _) _).setCell (Nat.le_refl _) _).setCell (Nat.le_refl _) _).setCell (Nat.le_refl _) _).setCell (Nat.le_refl _) _⟩
    · have E := hid (cb3y op h0 h1 (by simp [bq, bY]))
      have HA := hid (has_alloc w #[.int .i64 0, .int .i64 0, .int .i64 0, .int .i64 0, .int .i64 0, .int .i64 0] 29)
      go_enter Tryd.func15, Tryd.ntmps15
      go_wp2_with (first | (go_at_call 26; refine (quarter_any _ _ h0 h1).mono ?_; rintro e w' ⟨rfl, rfl⟩) | (go_at_call 31; refine (letters_any _ _ h0 h1).mono ?_; rintro e w' ⟨rfl, rfl⟩))
      refine (steady_any _ _ _ _ _ _).mono ?_
      rintro e uz ⟨rfl, gz⟩
      have GG := hid (grown_trans ((alloc1 w _ _).alloc _ _) gz)
      obtain ⟨zA, cA⟩ := has_grown gz (has_past HA.out _)
      have fA := fun o => grown_froz GG.out (Nat.le_refl w.heap.size) o
      have a0 := cA 0
      have a1 := cA 1
      have a2 := cA 2
      have a3 := cA 3
      have a4 := cA 4
      have a5 := cA 5
      simp at a0 a1 a2 a3 a4 a5
      clear cA
      go_wp2
      exact bodyPost_ret (v := .agg #[.int .i64 46, .int .i64 (op / 8 % 8), .int .i64 (op % 8), .int .i64 2, .int .i64 4, .int .i64 4]) (by simp [results, Tryd.results15, go_sem, a0, a1, a2, a3, a4, a5, zA]) rfl ⟨by rw [E.out], (((((GG.out.setCell (Nat.le_refl _) _).setCell (Nat.le_refl _) _).setCell (Nat.le_refl _) _).setCell (Nat.le_refl _) _).setCell (Nat.le_refl _) _).setCell (Nat.le_refl _) _⟩
end Go.Proofs.YtbflhpffojlpgaaDoor
