/- What Decode of the document's answers of layer 5 comes to. -/
import Derived.Test.YtbflhpffojlpgaaDoorRf2
namespace Go.Proofs.YtbflhpffojlpgaaDoor
open Go.RowKit
set_option linter.unusedVariables false
set_option linter.unusedSimpArgs false

def noneD (op : Int) : Nat → Bool
  | 0 => true
  | k + 1 => noneD op k && !fok (ds k) op 8
theorem ds_fin : ∀ k : Fin 46, (ds k.val).size = 8 ∧ (∀ j : Fin 8, sg (ds k.val) j.val = 48 ∨ sg (ds k.val) j.val = 49 ∨ sg (ds k.val) j.val = 120 ∨ sg (ds k.val) j.val = 121) ∧ ((dk k.val 0 = 21 ∨ dk k.val 0 = 22 ∨ dk k.val 0 = 25 ∨ dk k.val 0 = 26 ∨ dk k.val 0 = 8 ∨ dk k.val 0 = 7 ∨ dk k.val 0 = 23) → dk k.val 4 = 0) := by decide +kernel
theorem doc_fin : ∀ a : Fin 256, ∀ k : Fin 46, (fok (ds k.val) (a.val : Int) 8 && noneD (a.val : Int) k.val) = true → ((decOf (a.val : Int)).same (toldOf (dk k.val 0) (dk k.val 1) (dk k.val 2) (dk k.val 3) (dk k.val 4) (fx (ds k.val) (a.val : Int) 8) (fy (ds k.val) (a.val : Int) 8))) = true := by decide +kernel
theorem docno_fin : ∀ a : Fin 256, (noneD (a.val : Int) 46) = true → ((decOf (a.val : Int)).same ⟨5, 0, 0, 1, 1, 1⟩) = true := by decide +kernel
set_option maxRecDepth 100000 in
set_option maxHeartbeats 4000000 in
theorem rdecode_any (op : Int) (w : World) (h0 : 0 ≤ op) (h1 : op ≤ 255) : Calls Tryd.prog 44 #[.int .u8 op] w fun e w' => e = .returned (.agg #[.int .i64 (decOf op).kind, .int .i64 (decOf op).x, .int .i64 (decOf op).y, .int .i64 (decOf op).bytes, .int .i64 (decOf op).cycles, .int .i64 (decOf op).taken]) ∧ Grown w w' := by
  go_enter Tryd.func44, Tryd.ntmps44
  go_wp2_with fail
  refine (rows_any _).mono ?_
  rintro e u1 ⟨rfl, hR, g1⟩
  have HA := hid (has_grown g1 (has_alloc w #[.int .i64 0, .int .i64 0, .int .i64 0, .int .i64 0, .int .i64 0, .int .i64 0] 29))
  have G1 := hid (grown_trans (alloc1 w _ _) g1)
  simp only [World.size_alloc] at hR
  clear g1
  go_wp2
  go_loopw [4] (fun i wr => ∃ k : Nat, k ≤ 46 ∧ i = .int .i64 (k : Int) ∧ noneD op k = true ∧ wr = u1) (fun i _ => 46 - (intOf i).toNat)
  case atStart => exact ⟨0, Nat.zero_le _, rfl, rfl, rfl⟩
  case round =>
    obtain ⟨k, hk, rfl, hn, rfl⟩ := hrel
    by_cases hlt : k < 46
    · obtain ⟨c0, c1, c2, c3, c4, c5⟩ := rows_at k hlt
      rw [← hR.2] at c0 c1 c2 c3 c4 c5
      obtain ⟨s8, sG, hal⟩ := ds_fin ⟨k, hlt⟩
      simp only at s8 sG hal
      have zR := hR.1
      have SG : Hid (∀ j : Nat, j < 8 → sg (ds k) j = 48 ∨ sg (ds k) j = 49 ∨ sg (ds k) j = 120 ∨ sg (ds k) j = 121) := fun j hj => sG ⟨j, hj⟩
      have HL := hid hal
      have HN := hid hn
      have S8 := hid s8
      clear hR sG hal hn s8
      go_wp2_with fail
      refine (fits_any (ds k) op _ S8.out SG.out h0 h1).mono ?_
      rintro e w' ⟨(⟨ho, rfl⟩ | ⟨ho, rfl⟩), rfl⟩
      · have E := hid ((same_iff _ _).1 (fin8 (p := fun a => ∀ k : Fin 46, (fok (ds k.val) a 8 && noneD a k.val) = true → ((decOf a).same (toldOf (dk k.val 0) (dk k.val 1) (dk k.val 2) (dk k.val 3) (dk k.val 4) (fx (ds k.val) a 8) (fy (ds k.val) a 8))) = true) doc_fin op h0 h1 ⟨k, hlt⟩ (by simp [ho, HN.out])))
        clear ho SG HN S8
        simp only at E
        generalize fx (ds k) op 8 = X at *
        generalize fy (ds k) op 8 = Y at *
        generalize ds k = S at *
        generalize dk k 0 = d0 at *
        generalize dk k 1 = d1 at *
        generalize dk k 2 = d2 at *
        generalize dk k 3 = d3 at *
        generalize dk k 4 = d4 at *
        go_wp2_with fail
        refine (told_any S d0 d1 d2 d3 d4 X Y _ HL.out).mono ?_
        rintro e u2 ⟨rfl, g2⟩
        have GG := hid (grown_trans G1.out g2)
        obtain ⟨zA, cA⟩ := has_grown g2 HA.out
        have fA := fun o => grown_froz GG.out (Nat.le_refl w.heap.size) o
        have a0 := cA 0
        have a1 := cA 1
        have a2 := cA 2
        have a3 := cA 3
        have a4 := cA 4
        have a5 := cA 5
        simp at a0 a1 a2 a3 a4 a5
        clear cA
        obtain ⟨F, hF⟩ : ∃ F, toldOf d0 d1 d2 d3 d4 X Y = F := ⟨_, rfl⟩
        rw [hF] at E
        rw [hF]
        clear hF
        go_wp2
        exact bodyPost_ret (v := .agg #[.int .i64 F.kind, .int .i64 F.x, .int .i64 F.y, .int .i64 F.bytes, .int .i64 F.cycles, .int .i64 F.taken]) (by simp [results, Tryd.results44, go_sem, a0, a1, a2, a3, a4, a5, zA]) rfl ⟨by rw [E.out], (((((GG.out.setCell (Nat.le_refl _) _).setCell (Nat.le_refl _) _).setCell (Nat.le_refl _) _).setCell (Nat.le_refl _) _).setCell (Nat.le_refl _) _).setCell (Nat.le_refl _) _⟩
      · have HF := hid ho
        clear ho SG
        go_wp2
        go_roundw
        case rel => exact ⟨k + 1, by omega, by go_num, by simp [noneD, HN.out, HF.out], by first | rfl | trivial⟩
        case measure => first | omega | (simp; omega) | (simp [intOf]; omega)
    · obtain rfl : k = 46 := by omega
      have E := hid ((same_iff _ _).1 (fin8 (p := fun a => (noneD a 46) = true → ((decOf a).same ⟨5, 0, 0, 1, 1, 1⟩) = true) docno_fin op h0 h1 hn))
      clear hn hR
      have GG := hid (G1.out)
      obtain ⟨zA, cA⟩ := HA.out
      have fA := fun o => grown_froz GG.out (Nat.le_refl w.heap.size) o
      have a0 := cA 0
      have a1 := cA 1
      have a2 := cA 2
      have a3 := cA 3
      have a4 := cA 4
      have a5 := cA 5
      simp at a0 a1 a2 a3 a4 a5
      clear cA
      go_wp2
      exact bodyPost_ret (v := .agg #[.int .i64 5, .int .i64 0, .int .i64 0, .int .i64 1, .int .i64 1, .int .i64 1]) (by simp [results, Tryd.results44, go_sem, a0, a1, a2, a3, a4, a5, zA]) rfl ⟨by rw [E.out], (((((GG.out.setCell (Nat.le_refl _) _).setCell (Nat.le_refl _) _).setCell (Nat.le_refl _) _).setCell (Nat.le_refl _) _).setCell (Nat.le_refl _) _).setCell (Nat.le_refl _) _⟩
end Go.Proofs.YtbflhpffojlpgaaDoor
