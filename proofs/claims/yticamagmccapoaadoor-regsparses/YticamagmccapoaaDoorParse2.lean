/- Parse of layer 4. -/
import Derived.Test.YticamagmccapoaaDoorRows
import Derived.Test.YticamagmccapoaaDoorBits
import Derived.Test.YticamagmccapoaaDoorGrow
import Derived.Test.YticamagmccapoaaDoorGrow2
import Derived.Test.YticamagmccapoaaDoorRg
import Derived.Deep.QuietTactic
import Derived.BigQuiet
import Derived.Deep.RegionHeld3
import Derived.Deep.DeepCutAuto
import Derived.Test.YticamagmccapoaaDoorParse1
import Derived.Test.YticamagmccapoaaDoorRegs4
import Derived.Deep.RegionWith
namespace Go.Proofs.YticamagmccapoaaDoor
open Go.RowKit
set_option linter.unusedVariables false
set_option linter.unusedSimpArgs false

theorem list_ne {a b : ByteArray} (h : ¬ a = b) : (a.toList == b.toList) = false := by
  rw [beq_eq_false_iff_ne, ByteArray.toList_eq, ByteArray.toList_eq]
  exact fun e => h (ba_eq.2 e)
def parseR (s : ByteArray) : Rg := if s.size = 47 ∧ s = textOf (endR s) then endR s else zeroR
def parseE (s : ByteArray) : Int := if s.size = 47 ∧ s = textOf (endR s) then 0 else 6
set_option maxHeartbeats 8000000 in
theorem parse_any (s : ByteArray) (w : World) (lay : Has w 0 #[.string ⟨#[65, 70]⟩, .int .i64 4, .string ⟨#[66, 67]⟩, .int .i64 0, .string ⟨#[68, 69]⟩, .int .i64 1, .string ⟨#[72, 76]⟩, .int .i64 2, .string ⟨#[83, 80]⟩, .int .i64 3]) :
    Calls Tryd.prog 6 #[.string s] w fun e w' => e = .returned (.tuple #[.agg #[.int .u8 (parseR s).a, .int .u8 (parseR s).f, .int .u8 (parseR s).b, .int .u8 (parseR s).c, .int .u8 (parseR s).d, .int .u8 (parseR s).e, .int .u8 (parseR s).h, .int .u8 (parseR s).l, .int .u16 (parseR s).s, .int .u16 (parseR s).p], .int .i64 (parseE s)]) ∧ Grown w w' := by
  by_cases hs : s.size = 47
  · skip
    obtain ⟨zl, cl⟩ := id lay
    have l0c : w.cell? ⟨0, 0, none⟩ = some (.string ⟨#[65, 70]⟩) := cl 0
    have l1c : w.cell? ⟨0, 1, none⟩ = some (.int .i64 4) := cl 1
    have l2c : w.cell? ⟨0, 2, none⟩ = some (.string ⟨#[66, 67]⟩) := cl 2
    have l3c : w.cell? ⟨0, 3, none⟩ = some (.int .i64 0) := cl 3
    have l4c : w.cell? ⟨0, 4, none⟩ = some (.string ⟨#[68, 69]⟩) := cl 4
    have l5c : w.cell? ⟨0, 5, none⟩ = some (.int .i64 1) := cl 5
    have l6c : w.cell? ⟨0, 6, none⟩ = some (.string ⟨#[72, 76]⟩) := cl 6
    have l7c : w.cell? ⟨0, 7, none⟩ = some (.int .i64 2) := cl 7
    have l8c : w.cell? ⟨0, 8, none⟩ = some (.string ⟨#[83, 80]⟩) := cl 8
    have l9c : w.cell? ⟨0, 9, none⟩ = some (.int .i64 3) := cl 9
    clear cl
    have l0 : w.heap.size ≤ w.heap.size := Nat.le_refl _
    have l1 : w.heap.size ≤ w.heap.size + 1 := by omega
    have n1 : w.heap.size + 1 ≠ w.heap.size := by omega
    go_enter Tryd.func6, Tryd.ntmps6
    go_wp2
    go_loopw [12] (fun i wr => ∃ k : Nat, k ≤ 5 ∧ i = .int .i64 k ∧ Has wr (w.heap.size + 1) #[.int .u8 (partR s k).a, .int .u8 (partR s k).f, .int .u8 (partR s k).b, .int .u8 (partR s k).c, .int .u8 (partR s k).d, .int .u8 (partR s k).e, .int .u8 (partR s k).h, .int .u8 (partR s k).l, .int .u16 (partR s k).s, .int .u16 (partR s k).p] ∧ Has wr w.heap.size #[.int .u8 0, .int .u8 0, .int .u8 0, .int .u8 0, .int .u8 0, .int .u8 0, .int .u8 0, .int .u8 0, .int .u16 0, .int .u16 0] ∧ Grown w wr) (fun i _ => 5 - (intOf i).toNat)
    case atStart => exact ⟨0, Nat.zero_le _, rfl, (by have h := has_alloc (w.alloc (.cells #[.int .u8 0, .int .u8 0, .int .u8 0, .int .u8 0, .int .u8 0, .int .u8 0, .int .u8 0, .int .u8 0, .int .u16 0, .int .u16 0] 25)) #[.int .u8 0, .int .u8 0, .int .u8 0, .int .u8 0, .int .u8 0, .int .u8 0, .int .u8 0, .int .u8 0, .int .u16 0, .int .u16 0] 25; simpa [partR, zeroR] using h), has_past (has_alloc _ _ _) _, (alloc1 _ _ _).alloc _ _⟩
    case round =>
      clear l0c l1c l2c l3c l4c l5c l6c l7c l8c l9c
      obtain ⟨k, hk, rfl, Br, Bz, Gw⟩ := hrel
      by_cases hlt : k < 5
      · skip
        have ix : ∀ u, (Instr.index 46 (.agg #[.string ⟨#[65, 70]⟩, .int .i64 4, .string ⟨#[66, 67]⟩, .int .i64 0, .string ⟨#[68, 69]⟩, .int .i64 1, .string ⟨#[72, 76]⟩, .int .i64 2, .string ⟨#[83, 80]⟩, .int .i64 3]) (.int .i64 k)).run Tryd.prog u = .ok (.agg #[.string (nameAt k), .int .i64 (pairAt k)]) u := by
          rcases (show k = 0 ∨ k = 1 ∨ k = 2 ∨ k = 3 ∨ k = 4 by omega) with rfl | rfl | rfl | rfl | rfl
          all_goals exact fun _ => by kernel_rfl
        obtain ⟨V, hV⟩ : ∃ V, wd s k = V := ⟨_, rfl⟩
        obtain ⟨P, hP⟩ : ∃ P, partR s k = P := ⟨_, rfl⟩
        obtain ⟨N, hN⟩ : ∃ N, nameAt k = N := ⟨_, rfl⟩
        obtain ⟨Y, hY⟩ : ∃ Y, pairAt k = Y := ⟨_, rfl⟩
        have HV := hid hV
        have E := hid (show partR s (k + 1) = putP Y V P by rw [← hP, ← hV, ← hY]; rfl)
        obtain ⟨b0, b1⟩ : 0 ≤ V ∧ V ≤ 65535 := by rw [← hV]; exact wd_bd s k
        rw [hP] at Br
        rw [hN, hY] at ix
        clear hP hV hN hY
        obtain ⟨zr, cr⟩ := id Br
        have zs : w.heap.size < wr.heap.size := by omega
        have ns : w.heap.size + 1 ≠ wr.heap.size := by omega
        have ns2 : wr.heap.size ≠ w.heap.size + 1 := by omega
        go_wp2
        go_region_with (first | (go_at_call 18; refine (wordOf_any s k _ (by omega) hs).mono ?_; rintro e v1 ⟨rfl, q1⟩; rw [HV.out]; have D1 := has_grown q1 (has_past Br _); have D1p := has_grown q1 (has_alloc _ _ _); obtain ⟨zD1, cD1⟩ := id D1; obtain ⟨zD1p, cD1p⟩ := id D1p) | (go_at_call 17; refine (putPair_any P _ _ _ b0 b1).mono ?_; rintro e v2 ⟨rfl, q2⟩; have D2 := has_grown q2 D1; obtain ⟨zD2, cD2⟩ := id D2; have G2 := hid (grown_trans (grown_trans (Gw.alloc _ _) q1) q2); have hf := fun o => grown_froz G2.out (b := w.heap.size + 1) (by omega) o))
        all_goals
          go_wp2
          go_roundw
          case rel => exact ⟨k + 1, by omega, by go_num, by rw [E.out]; exact has_set10 D2 _ _ _ _ _ _ _ _ _ _, (has_other (has_other (has_other (has_other (has_other (has_other (has_other (has_other (has_other (has_other (has_grown q2 (has_grown q1 (has_past Bz _))) n1 _) n1 _) n1 _) n1 _) n1 _) n1 _) n1 _) n1 _) n1 _) n1 _), (Grown.setCell (Grown.setCell (Grown.setCell (Grown.setCell (Grown.setCell (Grown.setCell (Grown.setCell (Grown.setCell (Grown.setCell (Grown.setCell G2.out l1 _) l1 _) l1 _) l1 _) l1 _) l1 _) l1 _) l1 _) l1 _) l1 _)⟩
          case measure => simp [intOf]; omega
      · skip
        obtain rfl : k = 5 := by omega
        obtain ⟨V, hV⟩ : ∃ V, wd s 5 = V := ⟨_, rfl⟩
        obtain ⟨P, hP⟩ : ∃ P, partR s 5 = P := ⟨_, rfl⟩
        have HV := hid hV
        have E := hid (show endR s = { P with p := V } by simp only [endR, hP, hV])
        obtain ⟨X, hX⟩ : ∃ X, textOf (endR s) = X := ⟨_, rfl⟩
        have T := hid (show textOf { P with p := V } = X by rw [← E.out]; exact hX)
        have oke : Rg.ok { P with p := V } := by rw [← E.out]; exact endR_ok s
        rw [hP] at Br
        clear hP hV
        have HX := hid hX
        clear hX
        obtain ⟨zr, cr⟩ := id Br
        obtain ⟨zz, cz⟩ := id Bz
        go_wp2_with fail
        refine (wordOf_any s 5 _ (by decide) hs).mono ?_
        rintro e v1 ⟨rfl, q1⟩
        rw [HV.out]
        have D1 := has_grown q1 Br
        have D1z := has_grown q1 Bz
        obtain ⟨zD1, cD1⟩ := id D1
        obtain ⟨zD1z, cD1z⟩ := id D1z
        have G1 := hid (grown_trans Gw q1)
        have hf := fun o => grown_froz G1.out (b := w.heap.size + 1) (by omega) o
        have L1 := has_grown G1.out lay
        have LX := has_other L1 (a := ⟨w.heap.size + 1, 9, none⟩) (by simp) (.int .u16 V)
        have D1s := has_set D1 9 (.int .u16 V) (by simp)
        go_wp2_with fail
        refine (text_any { P with p := V } _ oke LX).mono ?_
        rintro e v2 ⟨rfl, q2⟩
        rw [T.out]
        have D2 := has_grown q2 D1s
        have D2z := has_grown q2 (has_other D1z n1 _)
        obtain ⟨zD2, cD2⟩ := id D2
        obtain ⟨zD2z, cD2z⟩ := id D2z
        have G2 := hid (grown_trans (Grown.setCell G1.out l1 _) q2)
        have hf2 := fun o => grown_froz G2.out (b := w.heap.size) (by omega) o
        by_cases hx : X = s
        · have HQ := hid (show parseR s = { P with p := V } ∧ parseE s = 0 by rw [← E.out]; unfold parseR parseE; rw [if_pos ⟨hs, by rw [HX.out, hx]⟩, if_pos ⟨hs, by rw [HX.out, hx]⟩]; exact ⟨rfl, rfl⟩)
          have hx2 : (X.toList == s.toList) = true := by rw [hx]; simp
          clear hx
          go_wp2
          exact bodyPost_ret (v := .tuple #[.agg #[.int .u8 P.a, .int .u8 P.f, .int .u8 P.b, .int .u8 P.c, .int .u8 P.d, .int .u8 P.e, .int .u8 P.h, .int .u8 P.l, .int .u16 P.s, .int .u16 V], .int .i64 0]) (by simp [results, Tryd.results6, go_sem, *]) rfl ⟨by rw [HQ.out.1, HQ.out.2], (Grown.setCell (Grown.setCell (Grown.setCell (Grown.setCell (Grown.setCell (Grown.setCell (Grown.setCell (Grown.setCell (Grown.setCell (Grown.setCell G2.out l0 _) l0 _) l0 _) l0 _) l0 _) l0 _) l0 _) l0 _) l0 _) l0 _)⟩
        · have HQ := hid (show parseR s = zeroR ∧ parseE s = 6 by unfold parseR parseE; rw [if_neg (fun h => hx (by rw [← HX.out]; exact h.2.symm)), if_neg (fun h => hx (by rw [← HX.out]; exact h.2.symm))]; exact ⟨rfl, rfl⟩)
          have hx2 : (X.toList == s.toList) = false := list_ne hx
          clear hx
          go_wp2
          exact bodyPost_ret (v := .tuple #[.agg #[.int .u8 0, .int .u8 0, .int .u8 0, .int .u8 0, .int .u8 0, .int .u8 0, .int .u8 0, .int .u8 0, .int .u16 0, .int .u16 0], .int .i64 6]) (by simp [results, Tryd.results6, go_sem, *]) rfl ⟨by rw [HQ.out.1, HQ.out.2]; rfl, (Grown.setCell (Grown.setCell (Grown.setCell (Grown.setCell (Grown.setCell (Grown.setCell (Grown.setCell (Grown.setCell (Grown.setCell (Grown.setCell G2.out l0 _) l0 _) l0 _) l0 _) l0 _) l0 _) l0 _) l0 _) l0 _) l0 _)⟩
  · rw [show parseE s = 6 by unfold parseE; rw [if_neg (fun h => hs h.1)], show parseR s = zeroR by unfold parseR; rw [if_neg (fun h => hs h.1)]]
    go_enter Tryd.func6, Tryd.ntmps6
    go_wp2
    exact bodyPost_ret (v := .tuple #[.agg #[.int .u8 0, .int .u8 0, .int .u8 0, .int .u8 0, .int .u8 0, .int .u8 0, .int .u8 0, .int .u8 0, .int .u16 0, .int .u16 0], .int .i64 6]) (by simp [results, Tryd.results6, go_sem]) rfl ⟨rfl, alloc1 _ _ _⟩
end Go.Proofs.YticamagmccapoaaDoor
