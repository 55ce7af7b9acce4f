/- What in, Kinds, Most, signs, Sum and Whole of the document's answers of layer 7 come to. What Kinds of the document's answers of layer 7 comes to. -/
import Derived.Test.YtfmddnekooojkaaGreatDoorG04
import Derived.Test.YtfmddnekooojkaaGreatDoorChecked
import Derived.Deep.QuietTactic
import Derived.BigQuiet
namespace Go.Proofs.YtfmddnekooojkaaGreatDoor
open Go.RowKit
set_option linter.unusedVariables false
set_option linter.unusedSimpArgs false

theorem inL_yes (ls : List Int) (b : Int) (k : Nat) (h : k < ls.length) (e : ls.getD k 0 = b) : inL ls b = true := by
  unfold inL
  rw [List.any_eq_true]
  refine ⟨ls[k], List.getElem_mem h, ?_⟩
  rw [List.getD_eq_getElem?_getD, List.getElem?_eq_getElem h] at e
  simpa using e
theorem inL_no (ls : List Int) (b : Int) (h : ∀ k, k < ls.length → ls.getD k 0 ≠ b) : inL ls b = false := by
  unfold inL
  rw [List.any_eq_false]
  intro x hx
  obtain ⟨k, hk, rfl⟩ := List.getElem_of_mem hx
  have := h k hk
  rw [List.getD_eq_getElem?_getD, List.getElem?_eq_getElem hk] at this
  simpa using this
set_option maxRecDepth 100000 in
theorem rin_any (ls : List Int) (b : Int) (g cap : Nat) (w : World) (hz : g < w.heap.size) (hc : ∀ i, i < ls.length → w.cell? ⟨g, i, none⟩ = some (.int .u8 (ls.getD i 0))) (hl : ls.length ≤ 1000) : Calls Tryz.prog 77 #[.slice (some ⟨g, 0, none⟩) ls.length cap, .int .u8 b] w fun e w' => e = .returned (.bool (inL ls b)) ∧ w' = w := by
  obtain ⟨LN, hLN⟩ : ∃ n, ls.length = n := ⟨_, rfl⟩
  have HN := hid (inL_no ls b)
  have HY := hid (inL_yes ls b)
  have HC := hid hc
  have HL := hid hLN
  rw [hLN] at hl ⊢
  clear hc hLN
  go_enter Tryz.func77, Tryz.ntmps77
  go_wp2
  go_loopw [5] (fun i wr => ∃ k : Nat, k ≤ LN ∧ i = .int .i64 (k : Int) ∧ (∀ j, j < k → ls.getD j 0 ≠ b) ∧ wr = w) (fun i _ => LN - (intOf i).toNat)
  case atStart => exact ⟨0, Nat.zero_le _, rfl, fun j h => absurd h (by omega), rfl⟩
  case round =>
    obtain ⟨k, hk, rfl, hno, rfl⟩ := hrel
    have NO := hid hno
    clear hno
    by_cases hlt : k < LN
    · have hlt2 : (k : Int) < (LN : Int) := by omega
      have ck := HC.out k (by rw [HL.out]; exact hlt)
      obtain ⟨x, hx⟩ : ∃ x, ls.getD k 0 = x := ⟨_, rfl⟩
      rw [hx] at ck
      cases hb : (x == b)
      · have hb2 : x ≠ b := by simpa using hb
        have NN := hid (show ∀ j, j < k + 1 → ls.getD j 0 ≠ b from fun j hj => by
          by_cases e : j = k
          · rw [e, hx]; exact hb2
          · exact NO.out j (by omega))
        clear hx hb2
        go_wp2
        go_roundw
        case rel => exact ⟨k + 1, by omega, by go_num, NN.out, by trivial⟩
        case measure => first | omega | (simp; omega) | (simp [intOf]; omega)
      · have hb2 : x = b := by simpa using hb
        have Y := hid (HY.out k (by rw [HL.out]; exact hlt) (hx.trans hb2))
        clear hx hb2
        go_wp2
        go_ret
        exact ⟨ret_bool Y.out.symm, rfl⟩
    · obtain rfl : k = LN := by omega
      have E := hid (HN.out (fun j hj => NO.out j (by rw [← HL.out]; exact hj)))
      have hl2 : ¬ ((k : Int) < (k : Int)) := by omega
      go_wp2
      go_ret
      exact ⟨ret_bool E.out.symm, rfl⟩
theorem rsigns_any (b : Int) (w : World) : Calls Tryz.prog 52 #[.int .u8 b] w fun e w' => e = .returned (.bool (signB b)) ∧ w' = w := by
  unfold signB
  go_enter Tryz.func52, Tryz.ntmps52
  by_cases h : 32 ≤ b
  · have h2 : decide (32 ≤ b) = true := decide_eq_true h
    rw [h2]
    go_wp2
    go_ret
    exact ⟨by simp, rfl⟩
  · have h2 : decide (32 ≤ b) = false := decide_eq_false h
    rw [h2]
    go_wp2
    go_ret
    exact ⟨by simp, rfl⟩
set_option maxRecDepth 100000 in
theorem rmost_any (r : Int) (w : World) (h0 : 0 ≤ r) (h1 : r ≤ 8) : Calls Tryz.prog 50 #[.int .u8 r] w fun e w' => e = .returned (.int .i64 (mostOf r)) ∧ w' = w := by
  go_enter Tryz.func50, Tryz.ntmps50
  go_wp2
  go_loopw [3, 4] (fun n i wr => ∃ k : Nat, (k : Int) ≤ r ∧ n = .int .i64 (mostTo k) ∧ i = .int .u8 (k : Int) ∧ wr = w) (fun _ i _ => 9 - (intOf i).toNat)
  case atStart => exact ⟨0, h0, rfl, rfl, rfl⟩
  case round =>
    obtain ⟨k, hk, rfl, rfl, rfl⟩ := hrel
    have mf := most_fin ⟨k, by omega⟩
    simp only at mf
    by_cases hlt : (k : Int) < r
    · have h9 : (k : Int) < 9 := by omega
      have w1 : IntKind.u8.wrap ((k : Int) + 1) = (k : Int) + 1 := by rw [IntKind.wrap_u8]; omega
      have w2 : IntKind.i64.wrap (mostTo k * 2) = mostTo k * 2 := by rw [IntKind.wrap_i64]; omega
      have E := hid (show mostTo (k + 1) = mostTo k * 2 from rfl)
      generalize mostTo k = M at *
      go_wp2
      go_roundw
      case rel => exact ⟨k + 1, by omega, by rw [E.out], by go_num, by trivial⟩
      case measure => first | omega | (simp; omega) | (simp [intOf]; omega)
    · have E := hid (show mostOf r = mostTo k by unfold mostOf; congr 1; omega)
      generalize mostTo k = M at *
      go_wp2
      go_ret
      exact ⟨by rw [E.out]; rfl, rfl⟩
set_option maxRecDepth 100000 in
theorem rsum_any (z : List Int) (a : Option Addr) (cap : Nat) (w : World) (row : Row w a z) : Calls Tryz.prog 51 #[.slice a z.length cap] w fun e w' => e = .returned (.tuple #[.int .u8 (sumV z), .int .i64 (sumE z)]) ∧ w' = w := by
  have hm : z.length ≤ maxLen := row.1
  by_cases hs : z.length < 336
  · have e1 : sumV z = 0 := by simp [sumV, hs]
    have e2 : sumE z = 2 := by simp [sumE, hs]
    rw [e1, e2]
    generalize z.length = n at *
    have h2 : (n : Int) < 336 := by omega
    clear row
    go_enter Tryz.func51, Tryz.ntmps51
    go_wp2
    go_ret2
    exact ⟨rfl, rfl⟩
  · have e1 : sumV z = sumTo z 25 := by simp [sumV, hs, sumOf]
    have e2 : sumE z = 0 := by simp [sumE, hs]
    rw [e1, e2]
    obtain ⟨x, rfl, hx, hc⟩ := row_get row (by omega)
    have HC := hid hc
    obtain ⟨n, hn⟩ : ∃ n, z.length = n := ⟨_, rfl⟩
    have HN := hid hn
    rw [hn] at hs hm ⊢
    have h2 : ¬ ((n : Int) < 336) := by omega
    clear row hc hn
    go_enter Tryz.func51, Tryz.ntmps51
    go_wp2
    go_loopw [4, 5] (fun v i wr => ∃ k : Nat, k ≤ 25 ∧ v = .int .i64 (sumTo z k) ∧ i = .int .i64 (308 + (k : Int)) ∧ wr = w) (fun _ i _ => 400 - (intOf i).toNat)
    case atStart => exact ⟨0, by omega, rfl, rfl, rfl⟩
    case round =>
      obtain ⟨k, hk, rfl, rfl, rfl⟩ := hrel
      have sb := sumTo_bd z k
      by_cases hlt : k < 25
      · have hlt2 : 308 + (k : Int) ≤ 332 := by omega
        have hlt3 : 308 + (k : Int) < (n : Int) := by omega
        have ck := HC.out (308 + k) (by rw [HN.out]; omega)
        have E := hid (show sumTo z (k + 1) = (sumTo z k + 512 - z.getD (308 + k) 0 - 1) % 256 from rfl)
        obtain ⟨y, hy⟩ : ∃ y, z.getD (308 + k) 0 = y := ⟨_, rfl⟩
        rw [hy] at ck E
        obtain ⟨ck, y0, y1⟩ := ck
        generalize sumTo z k = S at *
        clear hy
        have tn : (308 + (k : Int)).toNat = 308 + k := by omega
        have w1 : IntKind.i64.wrap (S + 512) = S + 512 := by rw [IntKind.wrap_i64]; omega
        have w2 : IntKind.i64.wrap (S + 512 - y) = S + 512 - y := by rw [IntKind.wrap_i64]; omega
        have w3 : IntKind.i64.wrap (S + 512 - y - 1) = S + 512 - y - 1 := by rw [IntKind.wrap_i64]; omega
        have tm : Int.tmod (S + 512 - y - 1) 256 = (S + 512 - y - 1) % 256 := Int.tmod_eq_emod_of_nonneg (by omega)
        go_wp2
        go_roundw
        case rel => exact ⟨k + 1, by omega, by rw [E.out], by go_num, by trivial⟩
        case measure => first | omega | (simp; omega) | (simp [intOf]; omega)
      · obtain rfl : k = 25 := by omega
        generalize hS : sumTo z 25 = S at *
        have HS := hid hS
        clear hS
        have w1 : IntKind.u8.wrap S = S := by rw [IntKind.wrap_u8]; omega
        go_wp2
        go_ret2
        exact ⟨by rw [HS.out]; rfl, rfl⟩
end Go.Proofs.YtfmddnekooojkaaGreatDoor
namespace Go.Proofs.YtfmddnekooojkaaGreatDoor
open Go.RowKit
set_option linter.unusedVariables false
set_option linter.unusedSimpArgs false

theorem rin_new (ls : List Int) (n : Nat) (hn : ls.length = n) (hl : n ≤ 1000) (b : Int) (g : Nat) (u : World) (hg : g = u.heap.size) : Calls Tryz.prog 77 #[.slice (some ⟨g, 0, none⟩) n n, .int .u8 b] (u.alloc (.cells (ls.map (Value.int .u8)).toArray 5)) fun e w' => e = .returned (.bool (inL ls b)) ∧ w' = u.alloc (.cells (ls.map (Value.int .u8)).toArray 5) := by
  subst hn
  subst hg
  refine rin_any ls b _ _ _ (by simp) (fun i hi => ?_) hl
  rw [(has_alloc u (ls.map (Value.int .u8)).toArray 5).2 i]
  simp [List.getD_eq_getElem?_getD, List.getElem?_eq_getElem hi]
set_option maxRecDepth 100000 in
set_option maxHeartbeats 4000000 in
theorem rkinds_any (k : Int) (w : World) (h0 : 0 ≤ k) (h1 : k ≤ 255) : Calls Tryz.prog 49 #[.int .u8 k] w fun e w' => e = .returned (.tuple #[.agg #[.string (kindH k).title, .int .u8 (kindH k).kind, .int .i64 (kindH k).map, .bool (kindH k).ram, .bool (kindH k).bat, .bool (kindH k).clk, .int .i64 (kindH k).banks, .int .i64 (kindH k).size, .int .u8 (kindH k).sum, .int .u16 (kindH k).whole], .bool (kindOk k)]) ∧ Grown w w' := by
  have Ck1 := hid (fun (u : World) (g : Nat) (hg : g = u.heap.size) => show Calls Tryz.prog 77 #[.slice (some ⟨g, 0, none⟩) 3 3, .int .u8 k] (u.alloc (.cells #[.int .u8 1, .int .u8 2, .int .u8 3] 5)) (fun e w' => e = .returned (.bool (k1 k)) ∧ w' = u.alloc (.cells #[.int .u8 1, .int .u8 2, .int .u8 3] 5)) from rin_new [1, 2, 3] 3 rfl (by decide) k g u hg)
  have Ck3 := hid (fun (u : World) (g : Nat) (hg : g = u.heap.size) => show Calls Tryz.prog 77 #[.slice (some ⟨g, 0, none⟩) 5 5, .int .u8 k] (u.alloc (.cells #[.int .u8 15, .int .u8 16, .int .u8 17, .int .u8 18, .int .u8 19] 5)) (fun e w' => e = .returned (.bool (k3 k)) ∧ w' = u.alloc (.cells #[.int .u8 15, .int .u8 16, .int .u8 17, .int .u8 18, .int .u8 19] 5)) from rin_new [15, 16, 17, 18, 19] 5 rfl (by decide) k g u hg)
  have Ck5 := hid (fun (u : World) (g : Nat) (hg : g = u.heap.size) => show Calls Tryz.prog 77 #[.slice (some ⟨g, 0, none⟩) 6 6, .int .u8 k] (u.alloc (.cells #[.int .u8 25, .int .u8 26, .int .u8 27, .int .u8 28, .int .u8 29, .int .u8 30] 5)) (fun e w' => e = .returned (.bool (k5 k)) ∧ w' = u.alloc (.cells #[.int .u8 25, .int .u8 26, .int .u8 27, .int .u8 28, .int .u8 29, .int .u8 30] 5)) from rin_new [25, 26, 27, 28, 29, 30] 6 rfl (by decide) k g u hg)
  have CkN := hid (fun (u : World) (g : Nat) (hg : g = u.heap.size) => show Calls Tryz.prog 77 #[.slice (some ⟨g, 0, none⟩) 3 3, .int .u8 k] (u.alloc (.cells #[.int .u8 0, .int .u8 8, .int .u8 9] 5)) (fun e w' => e = .returned (.bool (kN k)) ∧ w' = u.alloc (.cells #[.int .u8 0, .int .u8 8, .int .u8 9] 5)) from rin_new [0, 8, 9] 3 rfl (by decide) k g u hg)
  have CkRam := hid (fun (u : World) (g : Nat) (hg : g = u.heap.size) => show Calls Tryz.prog 77 #[.slice (some ⟨g, 0, none⟩) 11 11, .int .u8 k] (u.alloc (.cells #[.int .u8 2, .int .u8 3, .int .u8 8, .int .u8 9, .int .u8 16, .int .u8 18, .int .u8 19, .int .u8 26, .int .u8 27, .int .u8 29, .int .u8 30] 5)) (fun e w' => e = .returned (.bool (kRam k)) ∧ w' = u.alloc (.cells #[.int .u8 2, .int .u8 3, .int .u8 8, .int .u8 9, .int .u8 16, .int .u8 18, .int .u8 19, .int .u8 26, .int .u8 27, .int .u8 29, .int .u8 30] 5)) from rin_new [2, 3, 8, 9, 16, 18, 19, 26, 27, 29, 30] 11 rfl (by decide) k g u hg)
  have CkBat := hid (fun (u : World) (g : Nat) (hg : g = u.heap.size) => show Calls Tryz.prog 77 #[.slice (some ⟨g, 0, none⟩) 7 7, .int .u8 k] (u.alloc (.cells #[.int .u8 3, .int .u8 9, .int .u8 15, .int .u8 16, .int .u8 19, .int .u8 27, .int .u8 30] 5)) (fun e w' => e = .returned (.bool (kBat k)) ∧ w' = u.alloc (.cells #[.int .u8 3, .int .u8 9, .int .u8 15, .int .u8 16, .int .u8 19, .int .u8 27, .int .u8 30] 5)) from rin_new [3, 9, 15, 16, 19, 27, 30] 7 rfl (by decide) k g u hg)
  have CkClk := hid (fun (u : World) (g : Nat) (hg : g = u.heap.size) => show Calls Tryz.prog 77 #[.slice (some ⟨g, 0, none⟩) 2 2, .int .u8 k] (u.alloc (.cells #[.int .u8 15, .int .u8 16] 5)) (fun e w' => e = .returned (.bool (kClk k)) ∧ w' = u.alloc (.cells #[.int .u8 15, .int .u8 16] 5)) from rin_new [15, 16] 2 rfl (by decide) k g u hg)
  have KR : kRam k = kRam k := rfl
  generalize hR : kRam k = R at *
  generalize hB : kBat k = Bt at *
  generalize hC : kClk k = Ck at *
  have HR := hid hR
  have HB := hid hB
  have HC := hid hC
  clear hR hB hC KR
  rcases kind_of k h0 h1 with ⟨q1, q3, q5, q0⟩ | ⟨q1, q3, q5, q0⟩ | ⟨q1, q3, q5, q0⟩ | ⟨q1, q3, q5, q0⟩ | ⟨q1, q3, q5, q0⟩
  · have EK := hid (show kindOk k = true by simp [kindOk, q1, q3, q5, q0])
    have EH := hid (show kindH k = ⟨⟨#[]⟩, k, 1, R, Bt, Ck, 0, 0, 0, 0⟩ by simp [kindH, kindOk, kMap, q1, q3, q5, q0, HR.out, HB.out, HC.out])
    rw [q1] at Ck1
    rw [q3] at Ck3
    rw [q5] at Ck5
    rw [q0] at CkN
    clear q1 q3 q5 q0
    go_enter Tryz.func49, Tryz.ntmps49
    go_wp2_with fail
    refine (Ck1.out _ _ (by simp)).mono ?_
    rintro e w' ⟨rfl, rfl⟩
    go_wp2_with fail
    refine (Ck3.out _ _ (by simp)).mono ?_
    rintro e w' ⟨rfl, rfl⟩
    go_wp2_with fail
    refine (Ck5.out _ _ (by simp)).mono ?_
    rintro e w' ⟨rfl, rfl⟩
    go_wp2_with fail
    refine (CkN.out _ _ (by simp)).mono ?_
    rintro e w' ⟨rfl, rfl⟩
    go_wp2_with fail
    refine (CkRam.out _ _ (by simp)).mono ?_
    rintro e w' ⟨rfl, rfl⟩
    go_wp2_with fail
    refine (CkBat.out _ _ (by simp)).mono ?_
    rintro e w' ⟨rfl, rfl⟩
    go_wp2_with fail
    refine (CkClk.out _ _ (by simp)).mono ?_
    rintro e w' ⟨rfl, rfl⟩
    go_wp2
    exact bodyPost_ret (v := .tuple #[.agg #[.string ⟨#[]⟩, .int .u8 k, .int .i64 1, .bool R, .bool Bt, .bool Ck, .int .i64 0, .int .i64 0, .int .u8 0, .int .u16 0], .bool true]) (by simp [results, Tryz.results49, go_sem]) rfl ⟨by rw [EK.out, EH.out], ((((((((((Grown.refl w).alloc _ _).alloc _ _).alloc _ _).alloc _ _).alloc _ _).alloc _ _).alloc _ _).alloc _ _).alloc _ _)⟩
  · have EK := hid (show kindOk k = true by simp [kindOk, q1, q3, q5, q0])
    have EH := hid (show kindH k = ⟨⟨#[]⟩, k, 3, R, Bt, Ck, 0, 0, 0, 0⟩ by simp [kindH, kindOk, kMap, q1, q3, q5, q0, HR.out, HB.out, HC.out])
    rw [q1] at Ck1
    rw [q3] at Ck3
    rw [q5] at Ck5
    rw [q0] at CkN
    clear q1 q3 q5 q0
    go_enter Tryz.func49, Tryz.ntmps49
    go_wp2_with fail
    refine (Ck1.out _ _ (by simp)).mono ?_
    rintro e w' ⟨rfl, rfl⟩
    go_wp2_with fail
    refine (Ck3.out _ _ (by simp)).mono ?_
    rintro e w' ⟨rfl, rfl⟩
    go_wp2_with fail
    refine (Ck5.out _ _ (by simp)).mono ?_
    rintro e w' ⟨rfl, rfl⟩
    go_wp2_with fail
    refine (CkN.out _ _ (by simp)).mono ?_
    rintro e w' ⟨rfl, rfl⟩
    go_wp2_with fail
    refine (CkRam.out _ _ (by simp)).mono ?_
    rintro e w' ⟨rfl, rfl⟩
    go_wp2_with fail
    refine (CkBat.out _ _ (by simp)).mono ?_
    rintro e w' ⟨rfl, rfl⟩
    go_wp2_with fail
    refine (CkClk.out _ _ (by simp)).mono ?_
    rintro e w' ⟨rfl, rfl⟩
    go_wp2
    exact bodyPost_ret (v := .tuple #[.agg #[.string ⟨#[]⟩, .int .u8 k, .int .i64 3, .bool R, .bool Bt, .bool Ck, .int .i64 0, .int .i64 0, .int .u8 0, .int .u16 0], .bool true]) (by simp [results, Tryz.results49, go_sem]) rfl ⟨by rw [EK.out, EH.out], ((((((((((Grown.refl w).alloc _ _).alloc _ _).alloc _ _).alloc _ _).alloc _ _).alloc _ _).alloc _ _).alloc _ _).alloc _ _)⟩
  · have EK := hid (show kindOk k = true by simp [kindOk, q1, q3, q5, q0])
    have EH := hid (show kindH k = ⟨⟨#[]⟩, k, 5, R, Bt, Ck, 0, 0, 0, 0⟩ by simp [kindH, kindOk, kMap, q1, q3, q5, q0, HR.out, HB.out, HC.out])
    rw [q1] at Ck1
    rw [q3] at Ck3
    rw [q5] at Ck5
    rw [q0] at CkN
    clear q1 q3 q5 q0
    go_enter Tryz.func49, Tryz.ntmps49
    go_wp2_with fail
    refine (Ck1.out _ _ (by simp)).mono ?_
    rintro e w' ⟨rfl, rfl⟩
    go_wp2_with fail
    refine (Ck3.out _ _ (by simp)).mono ?_
    rintro e w' ⟨rfl, rfl⟩
    go_wp2_with fail
    refine (Ck5.out _ _ (by simp)).mono ?_
    rintro e w' ⟨rfl, rfl⟩
    go_wp2_with fail
    refine (CkN.out _ _ (by simp)).mono ?_
    rintro e w' ⟨rfl, rfl⟩
    go_wp2_with fail
    refine (CkRam.out _ _ (by simp)).mono ?_
    rintro e w' ⟨rfl, rfl⟩
    go_wp2_with fail
    refine (CkBat.out _ _ (by simp)).mono ?_
    rintro e w' ⟨rfl, rfl⟩
    go_wp2_with fail
    refine (CkClk.out _ _ (by simp)).mono ?_
    rintro e w' ⟨rfl, rfl⟩
    go_wp2
    exact bodyPost_ret (v := .tuple #[.agg #[.string ⟨#[]⟩, .int .u8 k, .int .i64 5, .bool R, .bool Bt, .bool Ck, .int .i64 0, .int .i64 0, .int .u8 0, .int .u16 0], .bool true]) (by simp [results, Tryz.results49, go_sem]) rfl ⟨by rw [EK.out, EH.out], ((((((((((Grown.refl w).alloc _ _).alloc _ _).alloc _ _).alloc _ _).alloc _ _).alloc _ _).alloc _ _).alloc _ _).alloc _ _)⟩
  · have EK := hid (show kindOk k = true by simp [kindOk, q1, q3, q5, q0])
    have EH := hid (show kindH k = ⟨⟨#[]⟩, k, 0, R, Bt, Ck, 0, 0, 0, 0⟩ by simp [kindH, kindOk, kMap, q1, q3, q5, q0, HR.out, HB.out, HC.out])
    rw [q1] at Ck1
    rw [q3] at Ck3
    rw [q5] at Ck5
    rw [q0] at CkN
    clear q1 q3 q5 q0
    go_enter Tryz.func49, Tryz.ntmps49
    go_wp2_with fail
    refine (Ck1.out _ _ (by simp)).mono ?_
    rintro e w' ⟨rfl, rfl⟩
    go_wp2_with fail
    refine (Ck3.out _ _ (by simp)).mono ?_
    rintro e w' ⟨rfl, rfl⟩
    go_wp2_with fail
    refine (Ck5.out _ _ (by simp)).mono ?_
    rintro e w' ⟨rfl, rfl⟩
    go_wp2_with fail
    refine (CkN.out _ _ (by simp)).mono ?_
    rintro e w' ⟨rfl, rfl⟩
    go_wp2_with fail
    refine (CkRam.out _ _ (by simp)).mono ?_
    rintro e w' ⟨rfl, rfl⟩
    go_wp2_with fail
    refine (CkBat.out _ _ (by simp)).mono ?_
    rintro e w' ⟨rfl, rfl⟩
    go_wp2_with fail
    refine (CkClk.out _ _ (by simp)).mono ?_
    rintro e w' ⟨rfl, rfl⟩
    go_wp2
    exact bodyPost_ret (v := .tuple #[.agg #[.string ⟨#[]⟩, .int .u8 k, .int .i64 0, .bool R, .bool Bt, .bool Ck, .int .i64 0, .int .i64 0, .int .u8 0, .int .u16 0], .bool true]) (by simp [results, Tryz.results49, go_sem]) rfl ⟨by rw [EK.out, EH.out], ((((((((((Grown.refl w).alloc _ _).alloc _ _).alloc _ _).alloc _ _).alloc _ _).alloc _ _).alloc _ _).alloc _ _).alloc _ _)⟩
  · have EK := hid (show kindOk k = false by simp [kindOk, q1, q3, q5, q0])
    have EH := hid (show kindH k = hd0 by simp [kindH, kindOk, kMap, q1, q3, q5, q0, HR.out, HB.out, HC.out])
    rw [q1] at Ck1
    rw [q3] at Ck3
    rw [q5] at Ck5
    rw [q0] at CkN
    clear q1 q3 q5 q0
    go_enter Tryz.func49, Tryz.ntmps49
    go_wp2_with fail
    refine (Ck1.out _ _ (by simp)).mono ?_
    rintro e w' ⟨rfl, rfl⟩
    go_wp2_with fail
    refine (Ck3.out _ _ (by simp)).mono ?_
    rintro e w' ⟨rfl, rfl⟩
    go_wp2_with fail
    refine (Ck5.out _ _ (by simp)).mono ?_
    rintro e w' ⟨rfl, rfl⟩
    go_wp2_with fail
    refine (CkN.out _ _ (by simp)).mono ?_
    rintro e w' ⟨rfl, rfl⟩
    go_wp2_with fail
    refine (CkRam.out _ _ (by simp)).mono ?_
    rintro e w' ⟨rfl, rfl⟩
    go_wp2_with fail
    refine (CkBat.out _ _ (by simp)).mono ?_
    rintro e w' ⟨rfl, rfl⟩
    go_wp2_with fail
    refine (CkClk.out _ _ (by simp)).mono ?_
    rintro e w' ⟨rfl, rfl⟩
    go_wp2
    exact bodyPost_ret (v := .tuple #[.agg #[.string ⟨#[]⟩, .int .u8 0, .int .i64 0, .bool false, .bool false, .bool false, .int .i64 0, .int .i64 0, .int .u8 0, .int .u16 0], .bool false]) (by simp [results, Tryz.results49, go_sem]) rfl ⟨by rw [EK.out, EH.out]; rfl, ((((((((((Grown.refl w).alloc _ _).alloc _ _).alloc _ _).alloc _ _).alloc _ _).alloc _ _).alloc _ _).alloc _ _).alloc _ _)⟩
end Go.Proofs.YtfmddnekooojkaaGreatDoor
