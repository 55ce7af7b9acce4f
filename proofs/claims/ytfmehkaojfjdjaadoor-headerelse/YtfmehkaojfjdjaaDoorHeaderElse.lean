/- HeaderElse: whatever bytes come in as an image, a byte that is turned elsewhere than at 308 to 333, and a byte more behind, play no part in what its head says, but for the image's own sum and the length; the law returns true and its arguments stay as they were. Condition: the tables header.kinds and header.ramSizes begin as the program's text lays them (tied card). -/
import Derived.Test.YtfmehkaojfjdjaaDoorRows
import Derived.WalkKit
import Derived.ProofKit
import Derived.OpenShut
import Derived.ShutString
import Derived.ChangeOld
import Derived.Deep.RegionHeld3
import Derived.Deep.DeepCutAuto
import Derived.LaidMore
import Derived.Lay
import Derived.Stop.Joined
import Derived.SevenTiedAt
import Derived.Deep.DeepHandedRow
import Derived.Deep.DeepWitnessRowRef
import Derived.SizedLaws
import Derived.SliceStrings
import Derived.Test.YtfmehkaojfjdjaaDoorCards
import Derived.Test.YtfmehkaojfjdjaaDoorTie
import Derived.Test.YtfmehkaojfjdjaaDoorPg7d
import Derived.Test.YtfmehkaojfjdjaaDoorWish7
import Derived.Test.YtfmehkaojfjdjaaDoorShown7
import Derived.Test.YtfmehkaojfjdjaaDoorH10
namespace Go.Proofs.YtfmehkaojfjdjaaDoor.headerElse
open Go.ChangeShapes Go.WideShapes Go.ChangeAt Go.RowKit
open Go.ChangeMaps (open_string shut_string)
set_option linter.unusedVariables false

theorem own : ownKnob Tryd.prog.godebug = none := by kernel_rfl
theorem laidOut : laidOutB Tryd.prog = true := by kernel_rfl
theorem own_empty (w : World) (base : Nat) (hb : base ≤ w.heap.size) : (w.alloc (.cells #[] 5)).ownsRow base 5 1 (.slice (some ⟨w.heap.size, 0, none⟩) 0 0) 0 ([] : List Value) :=
  ⟨rfl, .inr ⟨w.heap.size, 0, #[], rfl, hb, heap_alloc_new w _, Nat.le_refl _, Nat.zero_le _, rfl, rfl⟩⟩
theorem bank_size (z : List Int) (ok : parseE z = 0) (r0 : 0 ≤ z.getD 328 0) : (parseH z).banks * 16384 = mostOf (z.getD 328 0) ∧ mostOf (z.getD 328 0) ≤ 16777216 ∧ (z.length : Int) ≤ mostOf (z.getD 328 0) := by
  obtain ⟨p1, p2, p3, p4⟩ := parse_size z ok
  have BM := bank_most ⟨(z.getD 328 0).toNat, by omega⟩
  have tn : (((z.getD 328 0).toNat : Nat) : Int) = z.getD 328 0 := by omega
  simp only [tn] at BM
  have MB : 32768 ≤ mostOf (z.getD 328 0) ∧ mostOf (z.getD 328 0) ≤ 16777216 := most_fin ⟨(z.getD 328 0).toNat, by omega⟩
  have e : (parseH z).banks = bankOf (z.getD 328 0) := by unfold parseH; rw [if_pos ok]; rfl
  rw [e]
  exact ⟨by omega, MB.2, p4⟩
theorem parse_whole (z : List Int) (ok : parseE z = 0) : (parseH z).whole = 256 * z.getD 334 0 + z.getD 335 0 := by unfold parseH; rw [if_pos ok]
theorem app_in {Y : List Int} {b : Int} (h : ∀ q ∈ Y, InByte q) (hb : InByte b) : ∀ q ∈ Y ++ [b], InByte q := by
  intro q hq
  rcases List.mem_append.1 hq with k | k
  · exact h q k
  · obtain rfl := List.mem_singleton.1 k
    exact hb

set_option maxRecDepth 100000 in
set_option maxHeartbeats 8000000 in
theorem walk (a0 : Option Addr) (cap0 : Nat) (z0 : List Int) (a1 : Int) (a2 : Int) (w : World) (r0 : Row w a0 z0) (l0 : z0.length ≤ cap0) (m0 : cap0 ≤ maxLen) (b0 : z0.length ≤ 140737488355328) (n0 : a0 = none → cap0 = 0) (w1 : (Lit.int .u16 a1).wf = true) (w2 : (Lit.int .u8 a2).wf = true) (lay : Lay7 w) :
    Calls Tryd.prog 8 #[.slice a0 z0.length cap0, .int .u16 a1, .int .u8 a2] w fun e w' => e = .returned (.bool true) ∧ Kept w w' := by
  have S := hid (shown7 w lay)
  obtain ⟨by0, by1⟩ := bounds_u8 w2
  obtain ⟨at0, at1⟩ := bounds_u16 w1
  have A := hid (fun u (g : Kept w u) => hparse_any z0 a0 cap0 u (lay.kept g) (row_kept g r0) l0 m0)
  have NO := hid (parse_no z0)
  by_cases hE : parseE z0 = 0
  · obtain ⟨len, hsum⟩ := parse_sum z0 hE
    obtain ⟨x, rfl, hx, hc⟩ := row_get r0 (by omega)
    obtain ⟨b1, b2, b3⟩ := bank_size z0 hE (hc 328 (by omega)).2.1
    obtain ⟨i0, hi, hz0, hz1, hz2⟩ := info_parts info7_u8
    have ROW := hid r0
    have LY := hid lay
    have HE := hid hE
    have SAME := hid (fun y h1 h2 => head_same z0 y h1 h2 hE)
    rw [hE] at A
    obtain ⟨n, hn⟩ : ∃ n : Nat, z0.length = n := ⟨_, rfl⟩
    have HN := hid hn
    have n24 : n ≤ 16777216 := by omega
    have hcm : (z0.map (Value.int .u8)).length = n * 1 := by rw [List.length_map, hn, Nat.mul_one]
    have BK := hid b1
    rw [hn] at A len b3 l0 ⊢
    obtain ⟨H, hH⟩ : ∃ v, parseH z0 = v := ⟨_, rfl⟩
    have HH := hid hH
    rw [hH] at A BK
    clear hn hsum hc NO hE hH b1
    go_enter Tryd.func8, Tryd.ntmps8
    go_wp2_with fail
    refine S.out.mono ?_
    rintro e u1 ⟨rfl, k1⟩
    have K1 := hid k1
    clear k1
    go_wp2_with fail
    refine (A.out _ K1.out).mono ?_
    rintro e u2 ⟨rfl, k2⟩
    have K2 := hid ((K1.out.trans k2).alloc (.cells #[.string H.title, .int .u8 H.kind, .int .i64 H.map, .bool H.ram, .bool H.bat, .bool H.clk, .int .i64 H.banks, .int .i64 H.size, .int .u8 H.sum, .int .u16 H.whole] 26))
    have HB := hid (has_alloc u2 #[.string H.title, .int .u8 H.kind, .int .i64 H.map, .bool H.ram, .bool H.bat, .bool H.clk, .int .i64 H.banks, .int .i64 H.size, .int .u8 H.sum, .int .u16 H.whole] 26)
    clear k2
    have O0 := hid (own_empty (u2.alloc (.cells #[.string H.title, .int .u8 H.kind, .int .i64 H.map, .bool H.ram, .bool H.bat, .bool H.clk, .int .i64 H.banks, .int .i64 H.size, .int .u8 H.sum, .int .u16 H.whole] 26)) (u2.heap.size + 1) (by simp))
    simp only [World.size_alloc] at O0
    have RC := hid (row_news (row_kept (K2.out.alloc (.cells #[] 5)) ROW.out))
    have z2 : u2.heap.size + 1 ≤ u2.heap.size + 1 + 1 := by omega
    go_wp2_with (at_builtin; refine wpList_append_own _ rfl _ _ 22 rfl (u2.heap.size + 1) 5 i0 (.int .u8 0) 1 1 Tryd.underlying22 hi hz0 hz1 hz2 rfl (by decide) _ _ _ rfl O0.out x n cap0 (z0.map (Value.int .u8)) rfl hcm RC.out ?c2 ?c3 ?c4 ?c5 ?_)
    case c2 => intro u hu; obtain ⟨q, _, rfl⟩ := List.mem_map.1 hu; rfl
    case c3 => unfold maxLen; omega
    case c4 => omega
    case c5 => simp
    intro v' w4 hown' hgrow _
    have K4 := hid ((K2.out.alloc (.cells #[] 5)).by hgrow (fun k h => by cases h; have := K2.out.size; simp at this; omega))
    have KH := hid (((Kept.refl (u2.alloc (.cells #[.string H.title, .int .u8 H.kind, .int .i64 H.map, .bool H.ram, .bool H.bat, .bool H.clk, .int .i64 H.banks, .int .i64 H.size, .int .u8 H.sum, .int .u16 H.whole] 26))).alloc (.cells #[] 5)).by hgrow (fun k h => by cases h; simp))
    have gw : w.heap.size ≤ u2.heap.size + 1 := by have := K2.out.size; simpa using this
    rw [← HN.out] at hown'
    obtain ⟨g, cp, rfl, O, c1, c2⟩ := own_cases hown' (by rw [HN.out]; omega)
    rw [HN.out] at c1 ⊢
    have gb := (ownB_lt O).1
    have gz := (ownB_lt O).2
    have fg := fun o => ownB_froz O o
    clear hown' hgrow RC O0 z2
    obtain ⟨j, hj⟩ : ∃ j : Nat, Int.tmod a1 (n : Int) = (j : Int) := ⟨(a1 % (n : Int)).toNat, by rw [Int.tmod_eq_emod_of_nonneg at0]; have := Int.emod_nonneg a1 (show (n : Int) ≠ 0 by omega); omega⟩
    have hj2 : j < n := by
      rw [Int.tmod_eq_emod_of_nonneg at0] at hj
      have := Int.emod_lt_of_pos a1 (show (0 : Int) < (n : Int) by omega)
      omega
    have wa : IntKind.i64.wrap a1 = a1 := by rw [IntKind.wrap_i64]; omega
    have wj : IntKind.i64.wrap (j : Int) = (j : Int) := by rw [IntKind.wrap_i64]; omega
    have nz : ¬ ((n : Int) = 0) := by omega
    by_cases j1 : j < 308
    · have d1 : decide (308 ≤ (j : Int)) = false := decide_eq_false (by omega)
      have d2 : ¬ (308 ≤ (j : Int)) := by omega
      have q4 : ((j : Int) == 334) = false := by simp; omega
      have q5 : ((j : Int) == 335) = false := by simp; omega
      have kn : j < n := by omega
      have kq : ¬ (308 ≤ j ∧ j ≤ 333) := by omega
      have ck := ownB_cell O j (by rw [HN.out]; exact kn)
      have ak := ownB_add g j
      have ik : ((j : Nat) : Int) < (n : Int) := by omega
      obtain ⟨y, hy⟩ : ∃ y, z0.getD j 0 = y := ⟨_, rfl⟩
      rw [hy] at ck
      have O3 := hid (ownB_set O j (bits .xor .u8 y a2))
      have K3 := hid (K4.out.setCell (g := g) (by omega) j (.int .u8 (bits .xor .u8 y a2)))
      have KH3 := hid (KH.out.setCell (g := g) (by simp; omega) j (.int .u8 (bits .xor .u8 y a2)))
      obtain ⟨Y, hY⟩ : ∃ v, z0.set j (bits .xor .u8 y a2) = v := ⟨_, rfl⟩
      have YL : Hid (Y.length = n) := hid (by rw [← hY, List.length_set]; exact HN.out)
      have YG : Hid (∀ i, i ≠ j → Y.getD i 0 = z0.getD i 0) := hid (fun i hi => by rw [← hY]; exact getD_set_ne z0 j i _ (fun e => hi e.symm))
      have YI : Hid (∀ q ∈ Y, InByte q) := hid (by rw [← hY]; exact set_in ROW.out.2.1 _ _ (xor_in _ _))
      rw [hY] at O3
      have PE : Hid (parseE Y = 0) := hid ((parse_same z0 Y (YL.out.trans HN.out.symm) (fun i h1 h2 => YG.out i (fun e => kq (by omega)))).trans HE.out)
      have PH := hid (SAME.out Y (YL.out.trans HN.out.symm) (fun i h1 h2 => YG.out i (fun e => kq (by omega))))
      rw [HH.out] at PH
      have WE : 256 * Y.getD 334 0 + Y.getD 335 0 = H.whole := by
        rw [YG.out 334 (by omega), YG.out 335 (by omega), ← HH.out, parse_whole z0 HE.out]
      rw [WE] at PH
      have CP := hid (hparse_any Y (some ⟨g, 0, none⟩) cp _ (LY.out.kept K3.out) (ownB_row O3.out YI.out (by rw [YL.out]; unfold maxLen; omega)) (by rw [YL.out]; omega) c2)
      rw [YL.out, PE.out, PH.out] at CP
      simp only at CP
      have MORE := hid (parse_more Y a2 PE.out)
      have MT := hid (head_more Y a2 PE.out)
      have TB : Hid ((parseH Y).title = H.title ∧ (parseH Y).banks = H.banks) := hid (by rw [PH.out]; exact ⟨rfl, rfl⟩)
      have YM : Hid (mostOf (Y.getD 328 0) = H.banks * 16384) := hid (by rw [YG.out 328 (fun e => kq (by omega))]; exact BK.out.symm)
      rw [YL.out] at MORE
      rw [TB.out.1, TB.out.2] at MT
      clear hY hy O
      clear WE
      go_wp2_with fail
      refine CP.out.mono ?_
      rintro e u3 ⟨rfl, k3⟩
      have K5 := hid ((K3.out.trans k3).alloc (.cells #[.string H.title, .int .u8 H.kind, .int .i64 H.map, .bool H.ram, .bool H.bat, .bool H.clk, .int .i64 H.banks, .int .i64 H.size, .int .u8 H.sum, .int .u16 H.whole] 26))
      have HB3 := has_kept7 (KH3.out.trans k3) (has_alloc u2 #[.string H.title, .int .u8 H.kind, .int .i64 H.map, .bool H.ram, .bool H.bat, .bool H.clk, .int .i64 H.banks, .int .i64 H.size, .int .u8 H.sum, .int .u16 H.whole] 26)
      obtain ⟨zh, ch⟩ := id HB3
      have e0 := ch 0
      have e1 := ch 1
      have e2 := ch 2
      have e3 := ch 3
      have e4 := ch 4
      have e5 := ch 5
      have e6 := ch 6
      have e7 := ch 7
      have e8 := ch 8
      have e9 := ch 9
      simp at e0 e1 e2 e3 e4 e5 e6 e7 e8 e9
      have HB4 := hid HB3
      have zh2 : u2.heap.size ≠ u3.heap.size := by omega
      have zh3 : u3.heap.size ≠ u2.heap.size := by omega
      have zh4 : u2.heap.size < u3.heap.size + 1 := by omega
      have O6 := hid (owns_kept (k3.alloc (.cells #[.string H.title, .int .u8 H.kind, .int .i64 H.map, .bool H.ram, .bool H.bat, .bool H.clk, .int .i64 H.banks, .int .i64 H.size, .int .u8 H.sum, .int .u16 H.whole] 26)) O3.out)
      have K6 := hid ((K3.out.trans k3).alloc (.cells #[.string H.title, .int .u8 H.kind, .int .i64 H.map, .bool H.ram, .bool H.bat, .bool H.clk, .int .i64 H.banks, .int .i64 H.size, .int .u8 H.sum, .int .u16 H.whole] 26))
      have KH6 := hid ((KH3.out.trans k3).alloc (.cells #[.string H.title, .int .u8 H.kind, .int .i64 H.map, .bool H.ram, .bool H.bat, .bool H.clk, .int .i64 H.banks, .int .i64 H.size, .int .u8 H.sum, .int .u16 H.whole] 26))
      have one := hid (row_news (row_one (u3.alloc (.cells #[.string H.title, .int .u8 H.kind, .int .i64 H.map, .bool H.ram, .bool H.bat, .bool H.clk, .int .i64 H.banks, .int .i64 H.size, .int .u8 H.sum, .int .u16 H.whole] 26)) a2 ⟨by0, by1⟩ 5))
      simp only [World.size_alloc] at one
      have O7 := hid (owns_kept ((Kept.refl (u3.alloc (.cells #[.string H.title, .int .u8 H.kind, .int .i64 H.map, .bool H.ram, .bool H.bat, .bool H.clk, .int .i64 H.banks, .int .i64 H.size, .int .u8 H.sum, .int .u16 H.whole] 26))).alloc (.cells #[.int .u8 a2] 5)) O6.out)
      rw [YL.out] at O7
      have z7 := (KH6.out.alloc (.cells #[.int .u8 a2] 5)).size
      clear k3 HB3 ch CP
      go_wp2_with (at_builtin; refine wpList_append_own _ rfl _ _ 22 rfl (u2.heap.size + 1) 5 i0 (.int .u8 0) 1 1 Tryd.underlying22 hi hz0 hz1 hz2 rfl (by decide) _ _ _ rfl O7.out ⟨u3.heap.size + 1, 0, none⟩ 1 1 ([a2].map (Value.int .u8)) rfl (by simp) one.out ?c2 ?c3 ?c4 ?c5 ?_)
      case c2 => intro u hu; obtain ⟨q, _, rfl⟩ := List.mem_map.1 hu; rfl
      case c3 => unfold maxLen; omega
      case c4 => omega
      case c5 => first | (simp; done) | simpa using z7
      intro v6 w6 hown6 hgrow6 _
      have K8 := hid ((K6.out.alloc (.cells #[.int .u8 a2] 5)).by hgrow6 (fun k h => by cases h; show w.heap.size ≤ g; omega))
      have KH8 := hid ((KH6.out.alloc (.cells #[.int .u8 a2] 5)).by hgrow6 (fun k h => by cases h; show _ ≤ g; simp; omega))
      have YA : Hid ((Y ++ [a2]).length = n + 1) := hid (by rw [List.length_append, YL.out]; rfl)
      have hown7 : w6.ownsRow (u2.heap.size + 1) 5 1 v6 (Y ++ [a2]).length ((Y ++ [a2]).map (Value.int .u8)) := by
        rw [YA.out, List.map_append]; exact hown6
      obtain ⟨g6, cp6, rfl, O8, c61, c62⟩ := own_cases hown7 (by rw [YA.out]; omega)
      have CQ := hid (hparse_any (Y ++ [a2]) (some ⟨g6, 0, none⟩) cp6 _ (LY.out.kept K8.out) (ownB_row O8 (app_in YI.out ⟨by0, by1⟩) (by rw [YA.out]; unfold maxLen; omega)) c61 c62)
      rw [YA.out] at CQ c61 ⊢
      clear hown6 hown7 hgrow6 O8 one O7 O6 O3 e0 e1 e2 e3 e4 e5 e6 e7 e8 e9
      rcases MORE.out with m5 | ⟨m5, mq⟩
      · obtain ⟨t5, t6⟩ := MT.out m5
        obtain ⟨H5, hH5⟩ : ∃ v, parseH (Y ++ [a2]) = v := ⟨_, rfl⟩
        rw [hH5] at CQ t5 t6
        rw [m5, t5, t6] at CQ
        clear hH5 t5 t6 m5 MORE MT TB
        go_wp2_with fail
        refine CQ.out.mono ?_
        rintro e u5 ⟨rfl, k5⟩
        have K9 := hid (K8.out.trans k5)
        have HB5 := has_kept7 (KH8.out.trans k5) (has_alloc u2 #[.string H.title, .int .u8 H.kind, .int .i64 H.map, .bool H.ram, .bool H.bat, .bool H.clk, .int .i64 H.banks, .int .i64 H.size, .int .u8 H.sum, .int .u16 H.whole] 26)
        obtain ⟨zi, ci⟩ := id HB5
        have f0 := ci 0
        have f6 := ci 6
        simp at f0 f6
        clear k5 HB5 ci KH8 K8 KH6 K6 CQ
        go_wp2
        go_ret
        exact ⟨rfl, K9.out.alloc _⟩
      · have P5 := parse_no (Y ++ [a2]) (by rw [m5]; decide)
        rw [m5, P5] at CQ
        simp only [hd0] at CQ
        have mq2 : (n : Int) = H.banks * 16384 := mq.trans YM.out
        have wb : IntKind.i64.wrap (H.banks * 16384) = (n : Int) := by rw [← mq2, IntKind.wrap_i64]; omega
        have wb2 : wrap64 (H.banks * 16384) = (n : Int) := by rw [← mq2]; unfold wrap64; omega
        have wb3 : H.banks * 16384 = (n : Int) := mq2.symm
        clear m5 P5 mq mq2 MORE MT TB
        go_wp2_with fail
        refine CQ.out.mono ?_
        rintro e u5 ⟨rfl, k5⟩
        have K9 := hid (K8.out.trans k5)
        have HB5 := has_kept7 (KH8.out.trans k5) (has_alloc u2 #[.string H.title, .int .u8 H.kind, .int .i64 H.map, .bool H.ram, .bool H.bat, .bool H.clk, .int .i64 H.banks, .int .i64 H.size, .int .u8 H.sum, .int .u16 H.whole] 26)
        obtain ⟨zi, ci⟩ := id HB5
        have f0 := ci 0
        have f6 := ci 6
        simp at f0 f6
        clear k5 HB5 ci KH8 K8 KH6 K6 CQ
        go_wp2
        go_ret
        exact ⟨rfl, K9.out.alloc _⟩
    have d1 : decide (308 ≤ (j : Int)) = true := decide_eq_true (by omega)
    have d2 : 308 ≤ (j : Int) := by omega
    by_cases j2 : j ≤ 333
    · have d3 : (j : Int) ≤ 333 := by omega
      have kn : 307 < n := by omega
      have kq : ¬ (308 ≤ 307 ∧ 307 ≤ 333) := by omega
      have ck := ownB_cell O 307 (by rw [HN.out]; exact kn)
      have ak := ownB_add g 307
      have ik : ((307 : Nat) : Int) < (n : Int) := by omega
      obtain ⟨y, hy⟩ : ∃ y, z0.getD 307 0 = y := ⟨_, rfl⟩
      rw [hy] at ck
      have O3 := hid (ownB_set O 307 (bits .xor .u8 y a2))
      have K3 := hid (K4.out.setCell (g := g) (by omega) 307 (.int .u8 (bits .xor .u8 y a2)))
      have KH3 := hid (KH.out.setCell (g := g) (by simp; omega) 307 (.int .u8 (bits .xor .u8 y a2)))
      obtain ⟨Y, hY⟩ : ∃ v, z0.set 307 (bits .xor .u8 y a2) = v := ⟨_, rfl⟩
      have YL : Hid (Y.length = n) := hid (by rw [← hY, List.length_set]; exact HN.out)
      have YG : Hid (∀ i, i ≠ 307 → Y.getD i 0 = z0.getD i 0) := hid (fun i hi => by rw [← hY]; exact getD_set_ne z0 307 i _ (fun e => hi e.symm))
      have YI : Hid (∀ q ∈ Y, InByte q) := hid (by rw [← hY]; exact set_in ROW.out.2.1 _ _ (xor_in _ _))
      rw [hY] at O3
      have PE : Hid (parseE Y = 0) := hid ((parse_same z0 Y (YL.out.trans HN.out.symm) (fun i h1 h2 => YG.out i (fun e => kq (by omega)))).trans HE.out)
      have PH := hid (SAME.out Y (YL.out.trans HN.out.symm) (fun i h1 h2 => YG.out i (fun e => kq (by omega))))
      rw [HH.out] at PH
      have WE : 256 * Y.getD 334 0 + Y.getD 335 0 = H.whole := by
        rw [YG.out 334 (by omega), YG.out 335 (by omega), ← HH.out, parse_whole z0 HE.out]
      rw [WE] at PH
      have CP := hid (hparse_any Y (some ⟨g, 0, none⟩) cp _ (LY.out.kept K3.out) (ownB_row O3.out YI.out (by rw [YL.out]; unfold maxLen; omega)) (by rw [YL.out]; omega) c2)
      rw [YL.out, PE.out, PH.out] at CP
      simp only at CP
      have MORE := hid (parse_more Y a2 PE.out)
      have MT := hid (head_more Y a2 PE.out)
      have TB : Hid ((parseH Y).title = H.title ∧ (parseH Y).banks = H.banks) := hid (by rw [PH.out]; exact ⟨rfl, rfl⟩)
      have YM : Hid (mostOf (Y.getD 328 0) = H.banks * 16384) := hid (by rw [YG.out 328 (fun e => kq (by omega))]; exact BK.out.symm)
      rw [YL.out] at MORE
      rw [TB.out.1, TB.out.2] at MT
      clear hY hy O
      clear WE
      go_wp2_with fail
      refine CP.out.mono ?_
      rintro e u3 ⟨rfl, k3⟩
      have K5 := hid ((K3.out.trans k3).alloc (.cells #[.string H.title, .int .u8 H.kind, .int .i64 H.map, .bool H.ram, .bool H.bat, .bool H.clk, .int .i64 H.banks, .int .i64 H.size, .int .u8 H.sum, .int .u16 H.whole] 26))
      have HB3 := has_kept7 (KH3.out.trans k3) (has_alloc u2 #[.string H.title, .int .u8 H.kind, .int .i64 H.map, .bool H.ram, .bool H.bat, .bool H.clk, .int .i64 H.banks, .int .i64 H.size, .int .u8 H.sum, .int .u16 H.whole] 26)
      obtain ⟨zh, ch⟩ := id HB3
      have e0 := ch 0
      have e1 := ch 1
      have e2 := ch 2
      have e3 := ch 3
      have e4 := ch 4
      have e5 := ch 5
      have e6 := ch 6
      have e7 := ch 7
      have e8 := ch 8
      have e9 := ch 9
      simp at e0 e1 e2 e3 e4 e5 e6 e7 e8 e9
      have HB4 := hid HB3
      have zh2 : u2.heap.size ≠ u3.heap.size := by omega
      have zh3 : u3.heap.size ≠ u2.heap.size := by omega
      have zh4 : u2.heap.size < u3.heap.size + 1 := by omega
      have O6 := hid (owns_kept (k3.alloc (.cells #[.string H.title, .int .u8 H.kind, .int .i64 H.map, .bool H.ram, .bool H.bat, .bool H.clk, .int .i64 H.banks, .int .i64 H.size, .int .u8 H.sum, .int .u16 H.whole] 26)) O3.out)
      have K6 := hid ((K3.out.trans k3).alloc (.cells #[.string H.title, .int .u8 H.kind, .int .i64 H.map, .bool H.ram, .bool H.bat, .bool H.clk, .int .i64 H.banks, .int .i64 H.size, .int .u8 H.sum, .int .u16 H.whole] 26))
      have KH6 := hid ((KH3.out.trans k3).alloc (.cells #[.string H.title, .int .u8 H.kind, .int .i64 H.map, .bool H.ram, .bool H.bat, .bool H.clk, .int .i64 H.banks, .int .i64 H.size, .int .u8 H.sum, .int .u16 H.whole] 26))
      have one := hid (row_news (row_one (u3.alloc (.cells #[.string H.title, .int .u8 H.kind, .int .i64 H.map, .bool H.ram, .bool H.bat, .bool H.clk, .int .i64 H.banks, .int .i64 H.size, .int .u8 H.sum, .int .u16 H.whole] 26)) a2 ⟨by0, by1⟩ 5))
      simp only [World.size_alloc] at one
      have O7 := hid (owns_kept ((Kept.refl (u3.alloc (.cells #[.string H.title, .int .u8 H.kind, .int .i64 H.map, .bool H.ram, .bool H.bat, .bool H.clk, .int .i64 H.banks, .int .i64 H.size, .int .u8 H.sum, .int .u16 H.whole] 26))).alloc (.cells #[.int .u8 a2] 5)) O6.out)
      rw [YL.out] at O7
      have z7 := (KH6.out.alloc (.cells #[.int .u8 a2] 5)).size
      clear k3 HB3 ch CP
      go_wp2_with (at_builtin; refine wpList_append_own _ rfl _ _ 22 rfl (u2.heap.size + 1) 5 i0 (.int .u8 0) 1 1 Tryd.underlying22 hi hz0 hz1 hz2 rfl (by decide) _ _ _ rfl O7.out ⟨u3.heap.size + 1, 0, none⟩ 1 1 ([a2].map (Value.int .u8)) rfl (by simp) one.out ?c2 ?c3 ?c4 ?c5 ?_)
      case c2 => intro u hu; obtain ⟨q, _, rfl⟩ := List.mem_map.1 hu; rfl
      case c3 => unfold maxLen; omega
      case c4 => omega
      case c5 => first | (simp; done) | simpa using z7
      intro v6 w6 hown6 hgrow6 _
      have K8 := hid ((K6.out.alloc (.cells #[.int .u8 a2] 5)).by hgrow6 (fun k h => by cases h; show w.heap.size ≤ g; omega))
      have KH8 := hid ((KH6.out.alloc (.cells #[.int .u8 a2] 5)).by hgrow6 (fun k h => by cases h; show _ ≤ g; simp; omega))
      have YA : Hid ((Y ++ [a2]).length = n + 1) := hid (by rw [List.length_append, YL.out]; rfl)
      have hown7 : w6.ownsRow (u2.heap.size + 1) 5 1 v6 (Y ++ [a2]).length ((Y ++ [a2]).map (Value.int .u8)) := by
        rw [YA.out, List.map_append]; exact hown6
      obtain ⟨g6, cp6, rfl, O8, c61, c62⟩ := own_cases hown7 (by rw [YA.out]; omega)
      have CQ := hid (hparse_any (Y ++ [a2]) (some ⟨g6, 0, none⟩) cp6 _ (LY.out.kept K8.out) (ownB_row O8 (app_in YI.out ⟨by0, by1⟩) (by rw [YA.out]; unfold maxLen; omega)) c61 c62)
      rw [YA.out] at CQ c61 ⊢
      clear hown6 hown7 hgrow6 O8 one O7 O6 O3 e0 e1 e2 e3 e4 e5 e6 e7 e8 e9
      rcases MORE.out with m5 | ⟨m5, mq⟩
      · obtain ⟨t5, t6⟩ := MT.out m5
        obtain ⟨H5, hH5⟩ : ∃ v, parseH (Y ++ [a2]) = v := ⟨_, rfl⟩
        rw [hH5] at CQ t5 t6
        rw [m5, t5, t6] at CQ
        clear hH5 t5 t6 m5 MORE MT TB
        go_wp2_with fail
        refine CQ.out.mono ?_
        rintro e u5 ⟨rfl, k5⟩
        have K9 := hid (K8.out.trans k5)
        have HB5 := has_kept7 (KH8.out.trans k5) (has_alloc u2 #[.string H.title, .int .u8 H.kind, .int .i64 H.map, .bool H.ram, .bool H.bat, .bool H.clk, .int .i64 H.banks, .int .i64 H.size, .int .u8 H.sum, .int .u16 H.whole] 26)
        obtain ⟨zi, ci⟩ := id HB5
        have f0 := ci 0
        have f6 := ci 6
        simp at f0 f6
        clear k5 HB5 ci KH8 K8 KH6 K6 CQ
        go_wp2
        go_ret
        exact ⟨rfl, K9.out.alloc _⟩
      · have P5 := parse_no (Y ++ [a2]) (by rw [m5]; decide)
        rw [m5, P5] at CQ
        simp only [hd0] at CQ
        have mq2 : (n : Int) = H.banks * 16384 := mq.trans YM.out
        have wb : IntKind.i64.wrap (H.banks * 16384) = (n : Int) := by rw [← mq2, IntKind.wrap_i64]; omega
        have wb2 : wrap64 (H.banks * 16384) = (n : Int) := by rw [← mq2]; unfold wrap64; omega
        have wb3 : H.banks * 16384 = (n : Int) := mq2.symm
        clear m5 P5 mq mq2 MORE MT TB
        go_wp2_with fail
        refine CQ.out.mono ?_
        rintro e u5 ⟨rfl, k5⟩
        have K9 := hid (K8.out.trans k5)
        have HB5 := has_kept7 (KH8.out.trans k5) (has_alloc u2 #[.string H.title, .int .u8 H.kind, .int .i64 H.map, .bool H.ram, .bool H.bat, .bool H.clk, .int .i64 H.banks, .int .i64 H.size, .int .u8 H.sum, .int .u16 H.whole] 26)
        obtain ⟨zi, ci⟩ := id HB5
        have f0 := ci 0
        have f6 := ci 6
        simp at f0 f6
        clear k5 HB5 ci KH8 K8 KH6 K6 CQ
        go_wp2
        go_ret
        exact ⟨rfl, K9.out.alloc _⟩
    have d3 : ¬ ((j : Int) ≤ 333) := by omega
    have d4 : decide ((j : Int) ≤ 333) = false := decide_eq_false d3
    by_cases j3 : j = 334
    · subst j3
      have kn : 334 < n := by omega
      have kq : ¬ (308 ≤ 334 ∧ 334 ≤ 333) := by omega
      have ck := ownB_cell O 334 (by rw [HN.out]; exact kn)
      have ak := ownB_add g 334
      have ik : ((334 : Nat) : Int) < (n : Int) := by omega
      obtain ⟨y, hy⟩ : ∃ y, z0.getD 334 0 = y := ⟨_, rfl⟩
      rw [hy] at ck
      have O3 := hid (ownB_set O 334 (bits .xor .u8 y a2))
      have K3 := hid (K4.out.setCell (g := g) (by omega) 334 (.int .u8 (bits .xor .u8 y a2)))
      have KH3 := hid (KH.out.setCell (g := g) (by simp; omega) 334 (.int .u8 (bits .xor .u8 y a2)))
      obtain ⟨Y, hY⟩ : ∃ v, z0.set 334 (bits .xor .u8 y a2) = v := ⟨_, rfl⟩
      have YL : Hid (Y.length = n) := hid (by rw [← hY, List.length_set]; exact HN.out)
      have YG : Hid (∀ i, i ≠ 334 → Y.getD i 0 = z0.getD i 0) := hid (fun i hi => by rw [← hY]; exact getD_set_ne z0 334 i _ (fun e => hi e.symm))
      have YI : Hid (∀ q ∈ Y, InByte q) := hid (by rw [← hY]; exact set_in ROW.out.2.1 _ _ (xor_in _ _))
      rw [hY] at O3
      have PE : Hid (parseE Y = 0) := hid ((parse_same z0 Y (YL.out.trans HN.out.symm) (fun i h1 h2 => YG.out i (fun e => kq (by omega)))).trans HE.out)
      have PH := hid (SAME.out Y (YL.out.trans HN.out.symm) (fun i h1 h2 => YG.out i (fun e => kq (by omega))))
      rw [HH.out] at PH
      obtain ⟨WY, hWY⟩ : ∃ v, 256 * Y.getD 334 0 + Y.getD 335 0 = v := ⟨_, rfl⟩
      rw [hWY] at PH
      have CP := hid (hparse_any Y (some ⟨g, 0, none⟩) cp _ (LY.out.kept K3.out) (ownB_row O3.out YI.out (by rw [YL.out]; unfold maxLen; omega)) (by rw [YL.out]; omega) c2)
      rw [YL.out, PE.out, PH.out] at CP
      simp only at CP
      have MORE := hid (parse_more Y a2 PE.out)
      have MT := hid (head_more Y a2 PE.out)
      have TB : Hid ((parseH Y).title = H.title ∧ (parseH Y).banks = H.banks) := hid (by rw [PH.out]; exact ⟨rfl, rfl⟩)
      have YM : Hid (mostOf (Y.getD 328 0) = H.banks * 16384) := hid (by rw [YG.out 328 (fun e => kq (by omega))]; exact BK.out.symm)
      rw [YL.out] at MORE
      rw [TB.out.1, TB.out.2] at MT
      clear hY hy O
      go_wp2_with fail
      refine CP.out.mono ?_
      rintro e u3 ⟨rfl, k3⟩
      have K5 := hid ((K3.out.trans k3).alloc (.cells #[.string H.title, .int .u8 H.kind, .int .i64 H.map, .bool H.ram, .bool H.bat, .bool H.clk, .int .i64 H.banks, .int .i64 H.size, .int .u8 H.sum, .int .u16 WY] 26))
      have HB3 := has_kept7 (KH3.out.trans k3) (has_alloc u2 #[.string H.title, .int .u8 H.kind, .int .i64 H.map, .bool H.ram, .bool H.bat, .bool H.clk, .int .i64 H.banks, .int .i64 H.size, .int .u8 H.sum, .int .u16 H.whole] 26)
      obtain ⟨zh, ch⟩ := id HB3
      have e0 := ch 0
      have e1 := ch 1
      have e2 := ch 2
      have e3 := ch 3
      have e4 := ch 4
      have e5 := ch 5
      have e6 := ch 6
      have e7 := ch 7
      have e8 := ch 8
      have e9 := ch 9
      simp at e0 e1 e2 e3 e4 e5 e6 e7 e8 e9
      have HB4 := hid HB3
      have zh2 : u2.heap.size ≠ u3.heap.size := by omega
      have zh3 : u3.heap.size ≠ u2.heap.size := by omega
      have zh4 : u2.heap.size < u3.heap.size + 1 := by omega
      have O6 := hid (owns_kept (k3.alloc (.cells #[.string H.title, .int .u8 H.kind, .int .i64 H.map, .bool H.ram, .bool H.bat, .bool H.clk, .int .i64 H.banks, .int .i64 H.size, .int .u8 H.sum, .int .u16 H.whole] 26)) O3.out)
      have K6 := hid ((K3.out.trans k3).alloc (.cells #[.string H.title, .int .u8 H.kind, .int .i64 H.map, .bool H.ram, .bool H.bat, .bool H.clk, .int .i64 H.banks, .int .i64 H.size, .int .u8 H.sum, .int .u16 H.whole] 26))
      have KH6 := hid ((KH3.out.trans k3).alloc (.cells #[.string H.title, .int .u8 H.kind, .int .i64 H.map, .bool H.ram, .bool H.bat, .bool H.clk, .int .i64 H.banks, .int .i64 H.size, .int .u8 H.sum, .int .u16 H.whole] 26))
      have one := hid (row_news (row_one (u3.alloc (.cells #[.string H.title, .int .u8 H.kind, .int .i64 H.map, .bool H.ram, .bool H.bat, .bool H.clk, .int .i64 H.banks, .int .i64 H.size, .int .u8 H.sum, .int .u16 H.whole] 26)) a2 ⟨by0, by1⟩ 5))
      simp only [World.size_alloc] at one
      have O7 := hid (owns_kept ((Kept.refl (u3.alloc (.cells #[.string H.title, .int .u8 H.kind, .int .i64 H.map, .bool H.ram, .bool H.bat, .bool H.clk, .int .i64 H.banks, .int .i64 H.size, .int .u8 H.sum, .int .u16 H.whole] 26))).alloc (.cells #[.int .u8 a2] 5)) O6.out)
      rw [YL.out] at O7
      have z7 := (KH6.out.alloc (.cells #[.int .u8 a2] 5)).size
      clear k3 HB3 ch CP
      go_wp2_with (at_builtin; refine wpList_append_own _ rfl _ _ 22 rfl (u2.heap.size + 1) 5 i0 (.int .u8 0) 1 1 Tryd.underlying22 hi hz0 hz1 hz2 rfl (by decide) _ _ _ rfl O7.out ⟨u3.heap.size + 1, 0, none⟩ 1 1 ([a2].map (Value.int .u8)) rfl (by simp) one.out ?c2 ?c3 ?c4 ?c5 ?_)
      case c2 => intro u hu; obtain ⟨q, _, rfl⟩ := List.mem_map.1 hu; rfl
      case c3 => unfold maxLen; omega
      case c4 => omega
      case c5 => first | (simp; done) | simpa using z7
      intro v6 w6 hown6 hgrow6 _
      have K8 := hid ((K6.out.alloc (.cells #[.int .u8 a2] 5)).by hgrow6 (fun k h => by cases h; show w.heap.size ≤ g; omega))
      have KH8 := hid ((KH6.out.alloc (.cells #[.int .u8 a2] 5)).by hgrow6 (fun k h => by cases h; show _ ≤ g; simp; omega))
      have YA : Hid ((Y ++ [a2]).length = n + 1) := hid (by rw [List.length_append, YL.out]; rfl)
      have hown7 : w6.ownsRow (u2.heap.size + 1) 5 1 v6 (Y ++ [a2]).length ((Y ++ [a2]).map (Value.int .u8)) := by
        rw [YA.out, List.map_append]; exact hown6
      obtain ⟨g6, cp6, rfl, O8, c61, c62⟩ := own_cases hown7 (by rw [YA.out]; omega)
      have CQ := hid (hparse_any (Y ++ [a2]) (some ⟨g6, 0, none⟩) cp6 _ (LY.out.kept K8.out) (ownB_row O8 (app_in YI.out ⟨by0, by1⟩) (by rw [YA.out]; unfold maxLen; omega)) c61 c62)
      rw [YA.out] at CQ c61 ⊢
      clear hown6 hown7 hgrow6 O8 one O7 O6 O3 e0 e1 e2 e3 e4 e5 e6 e7 e8 e9
      rcases MORE.out with m5 | ⟨m5, mq⟩
      · obtain ⟨t5, t6⟩ := MT.out m5
        obtain ⟨H5, hH5⟩ : ∃ v, parseH (Y ++ [a2]) = v := ⟨_, rfl⟩
        rw [hH5] at CQ t5 t6
        rw [m5, t5, t6] at CQ
        clear hH5 t5 t6 m5 MORE MT TB
        go_wp2_with fail
        refine CQ.out.mono ?_
        rintro e u5 ⟨rfl, k5⟩
        have K9 := hid (K8.out.trans k5)
        have HB5 := has_kept7 (KH8.out.trans k5) (has_alloc u2 #[.string H.title, .int .u8 H.kind, .int .i64 H.map, .bool H.ram, .bool H.bat, .bool H.clk, .int .i64 H.banks, .int .i64 H.size, .int .u8 H.sum, .int .u16 H.whole] 26)
        obtain ⟨zi, ci⟩ := id HB5
        have f0 := ci 0
        have f6 := ci 6
        simp at f0 f6
        clear k5 HB5 ci KH8 K8 KH6 K6 CQ
        go_wp2
        go_ret
        exact ⟨rfl, K9.out.alloc _⟩
      · have P5 := parse_no (Y ++ [a2]) (by rw [m5]; decide)
        rw [m5, P5] at CQ
        simp only [hd0] at CQ
        have mq2 : (n : Int) = H.banks * 16384 := mq.trans YM.out
        have wb : IntKind.i64.wrap (H.banks * 16384) = (n : Int) := by rw [← mq2, IntKind.wrap_i64]; omega
        have wb2 : wrap64 (H.banks * 16384) = (n : Int) := by rw [← mq2]; unfold wrap64; omega
        have wb3 : H.banks * 16384 = (n : Int) := mq2.symm
        clear m5 P5 mq mq2 MORE MT TB
        go_wp2_with fail
        refine CQ.out.mono ?_
        rintro e u5 ⟨rfl, k5⟩
        have K9 := hid (K8.out.trans k5)
        have HB5 := has_kept7 (KH8.out.trans k5) (has_alloc u2 #[.string H.title, .int .u8 H.kind, .int .i64 H.map, .bool H.ram, .bool H.bat, .bool H.clk, .int .i64 H.banks, .int .i64 H.size, .int .u8 H.sum, .int .u16 H.whole] 26)
        obtain ⟨zi, ci⟩ := id HB5
        have f0 := ci 0
        have f6 := ci 6
        simp at f0 f6
        clear k5 HB5 ci KH8 K8 KH6 K6 CQ
        go_wp2
        go_ret
        exact ⟨rfl, K9.out.alloc _⟩
    by_cases j4 : j = 335
    · subst j4
      have kn : 335 < n := by omega
      have kq : ¬ (308 ≤ 335 ∧ 335 ≤ 333) := by omega
      have ck := ownB_cell O 335 (by rw [HN.out]; exact kn)
      have ak := ownB_add g 335
      have ik : ((335 : Nat) : Int) < (n : Int) := by omega
      obtain ⟨y, hy⟩ : ∃ y, z0.getD 335 0 = y := ⟨_, rfl⟩
      rw [hy] at ck
      have O3 := hid (ownB_set O 335 (bits .xor .u8 y a2))
      have K3 := hid (K4.out.setCell (g := g) (by omega) 335 (.int .u8 (bits .xor .u8 y a2)))
      have KH3 := hid (KH.out.setCell (g := g) (by simp; omega) 335 (.int .u8 (bits .xor .u8 y a2)))
      obtain ⟨Y, hY⟩ : ∃ v, z0.set 335 (bits .xor .u8 y a2) = v := ⟨_, rfl⟩
      have YL : Hid (Y.length = n) := hid (by rw [← hY, List.length_set]; exact HN.out)
      have YG : Hid (∀ i, i ≠ 335 → Y.getD i 0 = z0.getD i 0) := hid (fun i hi => by rw [← hY]; exact getD_set_ne z0 335 i _ (fun e => hi e.symm))
      have YI : Hid (∀ q ∈ Y, InByte q) := hid (by rw [← hY]; exact set_in ROW.out.2.1 _ _ (xor_in _ _))
      rw [hY] at O3
      have PE : Hid (parseE Y = 0) := hid ((parse_same z0 Y (YL.out.trans HN.out.symm) (fun i h1 h2 => YG.out i (fun e => kq (by omega)))).trans HE.out)
      have PH := hid (SAME.out Y (YL.out.trans HN.out.symm) (fun i h1 h2 => YG.out i (fun e => kq (by omega))))
      rw [HH.out] at PH
      obtain ⟨WY, hWY⟩ : ∃ v, 256 * Y.getD 334 0 + Y.getD 335 0 = v := ⟨_, rfl⟩
      rw [hWY] at PH
      have CP := hid (hparse_any Y (some ⟨g, 0, none⟩) cp _ (LY.out.kept K3.out) (ownB_row O3.out YI.out (by rw [YL.out]; unfold maxLen; omega)) (by rw [YL.out]; omega) c2)
      rw [YL.out, PE.out, PH.out] at CP
      simp only at CP
      have MORE := hid (parse_more Y a2 PE.out)
      have MT := hid (head_more Y a2 PE.out)
      have TB : Hid ((parseH Y).title = H.title ∧ (parseH Y).banks = H.banks) := hid (by rw [PH.out]; exact ⟨rfl, rfl⟩)
      have YM : Hid (mostOf (Y.getD 328 0) = H.banks * 16384) := hid (by rw [YG.out 328 (fun e => kq (by omega))]; exact BK.out.symm)
      rw [YL.out] at MORE
      rw [TB.out.1, TB.out.2] at MT
      clear hY hy O
      go_wp2_with fail
      refine CP.out.mono ?_
      rintro e u3 ⟨rfl, k3⟩
      have K5 := hid ((K3.out.trans k3).alloc (.cells #[.string H.title, .int .u8 H.kind, .int .i64 H.map, .bool H.ram, .bool H.bat, .bool H.clk, .int .i64 H.banks, .int .i64 H.size, .int .u8 H.sum, .int .u16 WY] 26))
      have HB3 := has_kept7 (KH3.out.trans k3) (has_alloc u2 #[.string H.title, .int .u8 H.kind, .int .i64 H.map, .bool H.ram, .bool H.bat, .bool H.clk, .int .i64 H.banks, .int .i64 H.size, .int .u8 H.sum, .int .u16 H.whole] 26)
      obtain ⟨zh, ch⟩ := id HB3
      have e0 := ch 0
      have e1 := ch 1
      have e2 := ch 2
      have e3 := ch 3
      have e4 := ch 4
      have e5 := ch 5
      have e6 := ch 6
      have e7 := ch 7
      have e8 := ch 8
      have e9 := ch 9
      simp at e0 e1 e2 e3 e4 e5 e6 e7 e8 e9
      have HB4 := hid HB3
      have zh2 : u2.heap.size ≠ u3.heap.size := by omega
      have zh3 : u3.heap.size ≠ u2.heap.size := by omega
      have zh4 : u2.heap.size < u3.heap.size + 1 := by omega
      have O6 := hid (owns_kept (k3.alloc (.cells #[.string H.title, .int .u8 H.kind, .int .i64 H.map, .bool H.ram, .bool H.bat, .bool H.clk, .int .i64 H.banks, .int .i64 H.size, .int .u8 H.sum, .int .u16 H.whole] 26)) O3.out)
      have K6 := hid ((K3.out.trans k3).alloc (.cells #[.string H.title, .int .u8 H.kind, .int .i64 H.map, .bool H.ram, .bool H.bat, .bool H.clk, .int .i64 H.banks, .int .i64 H.size, .int .u8 H.sum, .int .u16 H.whole] 26))
      have KH6 := hid ((KH3.out.trans k3).alloc (.cells #[.string H.title, .int .u8 H.kind, .int .i64 H.map, .bool H.ram, .bool H.bat, .bool H.clk, .int .i64 H.banks, .int .i64 H.size, .int .u8 H.sum, .int .u16 H.whole] 26))
      have one := hid (row_news (row_one (u3.alloc (.cells #[.string H.title, .int .u8 H.kind, .int .i64 H.map, .bool H.ram, .bool H.bat, .bool H.clk, .int .i64 H.banks, .int .i64 H.size, .int .u8 H.sum, .int .u16 H.whole] 26)) a2 ⟨by0, by1⟩ 5))
      simp only [World.size_alloc] at one
      have O7 := hid (owns_kept ((Kept.refl (u3.alloc (.cells #[.string H.title, .int .u8 H.kind, .int .i64 H.map, .bool H.ram, .bool H.bat, .bool H.clk, .int .i64 H.banks, .int .i64 H.size, .int .u8 H.sum, .int .u16 H.whole] 26))).alloc (.cells #[.int .u8 a2] 5)) O6.out)
      rw [YL.out] at O7
      have z7 := (KH6.out.alloc (.cells #[.int .u8 a2] 5)).size
      clear k3 HB3 ch CP
      go_wp2_with (at_builtin; refine wpList_append_own _ rfl _ _ 22 rfl (u2.heap.size + 1) 5 i0 (.int .u8 0) 1 1 Tryd.underlying22 hi hz0 hz1 hz2 rfl (by decide) _ _ _ rfl O7.out ⟨u3.heap.size + 1, 0, none⟩ 1 1 ([a2].map (Value.int .u8)) rfl (by simp) one.out ?c2 ?c3 ?c4 ?c5 ?_)
      case c2 => intro u hu; obtain ⟨q, _, rfl⟩ := List.mem_map.1 hu; rfl
      case c3 => unfold maxLen; omega
      case c4 => omega
      case c5 => first | (simp; done) | simpa using z7
      intro v6 w6 hown6 hgrow6 _
      have K8 := hid ((K6.out.alloc (.cells #[.int .u8 a2] 5)).by hgrow6 (fun k h => by cases h; show w.heap.size ≤ g; omega))
      have KH8 := hid ((KH6.out.alloc (.cells #[.int .u8 a2] 5)).by hgrow6 (fun k h => by cases h; show _ ≤ g; simp; omega))
      have YA : Hid ((Y ++ [a2]).length = n + 1) := hid (by rw [List.length_append, YL.out]; rfl)
      have hown7 : w6.ownsRow (u2.heap.size + 1) 5 1 v6 (Y ++ [a2]).length ((Y ++ [a2]).map (Value.int .u8)) := by
        rw [YA.out, List.map_append]; exact hown6
      obtain ⟨g6, cp6, rfl, O8, c61, c62⟩ := own_cases hown7 (by rw [YA.out]; omega)
      have CQ := hid (hparse_any (Y ++ [a2]) (some ⟨g6, 0, none⟩) cp6 _ (LY.out.kept K8.out) (ownB_row O8 (app_in YI.out ⟨by0, by1⟩) (by rw [YA.out]; unfold maxLen; omega)) c61 c62)
      rw [YA.out] at CQ c61 ⊢
      clear hown6 hown7 hgrow6 O8 one O7 O6 O3 e0 e1 e2 e3 e4 e5 e6 e7 e8 e9
      rcases MORE.out with m5 | ⟨m5, mq⟩
      · obtain ⟨t5, t6⟩ := MT.out m5
        obtain ⟨H5, hH5⟩ : ∃ v, parseH (Y ++ [a2]) = v := ⟨_, rfl⟩
        rw [hH5] at CQ t5 t6
        rw [m5, t5, t6] at CQ
        clear hH5 t5 t6 m5 MORE MT TB
        go_wp2_with fail
        refine CQ.out.mono ?_
        rintro e u5 ⟨rfl, k5⟩
        have K9 := hid (K8.out.trans k5)
        have HB5 := has_kept7 (KH8.out.trans k5) (has_alloc u2 #[.string H.title, .int .u8 H.kind, .int .i64 H.map, .bool H.ram, .bool H.bat, .bool H.clk, .int .i64 H.banks, .int .i64 H.size, .int .u8 H.sum, .int .u16 H.whole] 26)
        obtain ⟨zi, ci⟩ := id HB5
        have f0 := ci 0
        have f6 := ci 6
        simp at f0 f6
        clear k5 HB5 ci KH8 K8 KH6 K6 CQ
        go_wp2
        go_ret
        exact ⟨rfl, K9.out.alloc _⟩
      · have P5 := parse_no (Y ++ [a2]) (by rw [m5]; decide)
        rw [m5, P5] at CQ
        simp only [hd0] at CQ
        have mq2 : (n : Int) = H.banks * 16384 := mq.trans YM.out
        have wb : IntKind.i64.wrap (H.banks * 16384) = (n : Int) := by rw [← mq2, IntKind.wrap_i64]; omega
        have wb2 : wrap64 (H.banks * 16384) = (n : Int) := by rw [← mq2]; unfold wrap64; omega
        have wb3 : H.banks * 16384 = (n : Int) := mq2.symm
        clear m5 P5 mq mq2 MORE MT TB
        go_wp2_with fail
        refine CQ.out.mono ?_
        rintro e u5 ⟨rfl, k5⟩
        have K9 := hid (K8.out.trans k5)
        have HB5 := has_kept7 (KH8.out.trans k5) (has_alloc u2 #[.string H.title, .int .u8 H.kind, .int .i64 H.map, .bool H.ram, .bool H.bat, .bool H.clk, .int .i64 H.banks, .int .i64 H.size, .int .u8 H.sum, .int .u16 H.whole] 26)
        obtain ⟨zi, ci⟩ := id HB5
        have f0 := ci 0
        have f6 := ci 6
        simp at f0 f6
        clear k5 HB5 ci KH8 K8 KH6 K6 CQ
        go_wp2
        go_ret
        exact ⟨rfl, K9.out.alloc _⟩
    have q4 : ((j : Int) == 334) = false := by simp; omega
    have q5 : ((j : Int) == 335) = false := by simp; omega
    have kn : j < n := by omega
    have kq : ¬ (308 ≤ j ∧ j ≤ 333) := by omega
    have ck := ownB_cell O j (by rw [HN.out]; exact kn)
    have ak := ownB_add g j
    have ik : ((j : Nat) : Int) < (n : Int) := by omega
    obtain ⟨y, hy⟩ : ∃ y, z0.getD j 0 = y := ⟨_, rfl⟩
    rw [hy] at ck
    have O3 := hid (ownB_set O j (bits .xor .u8 y a2))
    have K3 := hid (K4.out.setCell (g := g) (by omega) j (.int .u8 (bits .xor .u8 y a2)))
    have KH3 := hid (KH.out.setCell (g := g) (by simp; omega) j (.int .u8 (bits .xor .u8 y a2)))
    obtain ⟨Y, hY⟩ : ∃ v, z0.set j (bits .xor .u8 y a2) = v := ⟨_, rfl⟩
    have YL : Hid (Y.length = n) := hid (by rw [← hY, List.length_set]; exact HN.out)
    have YG : Hid (∀ i, i ≠ j → Y.getD i 0 = z0.getD i 0) := hid (fun i hi => by rw [← hY]; exact getD_set_ne z0 j i _ (fun e => hi e.symm))
    have YI : Hid (∀ q ∈ Y, InByte q) := hid (by rw [← hY]; exact set_in ROW.out.2.1 _ _ (xor_in _ _))
    rw [hY] at O3
    have PE : Hid (parseE Y = 0) := hid ((parse_same z0 Y (YL.out.trans HN.out.symm) (fun i h1 h2 => YG.out i (fun e => kq (by omega)))).trans HE.out)
    have PH := hid (SAME.out Y (YL.out.trans HN.out.symm) (fun i h1 h2 => YG.out i (fun e => kq (by omega))))
    rw [HH.out] at PH
    have WE : 256 * Y.getD 334 0 + Y.getD 335 0 = H.whole := by
      rw [YG.out 334 (by omega), YG.out 335 (by omega), ← HH.out, parse_whole z0 HE.out]
    rw [WE] at PH
    have CP := hid (hparse_any Y (some ⟨g, 0, none⟩) cp _ (LY.out.kept K3.out) (ownB_row O3.out YI.out (by rw [YL.out]; unfold maxLen; omega)) (by rw [YL.out]; omega) c2)
    rw [YL.out, PE.out, PH.out] at CP
    simp only at CP
    have MORE := hid (parse_more Y a2 PE.out)
    have MT := hid (head_more Y a2 PE.out)
    have TB : Hid ((parseH Y).title = H.title ∧ (parseH Y).banks = H.banks) := hid (by rw [PH.out]; exact ⟨rfl, rfl⟩)
    have YM : Hid (mostOf (Y.getD 328 0) = H.banks * 16384) := hid (by rw [YG.out 328 (fun e => kq (by omega))]; exact BK.out.symm)
    rw [YL.out] at MORE
    rw [TB.out.1, TB.out.2] at MT
    clear hY hy O
    clear WE
    go_wp2_with fail
    refine CP.out.mono ?_
    rintro e u3 ⟨rfl, k3⟩
    have K5 := hid ((K3.out.trans k3).alloc (.cells #[.string H.title, .int .u8 H.kind, .int .i64 H.map, .bool H.ram, .bool H.bat, .bool H.clk, .int .i64 H.banks, .int .i64 H.size, .int .u8 H.sum, .int .u16 H.whole] 26))
    have HB3 := has_kept7 (KH3.out.trans k3) (has_alloc u2 #[.string H.title, .int .u8 H.kind, .int .i64 H.map, .bool H.ram, .bool H.bat, .bool H.clk, .int .i64 H.banks, .int .i64 H.size, .int .u8 H.sum, .int .u16 H.whole] 26)
    obtain ⟨zh, ch⟩ := id HB3
    have e0 := ch 0
    have e1 := ch 1
    have e2 := ch 2
    have e3 := ch 3
    have e4 := ch 4
    have e5 := ch 5
    have e6 := ch 6
    have e7 := ch 7
    have e8 := ch 8
    have e9 := ch 9
    simp at e0 e1 e2 e3 e4 e5 e6 e7 e8 e9
    have HB4 := hid HB3
    have zh2 : u2.heap.size ≠ u3.heap.size := by omega
    have zh3 : u3.heap.size ≠ u2.heap.size := by omega
    have zh4 : u2.heap.size < u3.heap.size + 1 := by omega
    have O6 := hid (owns_kept (k3.alloc (.cells #[.string H.title, .int .u8 H.kind, .int .i64 H.map, .bool H.ram, .bool H.bat, .bool H.clk, .int .i64 H.banks, .int .i64 H.size, .int .u8 H.sum, .int .u16 H.whole] 26)) O3.out)
    have K6 := hid ((K3.out.trans k3).alloc (.cells #[.string H.title, .int .u8 H.kind, .int .i64 H.map, .bool H.ram, .bool H.bat, .bool H.clk, .int .i64 H.banks, .int .i64 H.size, .int .u8 H.sum, .int .u16 H.whole] 26))
    have KH6 := hid ((KH3.out.trans k3).alloc (.cells #[.string H.title, .int .u8 H.kind, .int .i64 H.map, .bool H.ram, .bool H.bat, .bool H.clk, .int .i64 H.banks, .int .i64 H.size, .int .u8 H.sum, .int .u16 H.whole] 26))
    have one := hid (row_news (row_one (u3.alloc (.cells #[.string H.title, .int .u8 H.kind, .int .i64 H.map, .bool H.ram, .bool H.bat, .bool H.clk, .int .i64 H.banks, .int .i64 H.size, .int .u8 H.sum, .int .u16 H.whole] 26)) a2 ⟨by0, by1⟩ 5))
    simp only [World.size_alloc] at one
    have O7 := hid (owns_kept ((Kept.refl (u3.alloc (.cells #[.string H.title, .int .u8 H.kind, .int .i64 H.map, .bool H.ram, .bool H.bat, .bool H.clk, .int .i64 H.banks, .int .i64 H.size, .int .u8 H.sum, .int .u16 H.whole] 26))).alloc (.cells #[.int .u8 a2] 5)) O6.out)
    rw [YL.out] at O7
    have z7 := (KH6.out.alloc (.cells #[.int .u8 a2] 5)).size
    clear k3 HB3 ch CP
    go_wp2_with (at_builtin; refine wpList_append_own _ rfl _ _ 22 rfl (u2.heap.size + 1) 5 i0 (.int .u8 0) 1 1 Tryd.underlying22 hi hz0 hz1 hz2 rfl (by decide) _ _ _ rfl O7.out ⟨u3.heap.size + 1, 0, none⟩ 1 1 ([a2].map (Value.int .u8)) rfl (by simp) one.out ?c2 ?c3 ?c4 ?c5 ?_)
    case c2 => intro u hu; obtain ⟨q, _, rfl⟩ := List.mem_map.1 hu; rfl
    case c3 => unfold maxLen; omega
    case c4 => omega
    case c5 => first | (simp; done) | simpa using z7
    intro v6 w6 hown6 hgrow6 _
    have K8 := hid ((K6.out.alloc (.cells #[.int .u8 a2] 5)).by hgrow6 (fun k h => by cases h; show w.heap.size ≤ g; omega))
    have KH8 := hid ((KH6.out.alloc (.cells #[.int .u8 a2] 5)).by hgrow6 (fun k h => by cases h; show _ ≤ g; simp; omega))
    have YA : Hid ((Y ++ [a2]).length = n + 1) := hid (by rw [List.length_append, YL.out]; rfl)
    have hown7 : w6.ownsRow (u2.heap.size + 1) 5 1 v6 (Y ++ [a2]).length ((Y ++ [a2]).map (Value.int .u8)) := by
      rw [YA.out, List.map_append]; exact hown6
    obtain ⟨g6, cp6, rfl, O8, c61, c62⟩ := own_cases hown7 (by rw [YA.out]; omega)
    have CQ := hid (hparse_any (Y ++ [a2]) (some ⟨g6, 0, none⟩) cp6 _ (LY.out.kept K8.out) (ownB_row O8 (app_in YI.out ⟨by0, by1⟩) (by rw [YA.out]; unfold maxLen; omega)) c61 c62)
    rw [YA.out] at CQ c61 ⊢
    clear hown6 hown7 hgrow6 O8 one O7 O6 O3 e0 e1 e2 e3 e4 e5 e6 e7 e8 e9
    rcases MORE.out with m5 | ⟨m5, mq⟩
    · obtain ⟨t5, t6⟩ := MT.out m5
      obtain ⟨H5, hH5⟩ : ∃ v, parseH (Y ++ [a2]) = v := ⟨_, rfl⟩
      rw [hH5] at CQ t5 t6
      rw [m5, t5, t6] at CQ
      clear hH5 t5 t6 m5 MORE MT TB
      go_wp2_with fail
      refine CQ.out.mono ?_
      rintro e u5 ⟨rfl, k5⟩
      have K9 := hid (K8.out.trans k5)
      have HB5 := has_kept7 (KH8.out.trans k5) (has_alloc u2 #[.string H.title, .int .u8 H.kind, .int .i64 H.map, .bool H.ram, .bool H.bat, .bool H.clk, .int .i64 H.banks, .int .i64 H.size, .int .u8 H.sum, .int .u16 H.whole] 26)
      obtain ⟨zi, ci⟩ := id HB5
      have f0 := ci 0
      have f6 := ci 6
      simp at f0 f6
      clear k5 HB5 ci KH8 K8 KH6 K6 CQ
      go_wp2
      go_ret
      exact ⟨rfl, K9.out.alloc _⟩
    · have P5 := parse_no (Y ++ [a2]) (by rw [m5]; decide)
      rw [m5, P5] at CQ
      simp only [hd0] at CQ
      have mq2 : (n : Int) = H.banks * 16384 := mq.trans YM.out
      have wb : IntKind.i64.wrap (H.banks * 16384) = (n : Int) := by rw [← mq2, IntKind.wrap_i64]; omega
      have wb2 : wrap64 (H.banks * 16384) = (n : Int) := by rw [← mq2]; unfold wrap64; omega
      have wb3 : H.banks * 16384 = (n : Int) := mq2.symm
      clear m5 P5 mq mq2 MORE MT TB
      go_wp2_with fail
      refine CQ.out.mono ?_
      rintro e u5 ⟨rfl, k5⟩
      have K9 := hid (K8.out.trans k5)
      have HB5 := has_kept7 (KH8.out.trans k5) (has_alloc u2 #[.string H.title, .int .u8 H.kind, .int .i64 H.map, .bool H.ram, .bool H.bat, .bool H.clk, .int .i64 H.banks, .int .i64 H.size, .int .u8 H.sum, .int .u16 H.whole] 26)
      obtain ⟨zi, ci⟩ := id HB5
      have f0 := ci 0
      have f6 := ci 6
      simp at f0 f6
      clear k5 HB5 ci KH8 K8 KH6 K6 CQ
      go_wp2
      go_ret
      exact ⟨rfl, K9.out.alloc _⟩
  · obtain h := NO.out hE
    rw [h] at A
    simp only [hd0] at A
    generalize parseE z0 = E at *
    have nb : (E != 0) = true := by simpa using hE
    clear NO h
    go_enter Tryd.func8, Tryd.ntmps8
    go_wp2_with fail
    refine S.out.mono ?_
    rintro e u1 ⟨rfl, k1⟩
    have K1 := hid k1
    clear k1
    go_wp2_with fail
    refine (A.out _ K1.out).mono ?_
    rintro e u2 ⟨rfl, k2⟩
    have K2 := hid (K1.out.trans k2)
    clear k2
    go_wp2
    go_ret
    exact ⟨rfl, K2.out.alloc _⟩

set_option maxRecDepth 100000 in
theorem contract (H : Type) (enc : TypeId × Value → H) (fi : Stop.Interp) (W : World) (base : Nat) (args : Array Value) (ds gs : List (DataW H)) (before : List MemPlace)
    (hval : ∀ (j : Nat) t v, Tryd.f8.params[j]? = some t → args[j]? = some v → Value.okWide Tryd.prog W .any base t v)
    (hW : DataW.Whole enc Tryd.prog Tryd.f8.params.toList (OpenSpec.ofChange Rows.headerElseSpec).vars false W args.toList ds gs before)
    (hk0 : ∀ k, (OpenSpec.ofChange Rows.headerElseSpec).cond = some k → k H (ds ++ gs) = true)
    (hsz0 : (DataW.weightsEach Tryd.prog (Tryd.f8.params.toList ++ (OpenSpec.ofChange Rows.headerElseSpec).bare.plain.varTypes Tryd.prog) (ds ++ gs)).all (· ≤ reachBytes) = true) (hL : laidMetH Tryd.prog Rows.headerElseRow.laid W) :
    Calls Tryd.prog 8 args W fun e W' => ∃ v, e = .returned v ∧ ((OpenSpec.ofChange Rows.headerElseSpec).at fi).post enc Tryd.prog Tryd.f8 false true false false W args v W' := by
  have hW' := hW
  obtain ⟨p, q, hA0, hV, rfl, hfz, hnd⟩ := hW
  have hA : DataW.TrodAll enc Tryd.prog W 0 (fun _ => true) true Tryd.f8.params.toList args.toList ds p := hA0
  rw [Tryd.params8] at hA hval
  obtain ⟨v0, vs0, d0, ds0, p0, q0, hargs, rfl, rfl, h0, r0x⟩ := trodAll_cons hA
  obtain ⟨v1, vs1, d1, ds1, p1, q1, rfl, rfl, rfl, h1, r1x⟩ := trodAll_cons r0x
  obtain ⟨v2, vs2, d2, ds2, p2, q2, rfl, rfl, rfl, h2, r2x⟩ := trodAll_cons r1x
  obtain ⟨rfl, rfl, rfl⟩ := trodAll_nil r2x
  obtain rfl : args = #[v0, v1, v2] := by cases args; simp_all
  obtain ⟨rfl, rfl⟩ := trodVars_none hV
  have hsz : (DataW.weightsEach Tryd.prog [22, 24, 5] [d0, d1, d2]).all (· ≤ reachBytes) = true := by
    have q := hsz0
    rw [show Tryd.f8.params.toList ++ (OpenSpec.ofChange Rows.headerElseSpec).bare.plain.varTypes Tryd.prog = [22, 24, 5] by kernel_rfl] at q
    simpa using q
  obtain ⟨a0, len0, cap0, rfl⟩ := okWide_slice Tryd.underlying22 (hval 0 22 v0 rfl rfl)
  have k0 := h0
  have lt0 : ∀ x ∈ p0, x.block < W.heap.size := by obtain ⟨m, hm⟩ := k0; exact DataW.trod_lt m _ _ _ hm
  obtain ⟨z0, rfl, r0, l0, m0, b0, n0⟩ : ∃ zs : List Int, len0 = zs.length ∧ Row W a0 zs ∧ zs.length ≤ cap0 ∧ cap0 ≤ maxLen ∧ zs.length ≤ 140737488355328 ∧ (a0 = none → cap0 = 0) := by
    obtain ⟨fuel, hf⟩ := h0
    rcases open_ints Tryd.underlying22 Tryd.underlying5 (by kernel_rfl) hf with ⟨hcs, hx⟩ | ⟨x, l, c, zs, hcs, hb, hl, hm, hz, hx, hcell, hwz⟩
    · simp [Value.cells] at hcs
      obtain ⟨rfl, rfl, rfl⟩ := hcs
      exact ⟨[], rfl, row_nil7 W none, by simp, by simp, by simp, fun _ => rfl⟩
    · simp [Value.cells] at hcs
      obtain ⟨rfl, rfl, rfl⟩ := hcs
      simp only [if_true] at hz
      obtain ⟨hd, hp⟩ := Prod.mk.inj hx
      have tk : (zs.take len0).length = len0 := by rw [List.length_take, hz]; omega
      have sz := sized_slice (j := 0) (t := 22) (e := 5) hsz rfl (by rw [hd]; rfl) Tryd.underlying22
      rw [show Tryd.prog.bytesOf 5 = 1 by kernel_rfl] at sz
      have rl : reachBytes = 140737488351232 := rfl
      simp only [lits, List.length_map, tk] at sz
      refine ⟨zs.take len0, tk.symm, row_of7 (by omega) hcell (fun z hz => bounds_u8 (hwz z hz)) (by omega), by omega, hm, by omega, fun e => by cases e⟩

  obtain ⟨a1, rfl, rfl, rfl, w1⟩ := open_int Tryd.underlying24 (hval 1 24 v1 rfl rfl) h1
  obtain ⟨a2, rfl, rfl, rfl, w2⟩ := open_int Tryd.underlying5 (hval 2 5 v2 rfl rfl) h2
  clear hA0
  refine (walk a0 cap0 z0 a1 a2 W r0 l0 m0 b0 n0 w1 w2 (of_laid hL)).mono fun e W' ⟨he, hg⟩ => ?_
  subst he
  exact ⟨_, rfl, _, _, _, [], _, [], hW', trodAll_mk1 (shut_bool Tryd.underlying4 _), (trodAll_cons_mk (Kept.trod laidOut (by kernel_rfl) (of_decide_eq_true (by kernel_rfl)) k0 hg lt0) (trodAll_cons_mk (shut_int Tryd.underlying24 w1) (trodAll_cons_mk (shut_int Tryd.underlying5 w2) trodAll_mk0))), rfl, hg.frame _, fun h => by cases h⟩
theorem reads (os : Os) {H : Type} (enc : TypeId × Value → H) : ∃ places, DataW.whole enc Tryd.prog ((World.laidAll Tryd.prog os Rows.headerParsesRow.laid).forCall (fun _ _ => 0) ⟨#[], #[.slice none 0 0, .int .u16 0, .int .u8 0], []⟩).memory Tryd.f8.params.toList (OpenSpec.ofChange Rows.headerElseSpec).vars false #[.slice none 0 0, .int .u16 0, .int .u8 0].toList 8 = some ([.nil, .lit (.int .u16 0), .lit (.int .u8 0)], [], places) :=
  ⟨[], by kernel_rfl⟩
set_option maxRecDepth 100000 in
theorem lifted (os : Os) (started : os.Started) (H : Type) (enc : TypeId × Value → H) (fi : Stop.Interp) :
    ReturnsInHanded {} Tryd.checked os 8 .any ((OpenSpec.ofChange Rows.headerElseSpec).preRow enc Tryd.prog Tryd.f8 Rows.headerElseRow.domain false Rows.headerElseRow.laid) (((OpenSpec.ofChange Rows.headerElseSpec).at fi).post enc Tryd.prog Tryd.f8 false true false false) := by
  obtain ⟨places, hx⟩ := reads os enc
  refine returnsInHanded_of_row (C := Tryd.checked) (s := (OpenSpec.ofChange Rows.headerElseSpec)) own started (by kernel_rfl) Tryd.func8
    (witness_row_atRef (enc := enc) (C := Tryd.checked) false (World.laidAll Tryd.prog os Rows.headerParsesRow.laid) #[.slice none 0 0, .int .u16 0, .int .u8 0] (World.laidAll_os _ _ _) (by kernel_rfl) (by kernel_rfl) (by kernel_rfl)
      (OpenSpec.preRow_of_cond 8 hx (by kernel_rfl) (fun k hk => by cases hk) (by kernel_rfl) (start_met os _))) ?_
  intro W base args ds gs before hval hW _ hk hsz hL _ _
  exact contract H enc fi W base args ds gs before hval hW hk hsz hL
theorem said : Rows.HeaderElseSaid :=
  OpenClaim.holds_of_cond 8 Tryd.f8 rfl rfl rfl rfl rfl rfl rfl ⟨rfl, rfl, rfl, rfl, rfl⟩ rfl rfl rfl rfl rfl (by kernel_rfl) Tryd.func8 (by kernel_rfl)
    (of_decide_eq_true (by kernel_rfl)) (by unfold Func.isWrapper; first | (rw [if_pos (by decide +kernel)]; kernel_rfl) | (rw [if_neg (by decide +kernel)]; exact ⟨rfl, rfl⟩))
    (fun os started H enc _ fi => by rw [OpenClaim.pre_eq_preRow]; exact lifted os started H enc fi)
theorem plain (f : FuncId) (fn : Func) (hf : Tryd.pinned.checked.prog.funcNamed Rows.headerElseRow.func = some f) (hfn : Tryd.pinned.checked.prog.funcs[f]? = some fn) :
    true = Tryd.pinned.checked.prog.looks [] ∧ ∀ (j : Nat) t, fn.params[j]? = some t → Tryd.pinned.checked.prog.wantsStandIn t = false := by
  obtain rfl : f = 8 := Option.some.inj ((show Tryd.prog.funcNamed Rows.headerElseRow.func = some 8 by kernel_rfl).symm.trans hf) |>.symm
  obtain rfl : fn = Tryd.f8 := (Option.some.inj (Tryd.func8.symm.trans hfn)).symm
  refine ⟨by kernel_rfl, fun j t ht => ?_⟩
  rw [Tryd.params8] at ht
  have hm : t ∈ [22, 24, 5] := by simpa using Array.mem_of_getElem? ht
  have hall : ([22, 24, 5].all fun u => !Tryd.prog.wantsStandIn u) = true := by kernel_rfl
  exact (show Tryd.prog.wantsStandIn t = false by simpa using List.all_eq_true.1 hall t hm)
theorem card : Rows.HeaderElseCardSaid :=
  Claim7.holds_tied_plain_at .later [] _ _ _ _ said (fun _ h => by cases h) (by kernel_rfl) (fun _ h => by cases h) headerElse_row_tie rfl ⟨rfl, rfl⟩ (by kernel_rfl) rfl plain (by kernel_rfl)
end Go.Proofs.YtfmehkaojfjdjaaDoor.headerElse
namespace Go.Proofs.YtfmehkaojfjdjaaDoor
theorem headerElse_holds : Rows.HeaderElseCardSaid := headerElse.card
end Go.Proofs.YtfmehkaojfjdjaaDoor
