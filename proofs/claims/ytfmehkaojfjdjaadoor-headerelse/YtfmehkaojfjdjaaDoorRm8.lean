/- What Make of the document's answers of layer 7 comes to, where there is no code. -/
import Derived.Test.YtfmehkaojfjdjaaDoorRm7
namespace Go.Proofs.YtfmehkaojfjdjaaDoor
open Go.RowKit
set_option linter.unusedVariables false
set_option linter.unusedSimpArgs false

set_option maxRecDepth 100000 in
set_option maxHeartbeats 8000000 in
theorem rmake_nil (T : ByteArray) (k r m : Int) (w : World) (k0 : 0 ≤ k) (k1 : k ≤ 255) (r0 : 0 ≤ r) (r1 : r ≤ 8) (m0 : 0 ≤ m) (m1 : m ≤ 5)
    (hT : T.size ≤ 16) (hS : ∀ y ∈ byL T, signB y = true) (hK : kindOk k = true) (hL : 336 ≤ mostOf r) :
    Calls Tryd.prog 17 #[.string T, .int .u8 k, .int .u8 r, .int .u8 m, .slice none 0 0] w fun e w' => ∃ g cp, e = .returned (.tuple #[.slice (some ⟨g, 0, none⟩) 336 cp, .int .i64 0]) ∧ OwnB w' w.heap.size g cp (madeL (byL T) k r m []) ∧ Kept w w' := by
  obtain ⟨i0, hi, hz0, hz1, hz2⟩ := info_parts info7_u8
  have CK := hid (fun u => rkinds_any k u k0 k1)
  rw [hK] at CK
  obtain ⟨MO, hMO⟩ : ∃ v, mostOf r = v := ⟨_, rfl⟩
  have MB : 32768 ≤ MO ∧ MO ≤ 16777216 := by
    rw [← hMO]; exact most_fin ⟨r.toNat, by omega⟩
  obtain ⟨MB0, MB1⟩ := MB
  have CM := hid (fun u => rmost_any r u r0 r1)
  rw [hMO] at CM hL
  clear hMO
  have HS := hid hS
  have r8 : ¬ (8 < r) := by omega
  have m5 : ¬ (5 < m) := by omega
  have hL2 : ¬ (MO - 336 < 0) := by omega
  have hL3 : ¬ (MO < 336) := by omega
  have t16 : ¬ ((16 : Int) < (T.size : Int)) := by omega
  generalize kindH k = H at CK
  clear hS
  go_enter Tryd.func17, Tryd.ntmps17
  go_wp2
  go_loopw [12] (fun i wr => ∃ j : Nat, j ≤ T.size ∧ i = .int .i64 (j : Int) ∧ wr = w) (fun i _ => T.size - (intOf i).toNat)
  case atStart => exact ⟨0, Nat.zero_le _, rfl, rfl⟩
  case round =>
    obtain ⟨j, hj, rfl, rfl⟩ := hrel
    by_cases hlt : j < T.size
    · have hl2 : (j : Int) < (T.size : Int) := by omega
      obtain ⟨y, hy⟩ : ∃ y, (byL T).getD j 0 = y := ⟨_, rfl⟩
      have ix := byL_run T j y hlt hy
      have sy : signB y = true := HS.out y (by
        rw [← hy, List.getD_eq_getElem?_getD, List.getElem?_eq_getElem (by rw [byL_len]; exact hlt)]
        exact List.getElem_mem _)
      have CG := hid (fun u => rsigns_any y u)
      rw [sy] at CG
      clear sy hy
      go_wp2_with (go_at_call 22; refine (CG.out _).mono ?_; rintro e w' ⟨rfl, rfl⟩)
      go_roundw
      case rel => exact ⟨j + 1, by omega, by go_num, by first | rfl | trivial⟩
      case measure => first | omega | (simp; omega) | (simp [intOf]; omega)
    · obtain rfl : j = T.size := by omega
      have hl2 : ¬ ((T.size : Int) < (T.size : Int)) := by omega
      go_wp2_with fail
      refine (CK.out _).mono ?_
      rintro e u1 ⟨rfl, g1⟩
      have K1 := hid (Kept.of g1)
      have s1 : wr.heap.size ≤ u1.heap.size := K1.out.size
      clear g1
      go_wp2_with (first | (go_at_call 21; refine (CM.out _).mono ?_; rintro e w' ⟨rfl, rfl⟩) | (at_make; refine wpList_make_full _ rfl _ _ 22 rfl wr.heap.size 5 i0 (.int .u8 0) 1 Tryd.underlying22 hi hz0 hz1 .i64 .i64 336 336 336 rfl rfl rfl rfl (by rw [hz2]; decide) (by unfold maxLen; decide) (by simp; omega) ?_))
      intro w1 hown hgrow
      have O0 := hid (own_made hown (g2 := u1.heap.size + 1) (by simp))
      have K2 := hid ((K1.out.alloc _).by hgrow (fun k h => by cases h))
      clear hown hgrow
      obtain ⟨g, hg⟩ : ∃ n : Nat, u1.heap.size + 1 = n := ⟨_, rfl⟩
      have gb : wr.heap.size ≤ g := by omega
      rw [hg] at O0
      have zg := (ownB_lt O0.out).2
      have fg := fun o => ownB_froz O0.out o
      have c257 := ownB_cell O0.out 257 (by rw [List.length_replicate]; decide)
      have c258 := ownB_cell O0.out 258 (by rw [List.length_replicate]; decide)
      have c259 := ownB_cell O0.out 259 (by rw [List.length_replicate]; decide)
      have a257 := ownB_add g 257
      have a258 := ownB_add g 258
      have a259 := ownB_add g 259
      go_wp2
      have O1 := hid (ownB_set (ownB_set (ownB_set O0.out 257 195) 258 80) 259 1)
      rw [loop_start (byL T)] at O1
      have K3 := hid (((K2.out.setCell gb 257 (.int .u8 195)).setCell gb 258 (.int .u8 80)).setCell gb 259 (.int .u8 1))
      clear O0 K2 fg c257 c258 c259 a257 a258 a259
      go_loopw [16] (fun i ws => ∃ j : Nat, j ≤ T.size ∧ i = .int .i64 (j : Int) ∧ OwnB ws wr.heap.size g 336 (loopL (byL T) j) ∧ Kept wr ws) (fun i _ => T.size - (intOf i).toNat)
      case atStart => exact ⟨0, Nat.zero_le _, rfl, O1.out, K3.out⟩
      case round =>
        obtain ⟨j, hj2, rfl, ho, hk⟩ := hrel
        have O2 := hid ho
        have K4 := hid hk
        clear ho hk O1 K3
        have zg := (ownB_lt O2.out).2
        have fg := fun o => ownB_froz O2.out o
        by_cases hlt2 : j < T.size
        · have hl3 : (j : Int) < (T.size : Int) := by omega
          obtain ⟨y, hy⟩ : ∃ y, (byL T).getD j 0 = y := ⟨_, rfl⟩
          have ix := byL_run T j y hlt2 hy
          have cj := ownB_cell O2.out (308 + j) (by rw [loopL_len]; omega)
          have aj := ownB_add g (308 + j)
          have b1 : 308 + (j : Int) < 336 := by omega
          have tn : (308 + (j : Int)).toNat = 308 + j := by omega
          have O3 := hid (ownB_set O2.out (308 + j) y)
          rw [← hy, loop_step _ _ (by omega)] at O3
          have K5 := hid (K4.out.setCell gb (308 + j) (.int .u8 y))
          rw [hy] at O3
          clear hy
          go_wp2
          go_roundw
          case rel => exact ⟨j + 1, by omega, by go_num, O3.out, K5.out⟩
          case measure => first | omega | (simp; omega) | (simp [intOf]; omega)
        · obtain rfl : j = T.size := by omega
          have c327 := ownB_cell O2.out 327 (by rw [loopL_len]; decide)
          have c328 := ownB_cell O2.out 328 (by rw [loopL_len]; decide)
          have c329 := ownB_cell O2.out 329 (by rw [loopL_len]; decide)
          have a327 := ownB_add g 327
          have a328 := ownB_add g 328
          have a329 := ownB_add g 329
          have O3 := hid (ownB_set (ownB_set (ownB_set O2.out 327 k) 328 r) 329 m)
          rw [← byL_len, loop_end _ _ _ _ (by rw [byL_len]; exact hT)] at O3
          have K5 := hid (((K4.out.setCell gb 327 (.int .u8 k)).setCell gb 328 (.int .u8 r)).setCell gb 329 (.int .u8 m))
          have CS := hid (rsum_any _ (some ⟨g, 0, none⟩) 336 _ (ownB_row O3.out (head_in _ k r m 0 (byL_in T) ⟨k0, k1⟩ ⟨r0, by omega⟩ ⟨m0, by omega⟩ ⟨by decide, by decide⟩) (by rw [headL_len]; unfold maxLen; decide)))
          rw [headL_len, (head_sumV (byL T) k r m).1, (head_sumV (byL T) k r m).2] at CS
          go_wp2_with fail
          obtain ⟨w3, hw3⟩ : ∃ v, (((wr.setCell ⟨g, 327, none⟩ (.int .u8 k)).setCell ⟨g, 328, none⟩ (.int .u8 r)).setCell ⟨g, 329, none⟩ (.int .u8 m)) = v := ⟨_, rfl⟩
          rw [hw3] at O3 K5 CS ⊢
          clear hw3 c327 c328 c329 a327 a328 a329 O2 K4 fg zg hlt2 hj2
          have zg := (ownB_lt O3.out).2
          have fg := fun o => ownB_froz O3.out o
          have c333 := ownB_cell O3.out 333 (by rw [headL_len]; decide)
          have a333 := ownB_add g 333
          have O4 := hid (ownB_set O3.out 333 (headX (byL T) k r m))
          rw [head_set _ _ _ _ _ _ (by rw [byL_len]; exact hT)] at O4
          have K6 := hid (K5.out.setCell gb 333 (.int .u8 (headX (byL T) k r m)))
          have RI := hid (raw_in (byL T) k r m [] (byL_in T) ⟨k0, k1⟩ ⟨r0, by omega⟩ ⟨m0, by omega⟩ (fun y h => by cases h))
          have z0 := K6.out.size
          have HX := hid (sumTo_bd (headL (byL T) k r m 0) 25)
          obtain ⟨X, hX⟩ : ∃ v, headX (byL T) k r m = v := ⟨_, rfl⟩
          have RL := hid (show headL (byL T) k r m X = rawL (byL T) k r m [] by rw [← hX]; exact (List.append_nil _).symm)
          rw [hX] at O4 K6 CS z0
          have O5 : Hid (OwnB (w3.setCell ⟨g, 333, none⟩ (.int .u8 X)) _ g 336 (headL (byL T) k r m X)) := O4
          unfold OwnB at O5
          rw [headL_len, ← hg] at O5
          clear hX
          refine CS.out.mono ?_
          rintro e w' ⟨rfl, rfl⟩
          go_wp2_with (at_builtin; refine wpList_append_own_none rfl _ _ 22 rfl _ 5 i0 1 Tryd.underlying22 hi _ _ _ rfl (hg ▸ O5.out) rfl ?_)
          have K7 := K6
          have O6 := O4
          rw [RL.out] at O6
          obtain ⟨w4, hw4⟩ : ∃ v, w'.setCell ⟨g, 333, none⟩ (.int .u8 X) = v := ⟨_, rfl⟩
          rw [hw4] at K7 O6
          try rw [hw4]
          have hg2 := hg
          have CW := hid (rwhole_any _ (some ⟨g, 0, none⟩) 336 _ (ownB_row O6.out RI.out (by rw [rawL_len]; unfold maxLen; decide)))
          rw [rawL_len] at CW
          obtain ⟨V0, V1⟩ := wholeTo_bd (rawL (byL T) k r m []) (rawL (byL T) k r m []).length
          have ML := hid (show madeL (byL T) k r m [] = ((rawL (byL T) k r m []).set 334 (wholeOf (rawL (byL T) k r m []) / 256)).set 335 (wholeOf (rawL (byL T) k r m []) % 256) from rfl)
          obtain ⟨V, hV⟩ : ∃ v, wholeOf (rawL (byL T) k r m []) = v := ⟨_, rfl⟩
          have hV2 : wholeTo (rawL (byL T) k r m []) (rawL (byL T) k r m []).length = V := hV
          rw [hV2] at V0 V1
          rw [hV] at CW ML
          clear hV hV2
          have gb2 := (ownB_lt O6.out).1
          have zgg := (ownB_lt O6.out).2
          have fgg := fun o => ownB_froz O6.out o
          have c334 := ownB_cell O6.out 334 (by rw [rawL_len]; decide)
          have c335 := ownB_cell O6.out 335 (by rw [rawL_len]; decide)
          have a334 := ownB_add g 334
          have a335 := ownB_add g 335
          have td : Int.tdiv V 256 = V / 256 := Int.tdiv_eq_ediv_of_nonneg V0
          have tm : Int.tmod V 256 = V % 256 := Int.tmod_eq_emod_of_nonneg V0
          have w6 : IntKind.u16.wrap (V / 256) = V / 256 := by rw [IntKind.wrap_u16]; omega
          have w7 : IntKind.u16.wrap (V % 256) = V % 256 := by rw [IntKind.wrap_u16]; omega
          have w8 : IntKind.u8.wrap (V / 256) = V / 256 := by rw [IntKind.wrap_u8]; omega
          have w9 : IntKind.u8.wrap (V % 256) = V % 256 := by rw [IntKind.wrap_u8]; omega
          have O7 := hid (ownB_set (ownB_set O6.out 334 (V / 256)) 335 (V % 256))
          rw [← ML.out] at O7
          have K8 := hid ((K7.out.setCell gb2 334 (.int .u8 (V / 256))).setCell gb2 335 (.int .u8 (V % 256)))
          clear O3 K5 fg zg c333 a333 K6 O4 O5 CS
          go_wp2_with (go_at_call 15; refine CW.out.mono ?_; rintro e w' ⟨rfl, rfl⟩)
          exact bodyPost_ret (v := .tuple #[.slice (some ⟨g, 0, none⟩) 336 336, .int .i64 0]) (by simp [results, Tryd.results17, go_sem, hg]) rfl ⟨g, 336, rfl, O7.out, K8.out⟩
end Go.Proofs.YtfmehkaojfjdjaaDoor
