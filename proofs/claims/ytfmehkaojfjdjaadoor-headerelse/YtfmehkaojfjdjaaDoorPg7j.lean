/- What lay of the program's layer 7 comes to. -/
import Derived.Test.YtfmehkaojfjdjaaDoorPg7i
namespace Go.Proofs.YtfmehkaojfjdjaaDoor
open Go.RowKit
set_option linter.unusedVariables false
set_option linter.unusedSimpArgs false

theorem own_make {w1 : World} {base g N : Nat} (h : w1.ownsRow base 5 1 (.slice (some ⟨g, 0, none⟩) N N) N (madeCells #[Value.int .u8 0] N).toList) : OwnB w1 base g N (List.replicate N 0) := by
  have e : (madeCells #[Value.int .u8 0] N).toList = (List.replicate N (0 : Int)).map (Value.int .u8) := by
    rw [List.map_replicate]
    simp [madeCells]
    apply List.ext_getElem?
    intro i
    rw [List.getElem?_map, List.getElem?_replicate]
    by_cases hi : i < N
    · rw [List.getElem?_range hi, if_pos hi]; simp [Nat.mod_one]
    · rw [List.getElem?_eq_none (by simp; omega), if_neg hi]; rfl
  rw [e] at h
  unfold OwnB
  rw [List.length_replicate]
  exact h
theorem four_cells (w : World) : ∀ j u, (([0, 195, 80, 1] : List Int).map (Value.int .u8))[j]? = some u → (w.alloc (.cells #[.int .u8 0, .int .u8 195, .int .u8 80, .int .u8 1] 5)).cell? ((⟨w.heap.size, 0, none⟩ : Addr).add j) = some u := by
  intro j u hu
  rw [ownB_add, (has_alloc w #[.int .u8 0, .int .u8 195, .int .u8 80, .int .u8 1] 5).2 j, ← hu]
  simp
theorem ownB_past {w : World} {base g cap : Nat} {L : List Int} (h : OwnB w base g cap L) (o : Obj) : OwnB (w.alloc o) base g cap L := owns_kept ((Kept.refl w).alloc o) h
theorem lay_in (t : List Int) (k r m : Int) (n : Nat) (ht : t.length ≤ 16) (hb : ∀ y ∈ t, InByte y) (hk : InByte k) (hr : InByte r) (hm : InByte m) : ∀ y ∈ layL t k r m n, InByte y := by
  rw [layL_eq t k r m n ht]
  intro y hy
  rcases List.mem_append.1 hy with h | h
  · exact head_in t k r m 0 hb hk hr hm ⟨by decide, by decide⟩ y h
  · obtain ⟨_, rfl⟩ := List.mem_replicate.1 h
    exact ⟨by decide, by decide⟩
theorem layL_len (t : List Int) (k r m : Int) (n : Nat) (ht : t.length ≤ 16) : (layL t k r m n).length = 336 + n := by
  rw [layL_eq t k r m n ht, List.length_append, headL_len, List.length_replicate]
theorem ownB_sum {w : World} {base g cap : Nat} {L : List Int} (h : OwnB w base g cap L) (hb : ∀ x ∈ L, InByte x) (hl : 336 ≤ L.length) (hc : L.length = cap) (hm : cap ≤ maxLen) :
    Calls Tryd.prog 24 #[.slice (some ⟨g, 0, none⟩) cap cap] w fun e w' => e = .returned (.int .u8 (sumOf L)) ∧ w' = w :=
  psum_any L ⟨g, 0, none⟩ cap cap w (by omega) hm (Nat.le_refl _) hm hl (ownB_lt h).2 (fun i hi => ⟨by rw [ownB_add]; exact ownB_cell h i (by omega), by
    rw [List.getD_eq_getElem?_getD, List.getElem?_eq_getElem (by omega)]
    exact hb _ (List.getElem_mem _)⟩)
set_option maxRecDepth 100000 in
set_option maxHeartbeats 8000000 in
theorem play_some (T : ByteArray) (k r m : Int) (c : List Int) (x : Addr) (cap : Nat) (w : World) (row : Row w (some x) c) (h0 : 0 < c.length) (hc : c.length ≤ 16777216) (k0 : 0 ≤ k) (k1 : k ≤ 255) (r0 : 0 ≤ r) (r1 : r ≤ 255) (m0 : 0 ≤ m) (m1 : m ≤ 255) (hT : T.size ≤ 16) :
    Calls Tryd.prog 30 #[.string T, .int .u8 k, .int .u8 r, .int .u8 m, .slice (some x) c.length cap] w fun e w' => ∃ g cp, e = .returned (.slice (some ⟨g, 0, none⟩) (336 + c.length) cp) ∧ OwnB w' w.heap.size g cp (madeL (byL T) k r m c) ∧ Kept w w' := by
  obtain ⟨i0, hi, hz0, hz1, hz2⟩ := info_parts info7_u8
  have HR := hid row
  have HT : Hid ((byL T).length ≤ 16) := hid (by rw [byL_len]; exact hT)
  obtain ⟨n, hn⟩ : ∃ n : Nat, c.length = n := ⟨_, rfl⟩
  have HN := hid hn
  rw [hn] at h0 hc ⊢
  clear row hn
  have wn : IntKind.i64.wrap (336 + (n : Int)) = 336 + (n : Int) := by rw [IntKind.wrap_i64]; omega
  go_enter Tryd.func30, Tryd.ntmps30
  go_wp2_with (at_make; refine wpList_make_full _ rfl _ _ 22 rfl w.heap.size 5 i0 (.int .u8 0) 1 Tryd.underlying22 hi hz0 hz1 .i64 .i64 (336 + (n : Int)) (336 + (n : Int)) (336 + n) rfl rfl (by omega) (by omega) (by rw [hz2]; omega) (by unfold maxLen; omega) (Nat.le_refl _) ?_)
  intro w1 hown hgrow
  have O0 := hid (own_make hown)
  have K0 := hid ((Kept.refl w).by hgrow (fun k h => by cases h))
  clear hown hgrow
  obtain ⟨g, hg⟩ : ∃ g : Nat, w.heap.size = g := ⟨_, rfl⟩
  have gb : w.heap.size ≤ g := by omega
  rw [hg] at O0 ⊢
  obtain ⟨w2, hrun2, o2, k2⟩ := copy_own (ownB_past O0.out (.cells #[.int .u8 0, .int .u8 195, .int .u8 80, .int .u8 1] 5)) (by simp) 256 (336 + n - 256) (336 + n - 256) ⟨w1.heap.size, 0, none⟩ 4 [0, 195, 80, 1] (by simp; omega) (by simp; omega) (four_cells w1) w (K0.out.alloc _) gb
  simp only [List.length_cons, List.length_nil, Nat.zero_add, Nat.reduceAdd] at hrun2
  have O2 := hid o2
  have K2 := hid k2
  clear o2 k2
  obtain ⟨w3, hrun3, o3, k3⟩ := copy_str O2.out (by rw [spl_len _ _ _ (by simp; omega), List.length_replicate]) 308 (336 + n - 308) (336 + n - 308) T (by omega) (by rw [spl_len _ _ _ (by simp; omega), List.length_replicate]; omega) w K2.out gb
  have O4 : Hid (OwnB (((w3.setCell ⟨g, 327, none⟩ (.int .u8 k)).setCell ⟨g, 328, none⟩ (.int .u8 r)).setCell ⟨g, 329, none⟩ (.int .u8 m)) g g (336 + n) (layL (byL T) k r m n)) := hid (ownB_set (ownB_set (ownB_set o3 327 k) 328 r) 329 m)
  have K4 := hid (((k3.setCell gb 327 (.int .u8 k)).setCell gb 328 (.int .u8 r)).setCell gb 329 (.int .u8 m))
  have L3 : Hid ((spl (spl (List.replicate (336 + n) (0 : Int)) 256 [0, 195, 80, 1]) 308 (byL T)).length = 336 + n) := hid (by rw [spl_len _ _ _ (by rw [spl_len _ _ _ (by simp; omega), List.length_replicate, byL_len]; omega), spl_len _ _ _ (by simp; omega), List.length_replicate])
  have zg := (ownB_lt o3).2
  have fg := fun o => ownB_froz o3 o
  have c327 := ownB_cell o3 327 (by rw [L3.out]; omega)
  have c328 := ownB_cell o3 328 (by rw [L3.out]; omega)
  have c329 := ownB_cell o3 329 (by rw [L3.out]; omega)
  have a327 := ownB_add g 327
  have a328 := ownB_add g 328
  have a329 := ownB_add g 329
  have i327 : (327 : Int) < 336 + (n : Int) := by omega
  have i328 : (328 : Int) < 336 + (n : Int) := by omega
  have i329 : (329 : Int) < 336 + (n : Int) := by omega
  have i333 : (333 : Int) < 336 + (n : Int) := by omega
  have i334 : (334 : Int) < 336 + (n : Int) := by omega
  have i335 : (335 : Int) < 336 + (n : Int) := by omega
  have CS := hid (ownB_sum O4.out (lay_in (byL T) k r m n HT.out (byL_in T) ⟨k0, k1⟩ ⟨r0, r1⟩ ⟨m0, m1⟩) (by rw [layL_len _ _ _ _ _ HT.out]; omega) (layL_len _ _ _ _ _ HT.out) (by unfold maxLen; omega))
  rw [lay_sum _ _ _ _ _ HT.out] at CS
  clear o3 k3 O2 K2 O0 K0 L3
  go_wp2_with fail
  refine CS.out.mono ?_
  rintro e w' ⟨rfl, rfl⟩
  obtain ⟨w4, hw4⟩ : ∃ v, (((w3.setCell ⟨g, 327, none⟩ (.int .u8 k)).setCell ⟨g, 328, none⟩ (.int .u8 r)).setCell ⟨g, 329, none⟩ (.int .u8 m)) = v := ⟨_, rfl⟩
  rw [hw4] at O4 K4 ⊢
  clear hw4 CS hrun2 hrun3 fg zg c327 c328 c329 a327 a328 a329 i327 i328 i329
  have O5 := hid (ownB_set O4.out 333 (headX (byL T) k r m))
  have K5 := hid (K4.out.setCell gb 333 (.int .u8 (headX (byL T) k r m)))
  have zg := (ownB_lt O4.out).2
  have fg := fun o => ownB_froz O4.out o
  have c333 := ownB_cell O4.out 333 (by rw [layL_len _ _ _ _ _ HT.out]; omega)
  have a333 := ownB_add g 333
  have LR := hid (lay_raw (byL T) k r m c HT.out)
  rw [HN.out] at LR
  have RI := hid (raw_in (byL T) k r m c (byL_in T) ⟨k0, k1⟩ ⟨r0, r1⟩ ⟨m0, m1⟩ HR.out.2.1)
  obtain ⟨X, hX⟩ : ∃ v, headX (byL T) k r m = v := ⟨_, rfl⟩
  rw [hX] at O5 K5 LR ⊢
  have L5 : Hid (((layL (byL T) k r m n).set 333 X).length = 336 + n) := hid (by rw [List.length_set, layL_len _ _ _ _ _ HT.out])
  obtain ⟨w6, hrun6, o6, k6⟩ := copy_own O5.out L5.out 336 n n x cap c (by rw [HN.out]; exact Nat.le_refl _) (by rw [L5.out, HN.out]; exact Nat.le_refl _) (row_news (row_kept K5.out HR.out)) w K5.out gb
  rw [HN.out] at hrun6
  rw [LR.out] at o6
  have O6 := hid o6
  have K6 := hid k6
  clear hX O4 K4 O5 K5 L5 o6 k6 LR
  have i336 : (336 : Int) ≤ 336 + (n : Int) := by omega
  have j336 : (336 : Int) ≠ 336 + (n : Int) := by omega
  have RL := hid (rawL_len (byL T) k r m c)
  rw [HN.out] at RL
  have CW := hid (pwhole_any _ (some ⟨g, 0, none⟩) (336 + n) _ (ownB_row O6.out RI.out (by rw [RL.out]; unfold maxLen; omega)))
  rw [RL.out] at CW
  go_wp2_with fail
  refine CW.out.mono ?_
  rintro e w' ⟨rfl, rfl⟩
  obtain ⟨V0, V1⟩ := wholeTo_bd (rawL (byL T) k r m c) (rawL (byL T) k r m c).length
  have ML := hid (show madeL (byL T) k r m c = ((rawL (byL T) k r m c).set 334 (wholeOf (rawL (byL T) k r m c) / 256)).set 335 (wholeOf (rawL (byL T) k r m c) % 256) from rfl)
  obtain ⟨V, hV⟩ : ∃ v, wholeOf (rawL (byL T) k r m c) = v := ⟨_, rfl⟩
  have hV2 : wholeTo (rawL (byL T) k r m c) (rawL (byL T) k r m c).length = V := hV
  rw [hV2] at V0 V1
  rw [hV] at ML ⊢
  clear hV hV2 CW
  have zg2 := (ownB_lt O6.out).2
  have fg2 := fun o => ownB_froz O6.out o
  have c334 := ownB_cell O6.out 334 (by rw [RL.out]; omega)
  have c335 := ownB_cell O6.out 335 (by rw [RL.out]; omega)
  have a334 := ownB_add g 334
  have a335 := ownB_add g 335
  have v6 : IntKind.u16.wrap (V / 256) = V / 256 := by rw [IntKind.wrap_u16]; omega
  have w8 : IntKind.u8.wrap (V / 256) = V / 256 := by rw [IntKind.wrap_u8]; omega
  have w9 : IntKind.u8.wrap V = V % 256 := by rw [IntKind.wrap_u8]
  have O7 := hid (ownB_set (ownB_set O6.out 334 (V / 256)) 335 (V % 256))
  rw [← ML.out] at O7
  have K8 := hid ((K6.out.setCell gb 334 (.int .u8 (V / 256))).setCell gb 335 (.int .u8 (V % 256)))
  clear c333 a333 fg zg hrun6
  go_wp2_with fail
  go_ret
  exact ⟨g, 336 + n, rfl, hg ▸ O7.out, K8.out⟩
set_option maxRecDepth 100000 in
set_option maxHeartbeats 8000000 in
theorem play_none (T : ByteArray) (k r m : Int) (a : Option Addr) (cap : Nat) (w : World) (k0 : 0 ≤ k) (k1 : k ≤ 255) (r0 : 0 ≤ r) (r1 : r ≤ 255) (m0 : 0 ≤ m) (m1 : m ≤ 255) (hT : T.size ≤ 16) :
    Calls Tryd.prog 30 #[.string T, .int .u8 k, .int .u8 r, .int .u8 m, .slice a 0 cap] w fun e w' => ∃ g cp, e = .returned (.slice (some ⟨g, 0, none⟩) 336 cp) ∧ OwnB w' w.heap.size g cp (madeL (byL T) k r m []) ∧ Kept w w' := by
  obtain ⟨i0, hi, hz0, hz1, hz2⟩ := info_parts info7_u8
  have HT : Hid ((byL T).length ≤ 16) := hid (by rw [byL_len]; exact hT)
  go_enter Tryd.func30, Tryd.ntmps30
  go_wp2_with (at_make; refine wpList_make_full _ rfl _ _ 22 rfl w.heap.size 5 i0 (.int .u8 0) 1 Tryd.underlying22 hi hz0 hz1 .i64 .i64 336 336 336 rfl rfl rfl rfl (by rw [hz2]; decide) (by unfold maxLen; decide) (Nat.le_refl _) ?_)
  intro w1 hown hgrow
  have O0 := hid (own_make hown)
  have K0 := hid ((Kept.refl w).by hgrow (fun k h => by cases h))
  clear hown hgrow
  obtain ⟨g, hg⟩ : ∃ g : Nat, w.heap.size = g := ⟨_, rfl⟩
  have gb : w.heap.size ≤ g := by omega
  rw [hg] at O0 ⊢
  obtain ⟨w2, hrun2, o2, k2⟩ := copy_own (ownB_past O0.out (.cells #[.int .u8 0, .int .u8 195, .int .u8 80, .int .u8 1] 5)) (by simp) 256 80 80 ⟨w1.heap.size, 0, none⟩ 4 [0, 195, 80, 1] (by simp) (by simp) (four_cells w1) w (K0.out.alloc _) gb
  simp only [List.length_cons, List.length_nil, Nat.zero_add, Nat.reduceAdd] at hrun2
  have O2 := hid o2
  have K2 := hid k2
  clear o2 k2
  obtain ⟨w3, hrun3, o3, k3⟩ := copy_str O2.out (by rw [spl_len _ _ _ (by simp), List.length_replicate]) 308 28 28 T (by omega) (by rw [spl_len _ _ _ (by simp), List.length_replicate]; omega) w K2.out gb
  have O4 : Hid (OwnB (((w3.setCell ⟨g, 327, none⟩ (.int .u8 k)).setCell ⟨g, 328, none⟩ (.int .u8 r)).setCell ⟨g, 329, none⟩ (.int .u8 m)) g g 336 (layL (byL T) k r m 0)) := hid (ownB_set (ownB_set (ownB_set o3 327 k) 328 r) 329 m)
  have K4 := hid (((k3.setCell gb 327 (.int .u8 k)).setCell gb 328 (.int .u8 r)).setCell gb 329 (.int .u8 m))
  have L3 : Hid ((spl (spl (List.replicate 336 (0 : Int)) 256 [0, 195, 80, 1]) 308 (byL T)).length = 336) := hid (by rw [spl_len _ _ _ (by rw [spl_len _ _ _ (by simp), List.length_replicate, byL_len]; omega), spl_len _ _ _ (by simp), List.length_replicate])
  have zg := (ownB_lt o3).2
  have fg := fun o => ownB_froz o3 o
  have c327 := ownB_cell o3 327 (by rw [L3.out]; omega)
  have c328 := ownB_cell o3 328 (by rw [L3.out]; omega)
  have c329 := ownB_cell o3 329 (by rw [L3.out]; omega)
  have a327 := ownB_add g 327
  have a328 := ownB_add g 328
  have a329 := ownB_add g 329
  have i327 : (327 : Int) < 336 := by omega
  have i328 : (328 : Int) < 336 := by omega
  have i329 : (329 : Int) < 336 := by omega
  have i333 : (333 : Int) < 336 := by omega
  have i334 : (334 : Int) < 336 := by omega
  have i335 : (335 : Int) < 336 := by omega
  have CS := hid (ownB_sum O4.out (lay_in (byL T) k r m 0 HT.out (byL_in T) ⟨k0, k1⟩ ⟨r0, r1⟩ ⟨m0, m1⟩) (by rw [layL_len _ _ _ _ _ HT.out]; omega) (layL_len _ _ _ _ _ HT.out) (by unfold maxLen; omega))
  rw [lay_sum _ _ _ _ _ HT.out] at CS
  clear o3 k3 O2 K2 O0 K0 L3
  go_wp2_with fail
  refine CS.out.mono ?_
  rintro e w' ⟨rfl, rfl⟩
  obtain ⟨w4, hw4⟩ : ∃ v, (((w3.setCell ⟨g, 327, none⟩ (.int .u8 k)).setCell ⟨g, 328, none⟩ (.int .u8 r)).setCell ⟨g, 329, none⟩ (.int .u8 m)) = v := ⟨_, rfl⟩
  rw [hw4] at O4 K4 ⊢
  clear hw4 CS hrun2 hrun3 fg zg c327 c328 c329 a327 a328 a329 i327 i328 i329
  have O5 := hid (ownB_set O4.out 333 (headX (byL T) k r m))
  have K5 := hid (K4.out.setCell gb 333 (.int .u8 (headX (byL T) k r m)))
  have zg := (ownB_lt O4.out).2
  have fg := fun o => ownB_froz O4.out o
  have c333 := ownB_cell O4.out 333 (by rw [layL_len _ _ _ _ _ HT.out]; omega)
  have a333 := ownB_add g 333
  have LR := hid (lay_raw0 (byL T) k r m HT.out)
  have RI := hid (raw_in (byL T) k r m [] (byL_in T) ⟨k0, k1⟩ ⟨r0, r1⟩ ⟨m0, m1⟩ (fun y hy => by cases hy))
  obtain ⟨X, hX⟩ : ∃ v, headX (byL T) k r m = v := ⟨_, rfl⟩
  rw [hX] at O5 K5 LR ⊢
  rw [LR.out] at O5
  have O6 := hid O5.out
  have K6 := hid K5.out
  have hrun6 := fun (w : World) (dp : Option Addr) (dCap : Nat) (ty : TypeId) => run_copy_none (P := Tryd.prog) w 22 22 ty 5 dp a 0 dCap 0 cap Tryd.underlying22 (by kernel_rfl) rfl
  clear hX O4 K4 O5 K5 LR
  have i336 : (336 : Int) ≤ 336 := by omega
  have RL := hid (rawL_len (byL T) k r m [])
  simp only [List.length_nil, Nat.add_zero] at RL
  have CW := hid (pwhole_any _ (some ⟨g, 0, none⟩) 336 _ (ownB_row O6.out RI.out (by rw [RL.out]; unfold maxLen; omega)))
  rw [RL.out] at CW
  go_wp2_with fail
  refine CW.out.mono ?_
  rintro e w' ⟨rfl, rfl⟩
  obtain ⟨V0, V1⟩ := wholeTo_bd (rawL (byL T) k r m []) (rawL (byL T) k r m []).length
  have ML := hid (show madeL (byL T) k r m [] = ((rawL (byL T) k r m []).set 334 (wholeOf (rawL (byL T) k r m []) / 256)).set 335 (wholeOf (rawL (byL T) k r m []) % 256) from rfl)
  obtain ⟨V, hV⟩ : ∃ v, wholeOf (rawL (byL T) k r m []) = v := ⟨_, rfl⟩
  have hV2 : wholeTo (rawL (byL T) k r m []) (rawL (byL T) k r m []).length = V := hV
  rw [hV2] at V0 V1
  rw [hV] at ML ⊢
  clear hV hV2 CW
  have zg2 := (ownB_lt O6.out).2
  have fg2 := fun o => ownB_froz O6.out o
  have c334 := ownB_cell O6.out 334 (by rw [RL.out]; omega)
  have c335 := ownB_cell O6.out 335 (by rw [RL.out]; omega)
  have a334 := ownB_add g 334
  have a335 := ownB_add g 335
  have v6 : IntKind.u16.wrap (V / 256) = V / 256 := by rw [IntKind.wrap_u16]; omega
  have w8 : IntKind.u8.wrap (V / 256) = V / 256 := by rw [IntKind.wrap_u8]; omega
  have w9 : IntKind.u8.wrap V = V % 256 := by rw [IntKind.wrap_u8]
  have O7 := hid (ownB_set (ownB_set O6.out 334 (V / 256)) 335 (V % 256))
  rw [← ML.out] at O7
  have K8 := hid ((K6.out.setCell gb 334 (.int .u8 (V / 256))).setCell gb 335 (.int .u8 (V % 256)))
  clear c333 a333 fg zg hrun6
  go_wp2_with fail
  go_ret
  exact ⟨g, 336, rfl, hg ▸ O7.out, K8.out⟩
end Go.Proofs.YtfmehkaojfjdjaaDoor
