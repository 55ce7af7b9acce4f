/- What Make of the document's answers of layer 7 comes to. -/
import Derived.Test.YtfmehkaojfjdjaaDoorRp7
import Derived.Test.YtfmehkaojfjdjaaDoorMk7
namespace Go.Proofs.YtfmehkaojfjdjaaDoor
open Go.RowKit
set_option linter.unusedVariables false
set_option linter.unusedSimpArgs false

theorem info7_u8 : (Tryd.prog.info? 5).map (fun i => (i.zero, i.size, i.bytes)) = some (some (.int .u8 0), 1, 1) := by kernel_rfl
def byL (s : ByteArray) : List Int := s.data.toList.map (fun b => (b.toNat : Int))
theorem byL_len (s : ByteArray) : (byL s).length = s.size := by simp [byL]
theorem byL_in (s : ByteArray) : ∀ x ∈ byL s, InByte x := by
  intro x hx
  obtain ⟨b, _, rfl⟩ := List.mem_map.1 hx
  have := b.toNat_lt
  exact ⟨by omega, by omega⟩
theorem byL_get (s : ByteArray) (k : Nat) (h : k < s.size) : (byL s).getD k 0 = ((s[k]'h).toNat : Int) := by
  have h2 : k < s.data.toList.length := by simpa using h
  unfold byL
  rw [List.getD_eq_getElem?_getD, List.getElem?_map, List.getElem?_eq_getElem h2]
  rfl
theorem byL_run (s : ByteArray) (k : Nat) (c : Int) (h : k < s.size) (e : (byL s).getD k 0 = c) : ∀ u, (Instr.index 9 (.string s) (.int .i64 (k : Int))).run Tryd.prog u = .ok (.int .u8 c) u := by
  intro u
  rw [run_index_string u 9 s .i64 (k : Int) (by kernel_rfl), dif_pos ⟨by omega, by omega⟩, ← e, byL_get s k h]
  rfl
theorem own_made {w1 : World} {base g g2 : Nat} (h : w1.ownsRow base 5 1 (.slice (some ⟨g, 0, none⟩) 336 336) 336 (madeCells (Value.int .u8 0).cells (336 * 1)).toList) (e : g = g2) : OwnB w1 base g2 336 (List.replicate 336 0) := by
  subst e
  rw [made_zero] at h
  unfold OwnB
  rw [List.length_replicate]
  exact h
theorem ownB_froz {w : World} {base g cap : Nat} {L : List Int} (h : OwnB w base g cap L) (o : Nat) : w.frozen? ⟨g, o, none⟩ = false := h.frozenAt o
theorem loopL_get (t : List Int) (k i : Nat) (h : i < 336) : (loopL t k).getD i 0 = loopF t k i := by
  unfold loopL
  rw [List.getD_eq_getElem?_getD, List.getElem?_map, List.getElem?_range h]; rfl
theorem row_news {w : World} {x : Addr} {c : List Int} (h : Row w (some x) c) : ∀ j u, (c.map (Value.int .u8))[j]? = some u → w.cell? (x.add j) = some u := by
  intro j u hu
  rw [List.getElem?_map] at hu
  rcases h.2.2 with h3 | ⟨y, e, hy, hc⟩
  · rw [h3] at hu; simp at hu
  · obtain rfl : x = y := Option.some.inj e
    by_cases hj : j < c.length
    · rw [hc j hj, ← hu, List.getD_eq_getElem?_getD, List.getElem?_eq_getElem hj]; rfl
    · rw [List.getElem?_eq_none (by omega)] at hu; cases hu
theorem head_in (t : List Int) (k r m x : Int) (ht : ∀ y ∈ t, InByte y) (hk : InByte k) (hr : InByte r) (hm : InByte m) (hx : InByte x) : ∀ y ∈ headL t k r m x, InByte y := by
  intro y hy
  obtain ⟨i, hi, rfl⟩ := List.mem_map.1 hy
  unfold headF
  have q : ∀ n, InByte (t.getD n 0) := fun n => by
    rw [List.getD_eq_getElem?_getD]
    by_cases h : n < t.length
    · rw [List.getElem?_eq_getElem h]; exact ht _ (List.getElem_mem h)
    · rw [List.getElem?_eq_none (by omega)]; exact ⟨by decide, by decide⟩
  repeat' split
  all_goals first | exact q _ | assumption | exact ⟨by decide, by decide⟩
theorem raw_in (t : List Int) (k r m : Int) (c : List Int) (ht : ∀ y ∈ t, InByte y) (hk : InByte k) (hr : InByte r) (hm : InByte m) (hc : ∀ y ∈ c, InByte y) : ∀ y ∈ rawL t k r m c, InByte y := by
  intro y hy
  rcases List.mem_append.1 hy with h | h
  · exact head_in t k r m _ ht hk hr hm (sumTo_bd _ 25) y h
  · exact hc y h
theorem head_sumV (t : List Int) (k r m : Int) : sumV (headL t k r m 0) = headX t k r m ∧ sumE (headL t k r m 0) = 0 := by
  unfold sumV sumE
  rw [headL_len, if_neg (by decide), if_neg (by decide)]
  exact ⟨rfl, rfl⟩
theorem own_form7 {w : World} {base : Nat} {e : TypeId} {v : Value} {n : Nat} {xs : List Value} (o : w.ownsRow base e 1 v n xs) (hn : 1 ≤ n) : ∃ g cap, v = .slice (some ⟨g, 0, none⟩) n cap ∧ ∀ j u, xs[j]? = some u → w.cell? ((⟨g, 0, none⟩ : Addr).add j) = some u := by
  rcases id o.2 with ⟨_, h⟩ | ⟨g, cap, cur, e1, _⟩
  · omega
  · exact ⟨g, cap, e1, o.cells (by rw [e1]; rfl)⟩
theorem own_app {w : World} {base g cp a b : Nat} {A C L : List Int} (o : w.ownsRow base 5 1 (.slice (some ⟨g, 0, none⟩) (a + b) cp) (a + b) (A.map (Value.int .u8) ++ C.map (Value.int .u8))) (e : A ++ C = L) (ha : A.length = a) (hc : C.length = b) : OwnB w base g cp L := by
  subst e ha hc
  unfold OwnB
  rw [List.length_append, List.map_append]
  exact o
set_option maxRecDepth 100000 in
set_option maxHeartbeats 8000000 in
theorem rmake_ok (T : ByteArray) (k r m : Int) (c : List Int) (x : Addr) (cap : Nat) (w : World) (row : Row w (some x) c) (k0 : 0 ≤ k) (k1 : k ≤ 255) (r0 : 0 ≤ r) (r1 : r ≤ 8) (m0 : 0 ≤ m) (m1 : m ≤ 5)
    (hT : T.size ≤ 16) (hS : ∀ y ∈ byL T, signB y = true) (hK : kindOk k = true) (hL : (c.length : Int) ≤ mostOf r - 336) :
    Calls Tryd.prog 17 #[.string T, .int .u8 k, .int .u8 r, .int .u8 m, .slice (some x) c.length cap] w fun e w' => ∃ g cp, e = .returned (.tuple #[.slice (some ⟨g, 0, none⟩) (336 + c.length) cp, .int .i64 0]) ∧ OwnB w' w.heap.size g cp (madeL (byL T) k r m c) ∧ Kept w w' := by
  obtain ⟨i0, hi, hz0, hz1, hz2⟩ := info_parts info7_u8
  have CK := hid (fun u => rkinds_any k u k0 k1)
  rw [hK] at CK
  obtain ⟨MO, hMO⟩ : ∃ v, mostOf r = v := ⟨_, rfl⟩
  have MB : 32768 ≤ MO ∧ MO ≤ 16777216 := by
    rw [← hMO]; exact most_fin ⟨r.toNat, by omega⟩
  obtain ⟨MB0, MB1⟩ := MB
  have CM := hid (fun u => rmost_any r u r0 r1)
  rw [hMO] at CM hL
  clear hMO
  have HS := hid hS
  have HR := hid row
  have r8 : ¬ (8 < r) := by omega
  have m5 : ¬ (5 < m) := by omega
  obtain ⟨LC, hLC⟩ : ∃ n : Nat, c.length = n := ⟨_, rfl⟩
  have HLC := hid hLC
  rw [hLC] at hL ⊢
  have hL2 : ¬ (MO - 336 < (LC : Int)) := by omega
  have t16 : ¬ ((16 : Int) < (T.size : Int)) := by omega
  generalize kindH k = H at CK
  clear hS row hLC
  go_enter Tryd.func17, Tryd.ntmps17
  go_wp2
  go_loopw [12] (fun i wr => ∃ j : Nat, j ≤ T.size ∧ i = .int .i64 (j : Int) ∧ wr = w) (fun i _ => T.size - (intOf i).toNat)
  case atStart => exact ⟨0, Nat.zero_le _, rfl, rfl⟩
  case round =>
    obtain ⟨j, hj, rfl, rfl⟩ := hrel
    by_cases hlt : j < T.size
    · have hl2 : (j : Int) < (T.size : Int) := by omega
      obtain ⟨y, hy⟩ : ∃ y, (byL T).getD j 0 = y := ⟨_, rfl⟩
      have ix := byL_run T j y hlt hy
      have sy : signB y = true := HS.out y (by
        rw [← hy, List.getD_eq_getElem?_getD, List.getElem?_eq_getElem (by rw [byL_len]; exact hlt)]
        exact List.getElem_mem _)
      have CG := hid (fun u => rsigns_any y u)
      rw [sy] at CG
      clear sy hy
      go_wp2_with (go_at_call 22; refine (CG.out _).mono ?_; rintro e w' ⟨rfl, rfl⟩)
      go_roundw
      case rel => exact ⟨j + 1, by omega, by go_num, by first | rfl | trivial⟩
      case measure => first | omega | (simp; omega) | (simp [intOf]; omega)
    · obtain rfl : j = T.size := by omega
      have hl2 : ¬ ((T.size : Int) < (T.size : Int)) := by omega
      go_wp2_with fail
      refine (CK.out _).mono ?_
      rintro e u1 ⟨rfl, g1⟩
      have K1 := hid (Kept.of g1)
      have s1 : wr.heap.size ≤ u1.heap.size := K1.out.size
      clear g1
      go_wp2_with (first | (go_at_call 21; refine (CM.out _).mono ?_; rintro e w' ⟨rfl, rfl⟩) | (at_make; refine wpList_make_full _ rfl _ _ 22 rfl wr.heap.size 5 i0 (.int .u8 0) 1 Tryd.underlying22 hi hz0 hz1 .i64 .i64 336 336 336 rfl rfl rfl rfl (by rw [hz2]; decide) (by unfold maxLen; decide) (by simp; omega) ?_))
      intro w1 hown hgrow
      have O0 := hid (own_made hown (g2 := u1.heap.size + 1) (by simp))
      have K2 := hid ((K1.out.alloc _).by hgrow (fun k h => by cases h))
      clear hown hgrow
      obtain ⟨g, hg⟩ : ∃ n : Nat, u1.heap.size + 1 = n := ⟨_, rfl⟩
      have gb : wr.heap.size ≤ g := by omega
      rw [hg] at O0
      have zg := (ownB_lt O0.out).2
      have fg := fun o => ownB_froz O0.out o
      have c257 := ownB_cell O0.out 257 (by rw [List.length_replicate]; decide)
      have c258 := ownB_cell O0.out 258 (by rw [List.length_replicate]; decide)
      have c259 := ownB_cell O0.out 259 (by rw [List.length_replicate]; decide)
      have a257 := ownB_add g 257
      have a258 := ownB_add g 258
      have a259 := ownB_add g 259
      go_wp2
      have O1 := hid (ownB_set (ownB_set (ownB_set O0.out 257 195) 258 80) 259 1)
      rw [loop_start (byL T)] at O1
      have K3 := hid (((K2.out.setCell gb 257 (.int .u8 195)).setCell gb 258 (.int .u8 80)).setCell gb 259 (.int .u8 1))
      clear O0 K2 fg c257 c258 c259 a257 a258 a259
      go_loopw [16] (fun i ws => ∃ j : Nat, j ≤ T.size ∧ i = .int .i64 (j : Int) ∧ OwnB ws wr.heap.size g 336 (loopL (byL T) j) ∧ Kept wr ws) (fun i _ => T.size - (intOf i).toNat)
      case atStart => exact ⟨0, Nat.zero_le _, rfl, O1.out, K3.out⟩
      case round =>
        obtain ⟨j, hj2, rfl, ho, hk⟩ := hrel
        have O2 := hid ho
        have K4 := hid hk
        clear ho hk O1 K3
        have zg := (ownB_lt O2.out).2
        have fg := fun o => ownB_froz O2.out o
        by_cases hlt2 : j < T.size
        · have hl3 : (j : Int) < (T.size : Int) := by omega
          obtain ⟨y, hy⟩ : ∃ y, (byL T).getD j 0 = y := ⟨_, rfl⟩
          have ix := byL_run T j y hlt2 hy
          have cj := ownB_cell O2.out (308 + j) (by rw [loopL_len]; omega)
          have aj := ownB_add g (308 + j)
          have b1 : 308 + (j : Int) < 336 := by omega
          have tn : (308 + (j : Int)).toNat = 308 + j := by omega
          have O3 := hid (ownB_set O2.out (308 + j) y)
          rw [← hy, loop_step _ _ (by omega)] at O3
          have K5 := hid (K4.out.setCell gb (308 + j) (.int .u8 y))
          rw [hy] at O3
          clear hy
          go_wp2
          go_roundw
          case rel => exact ⟨j + 1, by omega, by go_num, O3.out, K5.out⟩
          case measure => first | omega | (simp; omega) | (simp [intOf]; omega)
        · obtain rfl : j = T.size := by omega
          have c327 := ownB_cell O2.out 327 (by rw [loopL_len]; decide)
          have c328 := ownB_cell O2.out 328 (by rw [loopL_len]; decide)
          have c329 := ownB_cell O2.out 329 (by rw [loopL_len]; decide)
          have a327 := ownB_add g 327
          have a328 := ownB_add g 328
          have a329 := ownB_add g 329
          have O3 := hid (ownB_set (ownB_set (ownB_set O2.out 327 k) 328 r) 329 m)
          rw [← byL_len, loop_end _ _ _ _ (by rw [byL_len]; exact hT)] at O3
          have K5 := hid (((K4.out.setCell gb 327 (.int .u8 k)).setCell gb 328 (.int .u8 r)).setCell gb 329 (.int .u8 m))
          have CS := hid (rsum_any _ (some ⟨g, 0, none⟩) 336 _ (ownB_row O3.out (head_in _ k r m 0 (byL_in T) ⟨k0, k1⟩ ⟨r0, by omega⟩ ⟨m0, by omega⟩ ⟨by decide, by decide⟩) (by rw [headL_len]; unfold maxLen; decide)))
          rw [headL_len, (head_sumV (byL T) k r m).1, (head_sumV (byL T) k r m).2] at CS
          go_wp2_with fail
          obtain ⟨w3, hw3⟩ : ∃ v, (((wr.setCell ⟨g, 327, none⟩ (.int .u8 k)).setCell ⟨g, 328, none⟩ (.int .u8 r)).setCell ⟨g, 329, none⟩ (.int .u8 m)) = v := ⟨_, rfl⟩
          rw [hw3] at O3 K5 CS ⊢
          clear hw3 c327 c328 c329 a327 a328 a329 O2 K4 fg zg hlt2 hj2
          have zg := (ownB_lt O3.out).2
          have fg := fun o => ownB_froz O3.out o
          have c333 := ownB_cell O3.out 333 (by rw [headL_len]; decide)
          have a333 := ownB_add g 333
          have O4 := hid (ownB_set O3.out 333 (headX (byL T) k r m))
          rw [head_set _ _ _ _ _ _ (by rw [byL_len]; exact hT)] at O4
          have K6 := hid (K5.out.setCell gb 333 (.int .u8 (headX (byL T) k r m)))
          have RC := hid (row_news (row_kept K6.out HR.out))
          have HI := hid HR.out.2.1
          have RI := hid (raw_in (byL T) k r m c (byL_in T) ⟨k0, k1⟩ ⟨r0, by omega⟩ ⟨m0, by omega⟩ HI.out)
          have z0 := K6.out.size
          have hcm : (c.map (Value.int .u8)).length = LC * 1 := by rw [List.length_map, HLC.out, Nat.mul_one]
          have HX := hid (sumTo_bd (headL (byL T) k r m 0) 25)
          obtain ⟨X, hX⟩ : ∃ v, headX (byL T) k r m = v := ⟨_, rfl⟩
          have RL := hid (show headL (byL T) k r m X ++ c = rawL (byL T) k r m c by rw [← hX]; rfl)
          rw [hX] at O4 K6 RC CS z0
          have O5 : Hid (OwnB (w3.setCell ⟨g, 333, none⟩ (.int .u8 X)) _ g 336 (headL (byL T) k r m X)) := O4
          unfold OwnB at O5
          rw [headL_len, ← hg] at O5
          clear hX
          refine CS.out.mono ?_
          rintro e w' ⟨rfl, rfl⟩
          go_wp2_with (at_builtin; refine wpList_append_own _ rfl _ _ 22 rfl _ 5 i0 (.int .u8 0) 1 1 Tryd.underlying22 hi hz0 hz1 hz2 rfl (by decide) _ _ _ rfl (hg ▸ O5.out) x LC cap (c.map (Value.int .u8)) rfl hcm (hg ▸ RC.out) ?c2 ?c3 ?c4 ?c5 ?_)
          case c2 => intro u hu; obtain ⟨q, _, rfl⟩ := List.mem_map.1 hu; rfl
          case c3 => unfold maxLen; omega
          case c4 => omega
          case c5 => first | exact z0 | simpa [hg] using z0
          intro v' w4 hown' hgrow _
          have K7 := hid (K6.out.by (row := some g) (by first | exact hgrow | exact (hg ▸ hgrow) | simpa [Value.ownBlock, hg] using hgrow) (fun k h => by cases h; exact gb))
          obtain ⟨g2, cp, rfl, _⟩ := own_form7 hown' (by omega)
          have O6 := hid (own_app hown' RL.out (by rw [headL_len]) HLC.out)
          clear hown' hgrow
          have CW := hid (rwhole_any _ (some ⟨g2, 0, none⟩) cp _ (ownB_row O6.out RI.out (by rw [rawL_len, HLC.out]; unfold maxLen; omega)))
          rw [rawL_len, HLC.out] at CW
          obtain ⟨V0, V1⟩ := wholeTo_bd (rawL (byL T) k r m c) (rawL (byL T) k r m c).length
          have ML := hid (show madeL (byL T) k r m c = ((rawL (byL T) k r m c).set 334 (wholeOf (rawL (byL T) k r m c) / 256)).set 335 (wholeOf (rawL (byL T) k r m c) % 256) from rfl)
          obtain ⟨V, hV⟩ : ∃ v, wholeOf (rawL (byL T) k r m c) = v := ⟨_, rfl⟩
          have hV2 : wholeTo (rawL (byL T) k r m c) (rawL (byL T) k r m c).length = V := hV
          rw [hV2] at V0 V1
          rw [hV] at CW ML
          clear hV hV2
          have g2b := (ownB_lt O6.out).1
          have zg2 := (ownB_lt O6.out).2
          have fg2 := fun o => ownB_froz O6.out o
          have c334 := ownB_cell O6.out 334 (by rw [rawL_len]; omega)
          have c335 := ownB_cell O6.out 335 (by rw [rawL_len]; omega)
          have a334 := ownB_add g2 334
          have a335 := ownB_add g2 335
          have td : Int.tdiv V 256 = V / 256 := Int.tdiv_eq_ediv_of_nonneg V0
          have tm : Int.tmod V 256 = V % 256 := Int.tmod_eq_emod_of_nonneg V0
          have w6 : IntKind.u16.wrap (V / 256) = V / 256 := by rw [IntKind.wrap_u16]; omega
          have w7 : IntKind.u16.wrap (V % 256) = V % 256 := by rw [IntKind.wrap_u16]; omega
          have w8 : IntKind.u8.wrap (V / 256) = V / 256 := by rw [IntKind.wrap_u8]; omega
          have w9 : IntKind.u8.wrap (V % 256) = V % 256 := by rw [IntKind.wrap_u8]; omega
          have i1 : (334 : Int) < 336 + (LC : Int) := by omega
          have i2 : (335 : Int) < 336 + (LC : Int) := by omega
          have O7 := hid (ownB_set (ownB_set O6.out 334 (V / 256)) 335 (V % 256))
          rw [← ML.out] at O7
          have K8 := hid ((K7.out.setCell g2b 334 (.int .u8 (V / 256))).setCell g2b 335 (.int .u8 (V % 256)))
          clear O3 K5 fg zg c333 a333 K6 O4 O5 CS RC
          go_wp2_with (go_at_call 15; refine CW.out.mono ?_; rintro e w' ⟨rfl, rfl⟩)
          exact bodyPost_ret (v := .tuple #[.slice (some ⟨g2, 0, none⟩) (336 + LC) cp, .int .i64 0]) (by simp [results, Tryd.results17, go_sem]) rfl ⟨g2, cp, rfl, O7.out, K8.out⟩
end Go.Proofs.YtfmehkaojfjdjaaDoor
