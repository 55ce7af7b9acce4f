/- The laying of an image, as lists; copies into a row of the call's own. What lay of the program's layer 7 comes to. What Make of the program's layer 7 comes to. -/
import Derived.Test.YtfmddnekooojkaaGreatDoorG37
import Derived.Laws.CopyOwn
import Derived.Lib.BufferWrite
import Derived.Test.YtfmddnekooojkaaGreatDoorG23
namespace Go.Proofs.YtfmddnekooojkaaGreatDoor
open Go.RowKit
set_option linter.unusedVariables false
set_option linter.unusedSimpArgs false

def spl (L : List Int) (o : Nat) (C : List Int) : List Int := L.take o ++ C ++ L.drop (o + C.length)
theorem spl_len (L : List Int) (o : Nat) (C : List Int) (h : o + C.length ≤ L.length) : (spl L o C).length = L.length := by unfold spl; simp; omega
theorem spl_get (L : List Int) (o : Nat) (C : List Int) (h : o + C.length ≤ L.length) (i : Nat) : (spl L o C)[i]? = if i < o then L[i]? else if i < o + C.length then C[i - o]? else L[i]? := by
  unfold spl
  rw [List.append_assoc, List.getElem?_append, List.length_take, Nat.min_eq_left (by omega)]
  split
  · rename_i q; rw [List.getElem?_take_of_lt q]
  · rename_i q
    rw [List.getElem?_append]
    split
    · rename_i q2; rw [if_pos (by omega)]
    · rename_i q2
      rw [if_neg (by omega), List.getElem?_drop]
      congr 1
      omega
def layL (t : List Int) (k r m : Int) (n : Nat) : List Int := (((spl (spl (List.replicate (336 + n) 0) 256 [0, 195, 80, 1]) 308 t).set 327 k).set 328 r).set 329 m
theorem layL_eq (t : List Int) (k r m : Int) (n : Nat) (ht : t.length ≤ 16) : layL t k r m n = headL t k r m 0 ++ List.replicate n 0 := by
  unfold layL
  have h0 : (List.replicate (336 + n) (0 : Int)).length = 336 + n := by simp
  have h1 : (spl (List.replicate (336 + n) (0 : Int)) 256 [0, 195, 80, 1]).length = 336 + n := by rw [spl_len _ _ _ (by simp; omega)]; exact h0
  have h2 : (spl (spl (List.replicate (336 + n) (0 : Int)) 256 [0, 195, 80, 1]) 308 t).length = 336 + n := by rw [spl_len _ _ _ (by rw [h1]; omega)]; exact h1
  apply List.ext_getElem?
  intro i
  rw [List.getElem?_set, List.getElem?_set, List.getElem?_set, List.length_set, List.length_set, h2, spl_get _ _ _ (by rw [h1]; omega), spl_get _ _ _ (by simp; omega), List.getElem?_append, headL_len]
  by_cases hi : i < 336 + n
  · by_cases h3 : i < 336
    · rw [if_pos h3]
      have hg : (headL t k r m 0)[i]? = some (headF t k r m 0 i) := by unfold headL; rw [List.getElem?_map, List.getElem?_range h3]; rfl
      rw [hg]
      unfold headF
      have hr : (List.replicate (336 + n) (0 : Int))[i]? = some 0 := by rw [List.getElem?_replicate, if_pos hi]
      by_cases a1 : 329 = i
      · subst a1; rw [if_pos rfl, if_pos (by omega), if_neg (by omega), if_neg (by omega), if_neg (by omega), if_neg (by omega), if_neg (by omega), if_neg (by omega), if_pos rfl]
      by_cases a2 : 328 = i
      · subst a2; rw [if_neg (by omega), if_pos rfl, if_pos (by omega), if_neg (by omega), if_neg (by omega), if_neg (by omega), if_neg (by omega), if_neg (by omega), if_pos rfl]
      by_cases a3 : 327 = i
      · subst a3; rw [if_neg (by omega), if_neg (by omega), if_pos rfl, if_pos (by omega), if_neg (by omega), if_neg (by omega), if_neg (by omega), if_neg (by omega), if_pos rfl]
      rw [if_neg a1, if_neg a2, if_neg a3]
      by_cases b1 : i < 308
      · rw [if_pos b1]
        by_cases b2 : i < 256
        · rw [if_pos b2, hr, if_neg (by omega), if_neg (by omega), if_neg (by omega), if_neg (by omega), if_neg (by omega), if_neg (by omega), if_neg (by omega), if_neg (by omega)]
        · rw [if_neg b2]
          by_cases b3 : i < 260
          · rw [if_pos (by simpa using b3)]
            have : i = 256 ∨ i = 257 ∨ i = 258 ∨ i = 259 := by omega
            rcases this with rfl | rfl | rfl | rfl <;> simp
          · rw [if_neg (by simpa using b3), hr, if_neg (by omega), if_neg (by omega), if_neg (by omega), if_neg (by omega), if_neg (by omega), if_neg (by omega), if_neg (by omega), if_neg (by omega)]
      · rw [if_neg b1]
        by_cases b2 : i < 308 + t.length
        · rw [if_pos b2, if_neg (by omega), if_neg (by omega), if_neg (by omega), if_pos ⟨by omega, b2⟩, List.getD_eq_getElem?_getD, List.getElem?_eq_getElem (by omega)]
          rfl
        · rw [if_neg b2, if_neg (by omega), if_neg (by simp; omega), hr, if_neg (by omega), if_neg (by omega), if_neg (by omega), if_neg (by omega), if_neg (by omega), if_neg (by omega), if_neg (by omega)]
          split <;> rfl
    · have hr : (List.replicate (336 + n) (0 : Int))[i]? = some 0 := by rw [List.getElem?_replicate, if_pos hi]
      rw [if_neg h3, if_neg (by omega), if_neg (by omega), if_neg (by omega), if_neg (by omega), if_neg (by omega), if_neg (by omega), if_neg (by simp; omega), hr, List.getElem?_replicate, if_pos (by omega)]
  · rw [if_neg (by omega), if_neg (by omega), if_neg (by omega), if_neg (by omega), if_neg (by omega), if_neg (by omega), if_neg (by simp; omega), if_neg (by omega), List.getElem?_replicate, if_neg hi, List.getElem?_replicate, if_neg (by omega)]
theorem lay_sum (t : List Int) (k r m : Int) (n : Nat) (ht : t.length ≤ 16) : sumOf (layL t k r m n) = headX t k r m := by
  rw [layL_eq t k r m n ht]
  unfold headX sumOf
  refine sumTo_congr _ _ 25 (fun i hi => ?_)
  rw [List.getD_eq_getElem?_getD, List.getElem?_append_left (by rw [headL_len]; omega), ← List.getD_eq_getElem?_getD]
theorem lay_raw (t : List Int) (k r m : Int) (c : List Int) (ht : t.length ≤ 16) : spl ((layL t k r m c.length).set 333 (headX t k r m)) 336 c = rawL t k r m c := by
  rw [layL_eq t k r m c.length ht, List.set_append_left _ _ (by rw [headL_len]; decide), head_set _ _ _ _ _ _ ht]
  unfold spl rawL
  rw [List.take_append_of_le_length (by rw [headL_len]; exact Nat.le_refl _), List.take_of_length_le (by rw [headL_len]; exact Nat.le_refl _), List.drop_of_length_le (by simp [headL_len]), List.append_nil]
theorem lay_raw0 (t : List Int) (k r m : Int) (ht : t.length ≤ 16) : (layL t k r m 0).set 333 (headX t k r m) = rawL t k r m [] := by
  have := lay_raw t k r m [] ht
  unfold spl at this
  simpa using this
theorem ownB_heap {w : World} {base g cap : Nat} {L : List Int} (h : OwnB w base g cap L) (hc : L.length = cap) : w.heap[g]? = some (.cells (L.map (Value.int .u8)).toArray 5 (0, 0)) ∧ base ≤ g ∧ cap ≤ maxLen := by
  obtain ⟨_, h | ⟨g2, cap2, cur, e, hb, hh, h1, h2, h3, h4⟩⟩ := h
  · cases h.1
  · cases e
    rw [List.take_of_length_le (by rw [Array.length_toList, h3]; omega)] at h4
    rw [← h4]
    exact ⟨hh, hb, h2⟩
theorem heap_ownB {w : World} {base g cap : Nat} {L : List Int} (hh : w.heap[g]? = some (.cells (L.map (Value.int .u8)).toArray 5 (0, 0))) (hb : base ≤ g) (hc : L.length = cap) (hm : cap ≤ maxLen) : OwnB w base g cap L :=
  ⟨by simp, .inr ⟨g, cap, _, rfl, hb, hh, by omega, hm, by simp [hc], by simp [List.take_of_length_le]⟩⟩
theorem spl_map (L : List Int) (o : Nat) (C : List Int) : ((L.map (Value.int .u8)).take o ++ C.map (Value.int .u8) ++ (L.map (Value.int .u8)).drop (o + (C.map (Value.int .u8)).length)) = (spl L o C).map (Value.int .u8) := by
  unfold spl
  rw [List.length_map, List.map_append, List.map_append, List.map_take, List.map_drop]
theorem kept_setRow {W w : World} (h : Kept W w) {g : Nat} (hg : W.heap.size ≤ g) (cs : Array Value) : Kept W (w.setRow g cs) :=
  ⟨h.os, h.output, by simpa using h.size, fun k hk => (setRow_other w g k cs (by omega)).trans (h.block k hk)⟩
/-- A copy into a row of the call's own, out of cells that can be read. -/
theorem copy_own {w : World} {base g cap : Nat} {L : List Int} (o : OwnB w base g cap L) (hc : L.length = cap) (off dLen dCap : Nat) (ad : Addr) (sCap : Nat) (C : List Int) (hl : C.length ≤ dLen) (hf : off + C.length ≤ L.length)
    (hs : ∀ j u, (C.map (Value.int .u8))[j]? = some u → w.cell? (ad.add j) = some u) (W : World) (k : Kept W w) (hW : W.heap.size ≤ g) :
    ∃ w2, (∀ ty, (Builtin.copy_ #[22, 22] ty #[.slice (some ⟨g, off, none⟩) dLen dCap, .slice (some ad) C.length sCap]).run Tryz.prog w = .ok (.int .i64 (C.length : Int)) w2) ∧ OwnB w2 base g cap (spl L off C) ∧ Kept W w2 := by
  obtain ⟨hh, hb, hm⟩ := ownB_heap o hc
  refine ⟨w.setRow g ((spl L off C).map (Value.int .u8)).toArray, fun ty => ?_, ?_, kept_setRow k hW _⟩
  · have := run_copy_row Tryz.prog w 22 22 ty 5 g off dLen dCap ad C.length sCap _ 5 (C.map (Value.int .u8)) Tryz.underlying22 (by kernel_rfl) hh (by rw [List.length_map]; exact (Nat.min_eq_left hl).symm) hs (by simpa using hf) (fun v hv => by obtain ⟨q, _, rfl⟩ := List.mem_map.1 hv; rfl)
    rw [List.toList_toArray, spl_map, List.length_map] at this
    exact this
  · refine heap_ownB ?_ hb (by rw [spl_len _ _ _ hf]; exact hc) hm
    exact setRow_heap w g _ _ _ _ hh
theorem byteCells_byL (T : ByteArray) : Go.Lib.byteCells T.data.toList = (byL T).map (Value.int .u8) := by
  unfold byL
  rw [List.map_map]
  rfl
theorem copy_str {w : World} {base g cap : Nat} {L : List Int} (o : OwnB w base g cap L) (hc : L.length = cap) (off dLen dCap : Nat) (T : ByteArray) (hl : T.size ≤ dLen) (hf : off + T.size ≤ L.length) (W : World) (k : Kept W w) (hW : W.heap.size ≤ g) :
    ∃ w2, (∀ ty, (Builtin.copy_ #[22, 9] ty #[.slice (some ⟨g, off, none⟩) dLen dCap, .string T]).run Tryz.prog w = .ok (.int .i64 (T.size : Int)) w2) ∧ OwnB w2 base g cap (spl L off (byL T)) ∧ Kept W w2 := by
  obtain ⟨hh, hb, hm⟩ := ownB_heap o hc
  refine ⟨w.setRow g ((spl L off (byL T)).map (Value.int .u8)).toArray, fun ty => ?_, ?_, kept_setRow k hW _⟩
  · have := Go.Lib.run_copy_row_string (P := Tryz.prog) w 22 9 ty 5 g off dLen dCap T _ 5 Tryz.underlying22 (by kernel_rfl) hh hl (by simpa using hf)
    have e := spl_map L off (byL T)
    rw [List.length_map, byL_len] at e
    rw [List.toList_toArray, byteCells_byL, e] at this
    exact this
  · refine heap_ownB ?_ hb (by rw [spl_len _ _ _ (by rw [byL_len]; exact hf)]; exact hc) hm
    exact setRow_heap w g _ _ _ _ hh
end Go.Proofs.YtfmddnekooojkaaGreatDoor
namespace Go.Proofs.YtfmddnekooojkaaGreatDoor
open Go.RowKit
set_option linter.unusedVariables false
set_option linter.unusedSimpArgs false

theorem own_make {w1 : World} {base g N : Nat} (h : w1.ownsRow base 5 1 (.slice (some ⟨g, 0, none⟩) N N) N (madeCells #[Value.int .u8 0] N).toList) : OwnB w1 base g N (List.replicate N 0) := by
  have e : (madeCells #[Value.int .u8 0] N).toList = (List.replicate N (0 : Int)).map (Value.int .u8) := by
    rw [List.map_replicate]
    simp [madeCells]
    apply List.ext_getElem?
    intro i
    rw [List.getElem?_map, List.getElem?_replicate]
    by_cases hi : i < N
    · rw [List.getElem?_range hi, if_pos hi]; simp [Nat.mod_one]
    · rw [List.getElem?_eq_none (by simp; omega), if_neg hi]; rfl
  rw [e] at h
  unfold OwnB
  rw [List.length_replicate]
  exact h
theorem four_cells (w : World) : ∀ j u, (([0, 195, 80, 1] : List Int).map (Value.int .u8))[j]? = some u → (w.alloc (.cells #[.int .u8 0, .int .u8 195, .int .u8 80, .int .u8 1] 5)).cell? ((⟨w.heap.size, 0, none⟩ : Addr).add j) = some u := by
  intro j u hu
  rw [ownB_add, (has_alloc w #[.int .u8 0, .int .u8 195, .int .u8 80, .int .u8 1] 5).2 j, ← hu]
  simp
theorem ownB_past {w : World} {base g cap : Nat} {L : List Int} (h : OwnB w base g cap L) (o : Obj) : OwnB (w.alloc o) base g cap L := owns_kept ((Kept.refl w).alloc o) h
theorem lay_in (t : List Int) (k r m : Int) (n : Nat) (ht : t.length ≤ 16) (hb : ∀ y ∈ t, InByte y) (hk : InByte k) (hr : InByte r) (hm : InByte m) : ∀ y ∈ layL t k r m n, InByte y := by
  rw [layL_eq t k r m n ht]
  intro y hy
  rcases List.mem_append.1 hy with h | h
  · exact head_in t k r m 0 hb hk hr hm ⟨by decide, by decide⟩ y h
  · obtain ⟨_, rfl⟩ := List.mem_replicate.1 h
    exact ⟨by decide, by decide⟩
theorem layL_len (t : List Int) (k r m : Int) (n : Nat) (ht : t.length ≤ 16) : (layL t k r m n).length = 336 + n := by
  rw [layL_eq t k r m n ht, List.length_append, headL_len, List.length_replicate]
theorem ownB_sum {w : World} {base g cap : Nat} {L : List Int} (h : OwnB w base g cap L) (hb : ∀ x ∈ L, InByte x) (hl : 336 ≤ L.length) (hc : L.length = cap) (hm : cap ≤ maxLen) :
    Calls Tryz.prog 81 #[.slice (some ⟨g, 0, none⟩) cap cap] w fun e w' => e = .returned (.int .u8 (sumOf L)) ∧ w' = w :=
  psum_any L ⟨g, 0, none⟩ cap cap w (by omega) hm (Nat.le_refl _) hm hl (ownB_lt h).2 (fun i hi => ⟨by rw [ownB_add]; exact ownB_cell h i (by omega), by
    rw [List.getD_eq_getElem?_getD, List.getElem?_eq_getElem (by omega)]
    exact hb _ (List.getElem_mem _)⟩)
set_option maxRecDepth 100000 in
set_option maxHeartbeats 8000000 in
theorem play_some (T : ByteArray) (k r m : Int) (c : List Int) (x : Addr) (cap : Nat) (w : World) (row : Row w (some x) c) (h0 : 0 < c.length) (hc : c.length ≤ 16777216) (k0 : 0 ≤ k) (k1 : k ≤ 255) (r0 : 0 ≤ r) (r1 : r ≤ 255) (m0 : 0 ≤ m) (m1 : m ≤ 255) (hT : T.size ≤ 16) :
    Calls Tryz.prog 72 #[.string T, .int .u8 k, .int .u8 r, .int .u8 m, .slice (some x) c.length cap] w fun e w' => ∃ g cp, e = .returned (.slice (some ⟨g, 0, none⟩) (336 + c.length) cp) ∧ OwnB w' w.heap.size g cp (madeL (byL T) k r m c) ∧ Kept w w' := by
  obtain ⟨i0, hi, hz0, hz1, hz2⟩ := info_parts info7_u8
  have HR := hid row
  have HT : Hid ((byL T).length ≤ 16) := hid (by rw [byL_len]; exact hT)
  obtain ⟨n, hn⟩ : ∃ n : Nat, c.length = n := ⟨_, rfl⟩
  have HN := hid hn
  rw [hn] at h0 hc ⊢
  clear row hn
  have wn : IntKind.i64.wrap (336 + (n : Int)) = 336 + (n : Int) := by rw [IntKind.wrap_i64]; omega
  go_enter Tryz.func72, Tryz.ntmps72
  go_wp2_with (at_make; refine wpList_make_full _ rfl _ _ 22 rfl w.heap.size 5 i0 (.int .u8 0) 1 Tryz.underlying22 hi hz0 hz1 .i64 .i64 (336 + (n : Int)) (336 + (n : Int)) (336 + n) rfl rfl (by omega) (by omega) (by rw [hz2]; omega) (by unfold maxLen; omega) (Nat.le_refl _) ?_)
  intro w1 hown hgrow
  have O0 := hid (own_make hown)
  have K0 := hid ((Kept.refl w).by hgrow (fun k h => by cases h))
  clear hown hgrow
  obtain ⟨g, hg⟩ : ∃ g : Nat, w.heap.size = g := ⟨_, rfl⟩
  have gb : w.heap.size ≤ g := by omega
  rw [hg] at O0 ⊢
  obtain ⟨w2, hrun2, o2, k2⟩ := copy_own (ownB_past O0.out (.cells #[.int .u8 0, .int .u8 195, .int .u8 80, .int .u8 1] 5)) (by simp) 256 (336 + n - 256) (336 + n - 256) ⟨w1.heap.size, 0, none⟩ 4 [0, 195, 80, 1] (by simp; omega) (by simp; omega) (four_cells w1) w (K0.out.alloc _) gb
  simp only [List.length_cons, List.length_nil, Nat.zero_add, Nat.reduceAdd] at hrun2
  have O2 := hid o2
  have K2 := hid k2
  clear o2 k2
  obtain ⟨w3, hrun3, o3, k3⟩ := copy_str O2.out (by rw [spl_len _ _ _ (by simp; omega), List.length_replicate]) 308 (336 + n - 308) (336 + n - 308) T (by omega) (by rw [spl_len _ _ _ (by simp; omega), List.length_replicate]; omega) w K2.out gb
  have O4 : Hid (OwnB (((w3.setCell ⟨g, 327, none⟩ (.int .u8 k)).setCell ⟨g, 328, none⟩ (.int .u8 r)).setCell ⟨g, 329, none⟩ (.int .u8 m)) g g (336 + n) (layL (byL T) k r m n)) := hid (ownB_set (ownB_set (ownB_set o3 327 k) 328 r) 329 m)
  have K4 := hid (((k3.setCell gb 327 (.int .u8 k)).setCell gb 328 (.int .u8 r)).setCell gb 329 (.int .u8 m))
  have L3 : Hid ((spl (spl (List.replicate (336 + n) (0 : Int)) 256 [0, 195, 80, 1]) 308 (byL T)).length = 336 + n) := hid (by rw [spl_len _ _ _ (by rw [spl_len _ _ _ (by simp; omega), List.length_replicate, byL_len]; omega), spl_len _ _ _ (by simp; omega), List.length_replicate])
  have zg := (ownB_lt o3).2
  have fg := fun o => ownB_froz o3 o
  have c327 := ownB_cell o3 327 (by rw [L3.out]; omega)
  have c328 := ownB_cell o3 328 (by rw [L3.out]; omega)
  have c329 := ownB_cell o3 329 (by rw [L3.out]; omega)
  have a327 := ownB_add g 327
  have a328 := ownB_add g 328
  have a329 := ownB_add g 329
  have i327 : (327 : Int) < 336 + (n : Int) := by omega
  have i328 : (328 : Int) < 336 + (n : Int) := by omega
  have i329 : (329 : Int) < 336 + (n : Int) := by omega
  have i333 : (333 : Int) < 336 + (n : Int) := by omega
  have i334 : (334 : Int) < 336 + (n : Int) := by omega
  have i335 : (335 : Int) < 336 + (n : Int) := by omega
  have CS := hid (ownB_sum O4.out (lay_in (byL T) k r m n HT.out (byL_in T) ⟨k0, k1⟩ ⟨r0, r1⟩ ⟨m0, m1⟩) (by rw [layL_len _ _ _ _ _ HT.out]; omega) (layL_len _ _ _ _ _ HT.out) (by unfold maxLen; omega))
  rw [lay_sum _ _ _ _ _ HT.out] at CS
  clear o3 k3 O2 K2 O0 K0 L3
  go_wp2_with fail
  refine CS.out.mono ?_
  rintro e w' ⟨rfl, rfl⟩
  obtain ⟨w4, hw4⟩ : ∃ v, (((w3.setCell ⟨g, 327, none⟩ (.int .u8 k)).setCell ⟨g, 328, none⟩ (.int .u8 r)).setCell ⟨g, 329, none⟩ (.int .u8 m)) = v := ⟨_, rfl⟩
  rw [hw4] at O4 K4 ⊢
  clear hw4 CS hrun2 hrun3 fg zg c327 c328 c329 a327 a328 a329 i327 i328 i329
  have O5 := hid (ownB_set O4.out 333 (headX (byL T) k r m))
  have K5 := hid (K4.out.setCell gb 333 (.int .u8 (headX (byL T) k r m)))
  have zg := (ownB_lt O4.out).2
  have fg := fun o => ownB_froz O4.out o
  have c333 := ownB_cell O4.out 333 (by rw [layL_len _ _ _ _ _ HT.out]; omega)
  have a333 := ownB_add g 333
  have LR := hid (lay_raw (byL T) k r m c HT.out)
  rw [HN.out] at LR
  have RI := hid (raw_in (byL T) k r m c (byL_in T) ⟨k0, k1⟩ ⟨r0, r1⟩ ⟨m0, m1⟩ HR.out.2.1)
  obtain ⟨X, hX⟩ : ∃ v, headX (byL T) k r m = v := ⟨_, rfl⟩
  rw [hX] at O5 K5 LR ⊢
  have L5 : Hid (((layL (byL T) k r m n).set 333 X).length = 336 + n) := hid (by rw [List.length_set, layL_len _ _ _ _ _ HT.out])
  obtain ⟨w6, hrun6, o6, k6⟩ := copy_own O5.out L5.out 336 n n x cap c (by rw [HN.out]; exact Nat.le_refl _) (by rw [L5.out, HN.out]; exact Nat.le_refl _) (row_news (row_kept K5.out HR.out)) w K5.out gb
  rw [HN.out] at hrun6
  rw [LR.out] at o6
  have O6 := hid o6
  have K6 := hid k6
  clear hX O4 K4 O5 K5 L5 o6 k6 LR
  have i336 : (336 : Int) ≤ 336 + (n : Int) := by omega
  have j336 : (336 : Int) ≠ 336 + (n : Int) := by omega
  have RL := hid (rawL_len (byL T) k r m c)
  rw [HN.out] at RL
  have CW := hid (pwhole_any _ (some ⟨g, 0, none⟩) (336 + n) _ (ownB_row O6.out RI.out (by rw [RL.out]; unfold maxLen; omega)))
  rw [RL.out] at CW
  go_wp2_with fail
  refine CW.out.mono ?_
  rintro e w' ⟨rfl, rfl⟩
  obtain ⟨V0, V1⟩ := wholeTo_bd (rawL (byL T) k r m c) (rawL (byL T) k r m c).length
  have ML := hid (show madeL (byL T) k r m c = ((rawL (byL T) k r m c).set 334 (wholeOf (rawL (byL T) k r m c) / 256)).set 335 (wholeOf (rawL (byL T) k r m c) % 256) from rfl)
  obtain ⟨V, hV⟩ : ∃ v, wholeOf (rawL (byL T) k r m c) = v := ⟨_, rfl⟩
  have hV2 : wholeTo (rawL (byL T) k r m c) (rawL (byL T) k r m c).length = V := hV
  rw [hV2] at V0 V1
  rw [hV] at ML ⊢
  clear hV hV2 CW
  have zg2 := (ownB_lt O6.out).2
  have fg2 := fun o => ownB_froz O6.out o
  have c334 := ownB_cell O6.out 334 (by rw [RL.out]; omega)
  have c335 := ownB_cell O6.out 335 (by rw [RL.out]; omega)
  have a334 := ownB_add g 334
  have a335 := ownB_add g 335
  have v6 : IntKind.u16.wrap (V / 256) = V / 256 := by rw [IntKind.wrap_u16]; omega
  have w8 : IntKind.u8.wrap (V / 256) = V / 256 := by rw [IntKind.wrap_u8]; omega
  have w9 : IntKind.u8.wrap V = V % 256 := by rw [IntKind.wrap_u8]
  have O7 := hid (ownB_set (ownB_set O6.out 334 (V / 256)) 335 (V % 256))
  rw [← ML.out] at O7
  have K8 := hid ((K6.out.setCell gb 334 (.int .u8 (V / 256))).setCell gb 335 (.int .u8 (V % 256)))
  clear c333 a333 fg zg hrun6
  go_wp2_with fail
  go_ret
  exact ⟨g, 336 + n, rfl, hg ▸ O7.out, K8.out⟩
set_option maxRecDepth 100000 in
set_option maxHeartbeats 8000000 in
theorem play_none (T : ByteArray) (k r m : Int) (a : Option Addr) (cap : Nat) (w : World) (k0 : 0 ≤ k) (k1 : k ≤ 255) (r0 : 0 ≤ r) (r1 : r ≤ 255) (m0 : 0 ≤ m) (m1 : m ≤ 255) (hT : T.size ≤ 16) :
    Calls Tryz.prog 72 #[.string T, .int .u8 k, .int .u8 r, .int .u8 m, .slice a 0 cap] w fun e w' => ∃ g cp, e = .returned (.slice (some ⟨g, 0, none⟩) 336 cp) ∧ OwnB w' w.heap.size g cp (madeL (byL T) k r m []) ∧ Kept w w' := by
  obtain ⟨i0, hi, hz0, hz1, hz2⟩ := info_parts info7_u8
  have HT : Hid ((byL T).length ≤ 16) := hid (by rw [byL_len]; exact hT)
  go_enter Tryz.func72, Tryz.ntmps72
  go_wp2_with (at_make; refine wpList_make_full _ rfl _ _ 22 rfl w.heap.size 5 i0 (.int .u8 0) 1 Tryz.underlying22 hi hz0 hz1 .i64 .i64 336 336 336 rfl rfl rfl rfl (by rw [hz2]; decide) (by unfold maxLen; decide) (Nat.le_refl _) ?_)
  intro w1 hown hgrow
  have O0 := hid (own_make hown)
  have K0 := hid ((Kept.refl w).by hgrow (fun k h => by cases h))
  clear hown hgrow
  obtain ⟨g, hg⟩ : ∃ g : Nat, w.heap.size = g := ⟨_, rfl⟩
  have gb : w.heap.size ≤ g := by omega
  rw [hg] at O0 ⊢
  obtain ⟨w2, hrun2, o2, k2⟩ := copy_own (ownB_past O0.out (.cells #[.int .u8 0, .int .u8 195, .int .u8 80, .int .u8 1] 5)) (by simp) 256 80 80 ⟨w1.heap.size, 0, none⟩ 4 [0, 195, 80, 1] (by simp) (by simp) (four_cells w1) w (K0.out.alloc _) gb
  simp only [List.length_cons, List.length_nil, Nat.zero_add, Nat.reduceAdd] at hrun2
  have O2 := hid o2
  have K2 := hid k2
  clear o2 k2
  obtain ⟨w3, hrun3, o3, k3⟩ := copy_str O2.out (by rw [spl_len _ _ _ (by simp), List.length_replicate]) 308 28 28 T (by omega) (by rw [spl_len _ _ _ (by simp), List.length_replicate]; omega) w K2.out gb
  have O4 : Hid (OwnB (((w3.setCell ⟨g, 327, none⟩ (.int .u8 k)).setCell ⟨g, 328, none⟩ (.int .u8 r)).setCell ⟨g, 329, none⟩ (.int .u8 m)) g g 336 (layL (byL T) k r m 0)) := hid (ownB_set (ownB_set (ownB_set o3 327 k) 328 r) 329 m)
  have K4 := hid (((k3.setCell gb 327 (.int .u8 k)).setCell gb 328 (.int .u8 r)).setCell gb 329 (.int .u8 m))
  have L3 : Hid ((spl (spl (List.replicate 336 (0 : Int)) 256 [0, 195, 80, 1]) 308 (byL T)).length = 336) := hid (by rw [spl_len _ _ _ (by rw [spl_len _ _ _ (by simp), List.length_replicate, byL_len]; omega), spl_len _ _ _ (by simp), List.length_replicate])
  have zg := (ownB_lt o3).2
  have fg := fun o => ownB_froz o3 o
  have c327 := ownB_cell o3 327 (by rw [L3.out]; omega)
  have c328 := ownB_cell o3 328 (by rw [L3.out]; omega)
  have c329 := ownB_cell o3 329 (by rw [L3.out]; omega)
  have a327 := ownB_add g 327
  have a328 := ownB_add g 328
  have a329 := ownB_add g 329
  have i327 : (327 : Int) < 336 := by omega
  have i328 : (328 : Int) < 336 := by omega
  have i329 : (329 : Int) < 336 := by omega
  have i333 : (333 : Int) < 336 := by omega
  have i334 : (334 : Int) < 336 := by omega
  have i335 : (335 : Int) < 336 := by omega
  have CS := hid (ownB_sum O4.out (lay_in (byL T) k r m 0 HT.out (byL_in T) ⟨k0, k1⟩ ⟨r0, r1⟩ ⟨m0, m1⟩) (by rw [layL_len _ _ _ _ _ HT.out]; omega) (layL_len _ _ _ _ _ HT.out) (by unfold maxLen; omega))
  rw [lay_sum _ _ _ _ _ HT.out] at CS
  clear o3 k3 O2 K2 O0 K0 L3
  go_wp2_with fail
  refine CS.out.mono ?_
  rintro e w' ⟨rfl, rfl⟩
  obtain ⟨w4, hw4⟩ : ∃ v, (((w3.setCell ⟨g, 327, none⟩ (.int .u8 k)).setCell ⟨g, 328, none⟩ (.int .u8 r)).setCell ⟨g, 329, none⟩ (.int .u8 m)) = v := ⟨_, rfl⟩
  rw [hw4] at O4 K4 ⊢
  clear hw4 CS hrun2 hrun3 fg zg c327 c328 c329 a327 a328 a329 i327 i328 i329
  have O5 := hid (ownB_set O4.out 333 (headX (byL T) k r m))
  have K5 := hid (K4.out.setCell gb 333 (.int .u8 (headX (byL T) k r m)))
  have zg := (ownB_lt O4.out).2
  have fg := fun o => ownB_froz O4.out o
  have c333 := ownB_cell O4.out 333 (by rw [layL_len _ _ _ _ _ HT.out]; omega)
  have a333 := ownB_add g 333
  have LR := hid (lay_raw0 (byL T) k r m HT.out)
  have RI := hid (raw_in (byL T) k r m [] (byL_in T) ⟨k0, k1⟩ ⟨r0, r1⟩ ⟨m0, m1⟩ (fun y hy => by cases hy))
  obtain ⟨X, hX⟩ : ∃ v, headX (byL T) k r m = v := ⟨_, rfl⟩
  rw [hX] at O5 K5 LR ⊢
  rw [LR.out] at O5
  have O6 := hid O5.out
  have K6 := hid K5.out
  have hrun6 := fun (w : World) (dp : Option Addr) (dCap : Nat) (ty : TypeId) => run_copy_none (P := Tryz.prog) w 22 22 ty 5 dp a 0 dCap 0 cap Tryz.underlying22 (by kernel_rfl) rfl
  clear hX O4 K4 O5 K5 LR
  have i336 : (336 : Int) ≤ 336 := by omega
  have RL := hid (rawL_len (byL T) k r m [])
  simp only [List.length_nil, Nat.add_zero] at RL
  have CW := hid (pwhole_any _ (some ⟨g, 0, none⟩) 336 _ (ownB_row O6.out RI.out (by rw [RL.out]; unfold maxLen; omega)))
  rw [RL.out] at CW
  go_wp2_with fail
  refine CW.out.mono ?_
  rintro e w' ⟨rfl, rfl⟩
  obtain ⟨V0, V1⟩ := wholeTo_bd (rawL (byL T) k r m []) (rawL (byL T) k r m []).length
  have ML := hid (show madeL (byL T) k r m [] = ((rawL (byL T) k r m []).set 334 (wholeOf (rawL (byL T) k r m []) / 256)).set 335 (wholeOf (rawL (byL T) k r m []) % 256) from rfl)
  obtain ⟨V, hV⟩ : ∃ v, wholeOf (rawL (byL T) k r m []) = v := ⟨_, rfl⟩
  have hV2 : wholeTo (rawL (byL T) k r m []) (rawL (byL T) k r m []).length = V := hV
  rw [hV2] at V0 V1
  rw [hV] at ML ⊢
  clear hV hV2 CW
  have zg2 := (ownB_lt O6.out).2
  have fg2 := fun o => ownB_froz O6.out o
  have c334 := ownB_cell O6.out 334 (by rw [RL.out]; omega)
  have c335 := ownB_cell O6.out 335 (by rw [RL.out]; omega)
  have a334 := ownB_add g 334
  have a335 := ownB_add g 335
  have v6 : IntKind.u16.wrap (V / 256) = V / 256 := by rw [IntKind.wrap_u16]; omega
  have w8 : IntKind.u8.wrap (V / 256) = V / 256 := by rw [IntKind.wrap_u8]; omega
  have w9 : IntKind.u8.wrap V = V % 256 := by rw [IntKind.wrap_u8]
  have O7 := hid (ownB_set (ownB_set O6.out 334 (V / 256)) 335 (V % 256))
  rw [← ML.out] at O7
  have K8 := hid ((K6.out.setCell gb 334 (.int .u8 (V / 256))).setCell gb 335 (.int .u8 (V % 256)))
  clear c333 a333 fg zg hrun6
  go_wp2_with fail
  go_ret
  exact ⟨g, 336, rfl, hg ▸ O7.out, K8.out⟩
end Go.Proofs.YtfmddnekooojkaaGreatDoor
namespace Go.Proofs.YtfmddnekooojkaaGreatDoor
open Go.RowKit
set_option linter.unusedVariables false
set_option linter.unusedSimpArgs false

theorem play_any (T : ByteArray) (k r m : Int) (c : List Int) (a : Option Addr) (cap : Nat) (w : World) (row : Row w a c) (hc : c.length ≤ 16777216) (k0 : 0 ≤ k) (k1 : k ≤ 255) (r0 : 0 ≤ r) (r1 : r ≤ 255) (m0 : 0 ≤ m) (m1 : m ≤ 255) (hT : T.size ≤ 16) :
    Calls Tryz.prog 72 #[.string T, .int .u8 k, .int .u8 r, .int .u8 m, .slice a c.length cap] w fun e w' => ∃ g cp, e = .returned (.slice (some ⟨g, 0, none⟩) (336 + c.length) cp) ∧ OwnB w' w.heap.size g cp (madeL (byL T) k r m c) ∧ Kept w w' := by
  by_cases h0 : 0 < c.length
  · obtain ⟨x, rfl, _⟩ := row_get row h0
    exact play_some T k r m c x cap w row h0 hc k0 k1 r0 r1 m0 m1 hT
  · obtain rfl : c = [] := List.eq_nil_of_length_eq_zero (by omega)
    exact play_none T k r m a cap w k0 k1 r0 r1 m0 m1 hT
theorem own_nil7 (w : World) (base : Nat) : w.ownsRow base 5 1 (.slice none 0 0) ([] : List Int).length (([] : List Int).map (Value.int .u8)) := ⟨rfl, .inl ⟨rfl, rfl⟩⟩
theorem owns_set {w : World} {base g cap : Nat} {L : List Int} (h : OwnB w base g cap L) {b : Nat} (ne : b ≠ g) (j : Nat) (v : Value) : OwnB (w.setCell ⟨b, j, none⟩ v) base g cap L := by
  obtain ⟨h0, h | ⟨g2, cap2, cur, e, hb, hh, hr⟩⟩ := h
  · cases h.1
  · cases e
    exact ⟨h0, .inr ⟨g, cap, cur, rfl, hb, by rw [heap_setCell_other w ⟨b, j, none⟩ g v (fun e => ne e.symm)]; exact hh, hr⟩⟩
theorem owns_base {w : World} {b1 b2 g cap : Nat} {L : List Int} (h : OwnB w b1 g cap L) (hb : b2 ≤ b1) : OwnB w b2 g cap L := by
  obtain ⟨h0, h | ⟨g2, cap2, cur, e, h1, hh, hr⟩⟩ := h
  · cases h.1
  · exact ⟨h0, .inr ⟨g2, cap2, cur, e, Nat.le_trans hb h1, hh, hr⟩⟩
set_option maxRecDepth 100000 in
set_option maxHeartbeats 4000000 in
theorem pmake_ok (T : ByteArray) (k r m : Int) (c : List Int) (a : Option Addr) (cap : Nat) (w : World) (lay : Lay7 w) (row : Row w a c) (k0 : 0 ≤ k) (k1 : k ≤ 255) (r0 : 0 ≤ r) (r1 : r ≤ 255) (m0 : 0 ≤ m) (m1 : m ≤ 255) (hsz : T.size ≤ maxLen)
    (ok : makeE (byL T) k r m c = 0) :
    Calls Tryz.prog 46 #[.string T, .int .u8 k, .int .u8 r, .int .u8 m, .slice a c.length cap] w fun e w' => ∃ g cp, e = .returned (.tuple #[.slice (some ⟨g, 0, none⟩) (336 + c.length) cp, .int .i64 0]) ∧ OwnB w' w.heap.size g cp (madeL (byL T) k r m c) ∧ Kept w w' := by
  have hmf : ∀ (fn : Fn) (first cap : Array Value) (w : World), (Instr.makeFunc fn first cap).run Tryz.prog w = .ok (.func fn first cap) w := fun _ _ _ _ => rfl
  obtain ⟨_, h1, h2, h3, h4, h5, h6⟩ := make_ok _ _ _ _ _ ok
  have SO : signsOk T := ⟨by rw [← byL_len]; exact h1, h2⟩
  have MB : 32768 ≤ mostOf r ∧ mostOf r ≤ 16777216 := most_fin ⟨r.toNat, by omega⟩
  have hc : c.length ≤ 16777216 := by omega
  have CT := hid (fun u => pchkt_any T u hsz)
  have CK := hid (fun u (g : Kept w u) => ptraits_any k u (lay.kept g) k0 k1)
  have CZ := hid (fun u => psize_ok r m (336 + (c.length : Int)) u r0 m0 m1 (by unfold sizeBad; omega))
  have CL := hid (fun u (g : Kept w u) => play_any T k r m c a cap u (row_kept g row) hc k0 k1 r0 r1 m0 m1 SO.1)
  rw [h3] at CK
  generalize madeL (byL T) k r m c = ML at *
  generalize c.length = n at *
  have wn : IntKind.i64.wrap (336 + (n : Int)) = 336 + (n : Int) := by rw [IntKind.wrap_i64]; omega
  unfold traitsV at CK
  clear lay row MB h6 h3
  go_enter_defers Tryz.func46, Tryz.ntmps46
  go_wp2_with fail
  refine (CT.out _).mono ?_
  rintro e u1 ⟨h, g1⟩
  obtain ⟨_, rfl⟩ := h.resolve_right (fun q => q.1 SO)
  have K1 := hid (((Kept.refl w).alloc _).trans g1)
  have HE := hid (has_kept7 g1 (has_alloc w #[.int .i64 0] 26))
  have FE : Hid (∀ o, u1.frozen? ⟨w.heap.size, o, none⟩ = false) := hid (fun o => by
    rw [g1.froz (x := ⟨w.heap.size, o, none⟩) (by simp)]
    exact grown_froz (alloc1 w _ _) (Nat.le_refl _) o)
  clear h g1
  go_wp2_with fail
  refine (CK.out _ K1.out).mono ?_
  rintro e u2 ⟨h, g2⟩
  obtain ⟨_, rfl⟩ := h.resolve_right (fun q => by cases q.1)
  have K2 := hid (K1.out.trans (Kept.of g2))
  have K12 := hid (Kept.of g2)
  clear h g2
  go_wp2_with fail
  refine (CZ.out _).mono ?_
  rintro e u3 ⟨rfl, rfl⟩
  go_wp2_with fail
  refine (CL.out _ K2.out).mono ?_
  rintro e u4 ⟨g, cp, rfl, o4, k4⟩
  have O4 := hid o4
  have K14 := hid (K12.out.trans k4)
  have K4 := hid (K2.out.trans k4)
  have gb := (ownB_lt o4).1
  have z2 := K2.out.size
  have HB := has_kept7 K14.out HE.out
  have b0 := HB.2 0
  simp at b0
  have zb := HB.1
  have fb : ∀ o, u4.frozen? ⟨w.heap.size, o, none⟩ = false := fun o => by
    rw [K14.out.froz (x := ⟨w.heap.size, o, none⟩) HE.out.1]; exact FE.out o
  have gn : w.heap.size ≠ g := by
    have := Nat.lt_of_lt_of_le HE.out.1 K12.out.size
    omega
  have O5 := hid (show OwnB (u4.setCell ⟨w.heap.size, 0, none⟩ (.int .i64 0)) u3.heap.size g cp ML from owns_set o4 gn _ _)
  clear o4 k4 HB
  go_wp2
  refine leaves_cons (f := 68) (args := #[.pointer (some ⟨w.heap.size, 0, none⟩)]) (by simp) (by simp [go_sem]) ?_
  refine (catchMake_idle ⟨w.heap.size, 0, none⟩ _).mono ?_
  rintro e u' w'' ⟨rfl, rfl, rfl⟩
  refine ⟨.tuple #[.slice (some ⟨g, 0, none⟩) (336 + n) cp, .int .i64 0], by simp [results, Tryz.results46, go_sem, b0, zb], g, cp, rfl, owns_base O5.out (K2.out.size), K4.out.setCell (Nat.le_refl _) _ _⟩
set_option maxRecDepth 100000 in
theorem pmake_title (T : ByteArray) (k r m : Int) (c : List Int) (a : Option Addr) (cap : Nat) (w : World) (lay : Lay7 w) (k0 : 0 ≤ k) (k1 : k ≤ 255) (r0 : 0 ≤ r) (m0 : 0 ≤ m) (m1 : m ≤ 255) (hsz : T.size ≤ maxLen) (hcl : c.length ≤ 140737488355328) (no : ¬ signsOk T) :
    Calls Tryz.prog 46 #[.string T, .int .u8 k, .int .u8 r, .int .u8 m, .slice a c.length cap] w fun e w' => e = .returned (.tuple #[.slice none 0 0, .int .i64 1]) ∧ Kept w w' := by
  have hmf : ∀ (fn : Fn) (first cap : Array Value) (w : World), (Instr.makeFunc fn first cap).run Tryz.prog w = .ok (.func fn first cap) w := fun _ _ _ _ => rfl
  have CT := hid (fun u => pchkt_any T u hsz)
  generalize c.length = n at *
  go_enter_defers Tryz.func46, Tryz.ntmps46
  go_wp2_with fail
  refine (CT.out _).mono ?_
  rintro e u1 ⟨h, g1⟩
  obtain ⟨_, rfl⟩ := h.resolve_left (fun q => no q.1)
  have K1 := hid (((Kept.refl w).alloc _).trans g1)
  have HE := has_kept7 g1 (has_alloc w #[.int .i64 0] 26)
  have FE : ∀ o, u1.frozen? ⟨w.heap.size, o, none⟩ = false := fun o => by
    rw [g1.froz (x := ⟨w.heap.size, o, none⟩) (by simp)]
    exact grown_froz (alloc1 w _ _) (Nat.le_refl _) o
  have b0 := HE.2 0
  simp at b0
  have zb := HE.1
  have fb := FE
  clear h g1 HE FE
  go_wp2
  refine leaves_cons (f := 68) (args := #[.pointer (some ⟨w.heap.size, 0, none⟩)]) (by simp) (by simp [go_sem]) ?_
  refine (catchMake_yes ⟨w.heap.size, 0, none⟩ 0 1 [] _ b0 (fb 0)).mono ?_
  rintro e u' w'' ⟨rfl, rfl, rfl⟩
  refine ⟨.tuple #[.slice none 0 0, .int .i64 1], by simp [results, Tryz.results46, go_sem, b0, zb], rfl, K1.out.setCell (Nat.le_refl _) _ _⟩
set_option maxRecDepth 100000 in
theorem pmake_kind (T : ByteArray) (k r m : Int) (c : List Int) (a : Option Addr) (cap : Nat) (w : World) (lay : Lay7 w) (k0 : 0 ≤ k) (k1 : k ≤ 255) (r0 : 0 ≤ r) (m0 : 0 ≤ m) (m1 : m ≤ 255) (hsz : T.size ≤ maxLen) (hcl : c.length ≤ 140737488355328) (SO : signsOk T) (no : kindOk k = false) :
    Calls Tryz.prog 46 #[.string T, .int .u8 k, .int .u8 r, .int .u8 m, .slice a c.length cap] w fun e w' => e = .returned (.tuple #[.slice none 0 0, .int .i64 4]) ∧ Kept w w' := by
  have hmf : ∀ (fn : Fn) (first cap : Array Value) (w : World), (Instr.makeFunc fn first cap).run Tryz.prog w = .ok (.func fn first cap) w := fun _ _ _ _ => rfl
  have CT := hid (fun u => pchkt_any T u hsz)
  have CK := hid (fun u (g : Kept w u) => ptraits_any k u (lay.kept g) k0 k1)
  rw [no] at CK
  generalize c.length = n at *
  clear lay
  go_enter_defers Tryz.func46, Tryz.ntmps46
  go_wp2_with fail
  refine (CT.out _).mono ?_
  rintro e u1 ⟨h, g1⟩
  obtain ⟨_, rfl⟩ := h.resolve_right (fun q => q.1 SO)
  have K1 := hid (((Kept.refl w).alloc _).trans g1)
  have HE := has_kept7 g1 (has_alloc w #[.int .i64 0] 26)
  have FE : ∀ o, u1.frozen? ⟨w.heap.size, o, none⟩ = false := fun o => by
    rw [g1.froz (x := ⟨w.heap.size, o, none⟩) (by simp)]
    exact grown_froz (alloc1 w _ _) (Nat.le_refl _) o
  clear h g1
  go_wp2_with fail
  refine (CK.out _ K1.out).mono ?_
  rintro e u2 ⟨h, g2⟩
  obtain ⟨_, rfl⟩ := h.resolve_left (fun q => by cases q.1)
  have K2 := hid (K1.out.trans (Kept.of g2))
  have HB := has_kept7 (Kept.of g2) HE
  have b0 := HB.2 0
  simp at b0
  have zb := HB.1
  have fb : ∀ o, u2.frozen? ⟨w.heap.size, o, none⟩ = false := fun o => by
    rw [(Kept.of g2).froz (x := ⟨w.heap.size, o, none⟩) HE.1]; exact FE o
  clear h g2 HE FE HB
  go_wp2
  refine leaves_cons (f := 68) (args := #[.pointer (some ⟨w.heap.size, 0, none⟩)]) (by simp) (by simp [go_sem]) ?_
  refine (catchMake_yes ⟨w.heap.size, 0, none⟩ 0 4 [] _ b0 (fb 0)).mono ?_
  rintro e u' w'' ⟨rfl, rfl, rfl⟩
  refine ⟨.tuple #[.slice none 0 0, .int .i64 4], by simp [results, Tryz.results46, go_sem, b0, zb], rfl, K2.out.setCell (Nat.le_refl _) _ _⟩
set_option maxRecDepth 100000 in
theorem pmake_size (T : ByteArray) (k r m : Int) (c : List Int) (a : Option Addr) (cap : Nat) (w : World) (lay : Lay7 w) (k0 : 0 ≤ k) (k1 : k ≤ 255) (r0 : 0 ≤ r) (m0 : 0 ≤ m) (m1 : m ≤ 255) (hsz : T.size ≤ maxLen) (hcl : c.length ≤ 140737488355328) (SO : signsOk T) (hk : kindOk k = true) (no : sizeBad r m (336 + (c.length : Int))) :
    Calls Tryz.prog 46 #[.string T, .int .u8 k, .int .u8 r, .int .u8 m, .slice a c.length cap] w fun e w' => e = .returned (.tuple #[.slice none 0 0, .int .i64 5]) ∧ Kept w w' := by
  have hmf : ∀ (fn : Fn) (first cap : Array Value) (w : World), (Instr.makeFunc fn first cap).run Tryz.prog w = .ok (.func fn first cap) w := fun _ _ _ _ => rfl
  have CT := hid (fun u => pchkt_any T u hsz)
  have CK := hid (fun u (g : Kept w u) => ptraits_any k u (lay.kept g) k0 k1)
  rw [hk] at CK
  unfold traitsV at CK
  have CZ := hid (fun u => psize_no r m (336 + (c.length : Int)) u r0 m0 m1 no)
  generalize c.length = n at *
  have wn : IntKind.i64.wrap (336 + (n : Int)) = 336 + (n : Int) := by rw [IntKind.wrap_i64]; omega
  clear lay
  go_enter_defers Tryz.func46, Tryz.ntmps46
  go_wp2_with fail
  refine (CT.out _).mono ?_
  rintro e u1 ⟨h, g1⟩
  obtain ⟨_, rfl⟩ := h.resolve_right (fun q => q.1 SO)
  have K1 := hid (((Kept.refl w).alloc _).trans g1)
  have HE := has_kept7 g1 (has_alloc w #[.int .i64 0] 26)
  have FE : ∀ o, u1.frozen? ⟨w.heap.size, o, none⟩ = false := fun o => by
    rw [g1.froz (x := ⟨w.heap.size, o, none⟩) (by simp)]
    exact grown_froz (alloc1 w _ _) (Nat.le_refl _) o
  clear h g1
  go_wp2_with fail
  refine (CK.out _ K1.out).mono ?_
  rintro e u2 ⟨h, g2⟩
  obtain ⟨_, rfl⟩ := h.resolve_right (fun q => by cases q.1)
  have K2 := hid (K1.out.trans (Kept.of g2))
  have HB := has_kept7 (Kept.of g2) HE
  have b0 := HB.2 0
  simp at b0
  have zb := HB.1
  have fb : ∀ o, u2.frozen? ⟨w.heap.size, o, none⟩ = false := fun o => by
    rw [(Kept.of g2).froz (x := ⟨w.heap.size, o, none⟩) HE.1]; exact FE o
  clear h g2 HE FE HB
  go_wp2_with fail
  refine (CZ.out _).mono ?_
  rintro e u3 ⟨rfl, rfl⟩
  go_wp2
  refine leaves_cons (f := 68) (args := #[.pointer (some ⟨w.heap.size, 0, none⟩)]) (by simp) (by simp [go_sem]) ?_
  refine (catchMake_yes ⟨w.heap.size, 0, none⟩ 0 5 [] _ b0 (fb 0)).mono ?_
  rintro e u' w'' ⟨rfl, rfl, rfl⟩
  refine ⟨.tuple #[.slice none 0 0, .int .i64 5], by simp [results, Tryz.results46, go_sem, b0, zb], rfl, K2.out.setCell (Nat.le_refl _) _ _⟩
theorem hmake_any (T : ByteArray) (k r m : Int) (c : List Int) (a : Option Addr) (cap : Nat) (w : World) (lay : Lay7 w) (row : Row w a c) (hcl : c.length ≤ 140737488355328) (k0 : 0 ≤ k) (k1 : k ≤ 255) (r0 : 0 ≤ r) (r1 : r ≤ 255) (m0 : 0 ≤ m) (m1 : m ≤ 255) (hsz : T.size ≤ maxLen) :
    Calls Tryz.prog 46 #[.string T, .int .u8 k, .int .u8 r, .int .u8 m, .slice a c.length cap] w fun e w' => ∃ v, e = .returned (.tuple #[v, .int .i64 (makeE (byL T) k r m c)]) ∧ w'.ownsRow w.heap.size 5 1 v (makeB (byL T) k r m c).length ((makeB (byL T) k r m c).map (Value.int .u8)) ∧ Kept w w' := by
  by_cases h0 : makeE (byL T) k r m c = 0
  · rw [(make_ok _ _ _ _ _ h0).1, h0]
    refine (pmake_ok T k r m c a cap w lay row k0 k1 r0 r1 m0 m1 hsz h0).mono fun e w' ⟨g, cp, he, ho, hk⟩ => ⟨_, he, ?_, hk⟩
    unfold OwnB at ho
    rw [madeL_len] at ho ⊢
    exact ho
  have E : makeB (byL T) k r m c = [] := by unfold makeB; rw [if_neg h0]
  rw [E]
  have fin : ∀ n : Int, makeE (byL T) k r m c = n → (Calls Tryz.prog 46 #[.string T, .int .u8 k, .int .u8 r, .int .u8 m, .slice a c.length cap] w fun e w' => e = .returned (.tuple #[.slice none 0 0, .int .i64 n]) ∧ Kept w w') →
      Calls Tryz.prog 46 #[.string T, .int .u8 k, .int .u8 r, .int .u8 m, .slice a c.length cap] w fun e w' => ∃ v, e = .returned (.tuple #[v, .int .i64 (makeE (byL T) k r m c)]) ∧ w'.ownsRow w.heap.size 5 1 v ([] : List Int).length (([] : List Int).map (Value.int .u8)) ∧ Kept w w' := fun n hn h => by
    rw [hn]
    exact h.mono fun e w' ⟨he, hk⟩ => ⟨_, he, own_nil7 _ _, hk⟩
  by_cases h1 : signsOk T
  · by_cases h2 : kindOk k = true
    · have SA : (byL T).all signB = true := List.all_eq_true.2 h1.2
      have LT : ¬ 16 < (byL T).length := by rw [byL_len]; have := h1.1; omega
      have h3 := make_small (byL T) k r m c LT SA h2 h0
      exact fin 5 (makeE_size _ _ _ _ _ LT SA h2 h3) (pmake_size T k r m c a cap w lay k0 k1 r0 m0 m1 hsz hcl h1 h2 (by unfold sizeBad; omega))
    · have SA : (byL T).all signB = true := List.all_eq_true.2 h1.2
      have LT : ¬ 16 < (byL T).length := by rw [byL_len]; have := h1.1; omega
      exact fin 4 (makeE_kind _ _ _ _ _ LT SA (by simpa using h2)) (pmake_kind T k r m c a cap w lay k0 k1 r0 m0 m1 hsz hcl h1 (by simpa using h2))
  · refine fin 1 ?_ (pmake_title T k r m c a cap w lay k0 k1 r0 m0 m1 hsz hcl h1)
    by_cases hT : 16 < T.size
    · exact makeE_long _ _ _ _ _ (by rw [byL_len]; exact hT)
    · refine makeE_sign _ _ _ _ _ ?_
      cases hA : (byL T).all signB with
      | false => rfl
      | true => exact absurd ⟨by omega, List.all_eq_true.1 hA⟩ h1
theorem hwhole_any (z : List Int) (a : Option Addr) (cap : Nat) (w : World) (row : Row w a z) : Calls Tryz.prog 82 #[.slice a z.length cap] w fun e w' => e = .returned (.int .u16 (wholeOf z)) ∧ Kept w w' :=
  (pwhole_any z a cap w row).mono fun e w' ⟨he, hw⟩ => ⟨he, by rw [hw]; exact Kept.refl _⟩
end Go.Proofs.YtfmddnekooojkaaGreatDoor
