/- The objects of a memory, over this seat's translation: the program's and the document's. -/
import Derived.Test.YtecgpdjgbdobbabG15
import Derived.Test.YtecgpdjgbdobbabG18
import Derived.Test.YtecgpdjgbdobbabChecked
import Derived.Laws.CopyOwn
import Derived.Lib.BufferWrite
import Derived.BigRegion
namespace Go.Proofs.Ytecgpdjgbdobbab
open Go.RowKit
set_option linter.unusedVariables false
set_option linter.unusedSimpArgs false

def fourL (z : List Int) (k : Nat) : List Value := [.int .u8 (z.getD k 0), .int .u8 (z.getD (k + 1) 0), .int .u8 (z.getD (k + 2) 0), .int .u8 (z.getD (k + 3) 0)]
theorem four_eq (z : List Int) (k : Nat) : ((z.drop k).take 4).map (Value.int .u8) ++ [Value.int .u8 0, .int .u8 0, .int .u8 0, .int .u8 0].drop (((z.drop k).take 4).map (Value.int .u8)).length = fourL z k := by
  have g : ∀ i, z.getD (k + i) 0 = (z.drop k).getD i 0 := fun i => by rw [List.getD_eq_getElem?_getD, List.getD_eq_getElem?_getD, List.getElem?_drop]
  unfold fourL
  rw [show z.getD k 0 = (z.drop k).getD 0 0 from g 0, g 1, g 2, g 3]
  generalize z.drop k = y
  match y with
  | [] => rfl
  | [a] => rfl
  | [a, b] => rfl
  | [a, b, c] => rfl
  | a :: b :: c :: d :: r => rfl
theorem blk_setRow {w : World} {g : Nat} {t : TypeId} {cs : List Value} (h : Blk w g t cs) (ds : List Value) : Blk (w.setRow g ds.toArray) g t ds := setRow_heap w g _ _ _ _ h
theorem kept_setRow16 {W w : World} (h : Kept W w) {g : Nat} (hg : W.heap.size ≤ g) (cs : Array Value) : Kept W (w.setRow g cs) :=
  ⟨h.os, h.output, by simpa using h.size, fun k hk => (setRow_other w g k cs (by omega)).trans (h.block k hk)⟩
/-- A copy of four bytes at most into four of one's own. -/
theorem copy16 {w : World} {g : Nat} {x : Addr} {z : List Int} {lo sCap : Nat} (hB : Blk w g 87 [.int .u8 0, .int .u8 0, .int .u8 0, .int .u8 0]) (hs : Row w (some x) z) (ad : Addr) (hlo : lo ≤ z.length) (hx : lo < z.length → ad = x.add lo) :
    ∃ w2 n, (∀ ty, (Builtin.copy_ #[22, 22] ty #[.slice (some ⟨g, 0, none⟩) 4 4, .slice (some ad) (z.length - lo) sCap]).run Try.prog w = .ok (.int .i64 n) w2) ∧ Blk w2 g 87 (fourL z lo) ∧ (∀ W, Kept W w → W.heap.size ≤ g → Kept W w2) ∧ (∀ b t cs, b ≠ g → Blk w b t cs → Blk w2 b t cs) := by
  have C : ∀ ty, _ := fun ty => run_copy_row Try.prog w 22 22 ty 5 g 0 4 4 ad (z.length - lo) sCap _ 87 (((z.drop lo).take 4).map (Value.int .u8)) Try.underlying22 (by kernel_rfl) hB (by rw [List.length_map, List.length_take, List.length_drop]; exact Nat.min_comm _ _) (fun j v hv => ?_) (by rw [List.length_map, List.length_take]; simp; omega) (fun v hv => by obtain ⟨q, _, rfl⟩ := List.mem_map.1 hv; rfl)
  · refine ⟨_, _, C, ?_, fun W k hg => kept_setRow16 k hg _, fun b t cs hne h => (setRow_other w g b _ hne).trans h⟩
    rw [show ([Value.int .u8 0, .int .u8 0, .int .u8 0, .int .u8 0].toArray.toList.take 0 ++ ((z.drop lo).take 4).map (Value.int .u8) ++ [Value.int .u8 0, .int .u8 0, .int .u8 0, .int .u8 0].toArray.toList.drop (0 + (((z.drop lo).take 4).map (Value.int .u8)).length)) = fourL z lo by
      rw [Nat.zero_add]; exact four_eq z lo]
    exact blk_setRow hB _
  · rw [List.getElem?_map, List.getElem?_take] at hv
    split at hv
    · rw [List.getElem?_drop] at hv
      have hl : lo + j < z.length := by
        by_cases q : lo + j < z.length
        · exact q
        · rw [List.getElem?_eq_none (by omega)] at hv; cases hv
      rw [hx (by omega), add_add]
      obtain ⟨y, e, _, hc⟩ := row_get hs (by omega)
      obtain rfl : x = y := Option.some.inj e
      rw [(hc (lo + j) hl).1, ← hv, List.getD_eq_getElem?_getD, List.getElem?_eq_getElem hl]
      rfl
    · cases hv
theorem obj_of {z : List Int} (h : ∀ x ∈ z, InByte x) {i : Nat} (hi : i < 40) : obV (objN z i) = .agg #[.int .u8 (z.getD (4 * i) 0), .int .u8 (z.getD (4 * i + 1) 0), .int .u8 (z.getD (4 * i + 2) 0), .int .u8 (z.getD (4 * i + 3) 0), .int .u8 (i : Int)] := by
  unfold obV objN
  simp only [b8, byF_val h, Nat.mod_eq_of_lt (show i < 256 by omega)]
set_option maxRecDepth 100000 in
set_option maxHeartbeats 4000000 in
theorem pobj16 (a : Option Addr) (cap : Nat) (z : List Int) (i : Nat) (w : World) (h : Sl w a cap z) (hi : i < 40) (hl : z.length ≤ 140737488355328) : Calls Try.prog 40 #[.slice a z.length cap, .int .i64 (i : Int)] w fun e w' => e = .returned (obV (objN z i)) ∧ Kept w w' := by
  rw [obj_of h.row.2.1 hi]
  obtain ⟨K, hK⟩ : ∃ K, K = 4 * i := ⟨_, rfl⟩
  have r0 : IntKind.i64.wrap (4 * (i : Int)) = (K : Int) := by rw [IntKind.wrap_i64]; omega
  have r8 : IntKind.u8.wrap (i : Int) = (i : Int) := by rw [IntKind.wrap_u8]; omega
  rw [← hK]
  have hKb : K < 200 := by omega
  clear hK
  obtain ⟨lo, hlo⟩ : ∃ lo, lo = min K z.length := ⟨_, rfl⟩
  have F4 : Hid (fourL z lo = fourL z K) := by
    show fourL z lo = fourL z K
    by_cases c : K ≤ z.length
    · rw [hlo, Nat.min_eq_left c]
    · unfold fourL
      rw [byF_out (i := K) (by omega), byF_out (i := K + 1) (by omega), byF_out (i := K + 2) (by omega), byF_out (i := K + 3) (by omega), byF_out (i := lo) (by omega), byF_out (i := lo + 1) (by omega), byF_out (i := lo + 2) (by omega), byF_out (i := lo + 3) (by omega)]
  obtain ⟨u, hu⟩ : ∃ u, u = ((w.alloc (.cells ([.int .u8 0, .int .u8 0, .int .u8 0, .int .u8 0, .int .u8 0] : List Value).toArray 52)).alloc (.cells ([.int .u8 0, .int .u8 0, .int .u8 0, .int .u8 0] : List Value).toArray 87)) := ⟨_, rfl⟩
  have B0 : Blk u w.heap.size 52 [.int .u8 0, .int .u8 0, .int .u8 0, .int .u8 0, .int .u8 0] := by rw [hu]; exact blk_past (blk_new w _ _) _
  have B1 : Blk u (w.heap.size + 1) 87 [.int .u8 0, .int .u8 0, .int .u8 0, .int .u8 0] := by
    rw [hu]
    have := blk_new (w.alloc (.cells ([.int .u8 0, .int .u8 0, .int .u8 0, .int .u8 0, .int .u8 0] : List Value).toArray 52)) [.int .u8 0, .int .u8 0, .int .u8 0, .int .u8 0] 87
    rw [World.size_alloc] at this
    exact this
  have KU : Hid (Kept w u) := by rw [hu]; exact ((Kept.refl w).alloc _).alloc _
  have n64 : z.length ≤ 140737488355328 := hl
  cases a with
  | none =>
    have c0 := h.nil rfl
    have l0 := h.len
    obtain rfl : z = [] := List.eq_nil_of_length_eq_zero (by omega)
    subst c0
    have CP : ∀ ty, (Builtin.copy_ #[22, 22] ty #[.slice (some ⟨w.heap.size + 1, 0, none⟩) 4 4, .slice none 0 0]).run Try.prog u.drew = .ok (.int .i64 0) u.drew := fun ty => run_copy_nil Try.prog u.drew 22 22 ty 5 _ 4 4 Try.underlying22 (by kernel_rfl)
    have P1 : Blk u.drew (w.heap.size + 1) 87 (fourL [] K) := by
      have e : fourL [] K = [.int .u8 0, .int .u8 0, .int .u8 0, .int .u8 0] := by unfold fourL; rw [byF_out (by simp), byF_out (by simp), byF_out (by simp), byF_out (by simp)]
      rw [e]
      exact blk_drew B1
    have P0 := blk_drew B0
    have K2 := hid (KU.out.drew)
    clear F4 hlo n64 hl
    have c0 := blk_cell P1 0
    have c1 := blk_cell P1 1
    have c2 := blk_cell P1 2
    have c3 := blk_cell P1 3
    simp only [fourL, List.getElem?_cons_zero, List.getElem?_cons_succ] at c0 c1 c2 c3
    generalize ([] : List Int).getD K 0 = v0 at *
    generalize ([] : List Int).getD (K + 1) 0 = v1 at *
    generalize ([] : List Int).getD (K + 2) 0 = v2 at *
    generalize ([] : List Int).getD (K + 3) 0 = v3 at *
    have zz := blk_lt P1
    clear P1
    clear B0 B1 h l0
    have hn : ([] : List Int).length = 0 := rfl
    rw [hn]
    clear hn
    rcases Nat.eq_zero_or_pos K with k0 | k0
    · subst k0
      go_enter Try.func40, Try.ntmps40
      go_wp2_with fail
      rw [← hu]
      clear hu
      go_big_region
      go_wp2_with ((with_reducible refine at_st 52 ?_); refine wl_store rfl rfl rfl rfl P0 (by kernel_rfl) rfl (Nat.le_of_ble_eq_true rfl) (fun v6 p6 => ?_); have B6 : Blk v6 w.heap.size 52 [.int .u8 v0, .int .u8 v1, .int .u8 v2, .int .u8 v3, .int .u8 (i : Int)] := p6.blk; have K6 := hid (p6.kept _ K2.out (Nat.le_refl _)); clear p6)
      exact bodyPost_ret (res_cell Try.results40 rfl B6 Try.underlying52 rfl (by kernel_rfl)) rfl ⟨rfl, K6.out⟩
    · have g0 : (0 : Int) < (K : Int) := by omega
      go_enter Try.func40, Try.ntmps40
      go_wp2_with fail
      rw [← hu]
      clear hu
      go_big_region
      go_wp2_with ((with_reducible refine at_st 52 ?_); refine wl_store rfl rfl rfl rfl P0 (by kernel_rfl) rfl (Nat.le_of_ble_eq_true rfl) (fun v6 p6 => ?_); have B6 : Blk v6 w.heap.size 52 [.int .u8 v0, .int .u8 v1, .int .u8 v2, .int .u8 v3, .int .u8 (i : Int)] := p6.blk; have K6 := hid (p6.kept _ K2.out (Nat.le_refl _)); clear p6)
      exact bodyPost_ret (res_cell Try.results40 rfl B6 Try.underlying52 rfl (by kernel_rfl)) rfl ⟨rfl, K6.out⟩
  | some x =>
    obtain ⟨n, hn⟩ : ∃ n, z.length = n := ⟨_, rfl⟩
    have hcap := h.len
    have nl : lo ≤ n := by omega
    rcases Nat.lt_trichotomy K n with q | q | q
    · have lk : lo = K := by omega
      subst lk
      have g1 : ¬ (n : Int) < (lo : Int) := by omega
      have g2 : ¬ cap = lo := by omega
      have g3 : (lo : Int) ≤ (n : Int) := by omega
      obtain ⟨w2, nn, CP, P1, KP, OP⟩ := copy16 (lo := lo) (sCap := cap - lo) (blk_drew B1) (row_kept KU.out.drew h.row) (x.add lo) (by omega) (by first | (intro _; rfl) | (intro q; omega))
      have P0 := OP _ _ _ (by omega) (blk_drew B0)
      have K2 := hid (KP _ KU.out.drew (by omega))
      rw [F4.out] at P1
      clear KP OP F4 hlo
      have c0 := blk_cell P1 0
      have c1 := blk_cell P1 1
      have c2 := blk_cell P1 2
      have c3 := blk_cell P1 3
      simp only [fourL, List.getElem?_cons_zero, List.getElem?_cons_succ] at c0 c1 c2 c3
      generalize z.getD lo 0 = v0 at *
      generalize z.getD (lo + 1) 0 = v1 at *
      generalize z.getD (lo + 2) 0 = v2 at *
      generalize z.getD (lo + 3) 0 = v3 at *
      have zz := blk_lt P1
      clear P1
      rw [hn] at CP
      rw [hn]
      clear B0 B1 h
      go_enter Try.func40, Try.ntmps40
      go_wp2_with fail
      rw [← hu]
      clear hu
      go_big_region
      go_wp2_with ((with_reducible refine at_st 52 ?_); refine wl_store rfl rfl rfl rfl P0 (by kernel_rfl) rfl (Nat.le_of_ble_eq_true rfl) (fun v6 p6 => ?_); have B6 : Blk v6 w.heap.size 52 [.int .u8 v0, .int .u8 v1, .int .u8 v2, .int .u8 v3, .int .u8 (i : Int)] := p6.blk; have K6 := hid (p6.kept _ K2.out (Nat.le_refl _)); clear p6)
      exact bodyPost_ret (res_cell Try.results40 rfl B6 Try.underlying52 rfl (by kernel_rfl)) rfl ⟨rfl, K6.out⟩
    · have lk : lo = n := by omega
      have g1 : ¬ (n : Int) < (K : Int) := by omega
      by_cases cc : cap = n
      · obtain ⟨w2, nn, CP, P1, KP, OP⟩ := copy16 (lo := z.length) (sCap := 0) (blk_drew B1) (row_kept KU.out.drew h.row) (x) (by omega) (by first | (intro _; rfl) | (intro q; omega))
        have P0 := OP _ _ _ (by omega) (blk_drew B0)
        have K2 := hid (KP _ KU.out.drew (by omega))
        rw [show z.length = lo by omega, F4.out] at P1
        clear KP OP F4 hlo
        have c0 := blk_cell P1 0
        have c1 := blk_cell P1 1
        have c2 := blk_cell P1 2
        have c3 := blk_cell P1 3
        simp only [fourL, List.getElem?_cons_zero, List.getElem?_cons_succ] at c0 c1 c2 c3
        generalize z.getD K 0 = v0 at *
        generalize z.getD (K + 1) 0 = v1 at *
        generalize z.getD (K + 2) 0 = v2 at *
        generalize z.getD (K + 3) 0 = v3 at *
        have zz := blk_lt P1
        clear P1
        rw [hn, Nat.sub_self] at CP
        rw [hn]
        clear B0 B1 h
        go_enter Try.func40, Try.ntmps40
        go_wp2_with fail
        rw [← hu]
        clear hu
        go_big_region
        go_wp2_with ((with_reducible refine at_st 52 ?_); refine wl_store rfl rfl rfl rfl P0 (by kernel_rfl) rfl (Nat.le_of_ble_eq_true rfl) (fun v6 p6 => ?_); have B6 : Blk v6 w.heap.size 52 [.int .u8 v0, .int .u8 v1, .int .u8 v2, .int .u8 v3, .int .u8 (i : Int)] := p6.blk; have K6 := hid (p6.kept _ K2.out (Nat.le_refl _)); clear p6)
        exact bodyPost_ret (res_cell Try.results40 rfl B6 Try.underlying52 rfl (by kernel_rfl)) rfl ⟨rfl, K6.out⟩
      · obtain ⟨w2, nn, CP, P1, KP, OP⟩ := copy16 (lo := z.length) (sCap := cap - n) (blk_drew B1) (row_kept KU.out.drew h.row) (x.add n) (by omega) (by first | (intro _; rfl) | (intro q; omega))
        have P0 := OP _ _ _ (by omega) (blk_drew B0)
        have K2 := hid (KP _ KU.out.drew (by omega))
        rw [show z.length = lo by omega, F4.out] at P1
        clear KP OP F4 hlo
        have c0 := blk_cell P1 0
        have c1 := blk_cell P1 1
        have c2 := blk_cell P1 2
        have c3 := blk_cell P1 3
        simp only [fourL, List.getElem?_cons_zero, List.getElem?_cons_succ] at c0 c1 c2 c3
        generalize z.getD K 0 = v0 at *
        generalize z.getD (K + 1) 0 = v1 at *
        generalize z.getD (K + 2) 0 = v2 at *
        generalize z.getD (K + 3) 0 = v3 at *
        have zz := blk_lt P1
        clear P1
        rw [hn, Nat.sub_self] at CP
        rw [hn]
        clear B0 B1 h
        go_enter Try.func40, Try.ntmps40
        go_wp2_with fail
        rw [← hu]
        clear hu
        go_big_region
        go_wp2_with ((with_reducible refine at_st 52 ?_); refine wl_store rfl rfl rfl rfl P0 (by kernel_rfl) rfl (Nat.le_of_ble_eq_true rfl) (fun v6 p6 => ?_); have B6 : Blk v6 w.heap.size 52 [.int .u8 v0, .int .u8 v1, .int .u8 v2, .int .u8 v3, .int .u8 (i : Int)] := p6.blk; have K6 := hid (p6.kept _ K2.out (Nat.le_refl _)); clear p6)
        exact bodyPost_ret (res_cell Try.results40 rfl B6 Try.underlying52 rfl (by kernel_rfl)) rfl ⟨rfl, K6.out⟩
    · have lk : lo = n := by omega
      have g1 : (n : Int) < (K : Int) := by omega
      by_cases cc : cap = n
      · obtain ⟨w2, nn, CP, P1, KP, OP⟩ := copy16 (lo := z.length) (sCap := 0) (blk_drew B1) (row_kept KU.out.drew h.row) (x) (by omega) (by first | (intro _; rfl) | (intro q; omega))
        have P0 := OP _ _ _ (by omega) (blk_drew B0)
        have K2 := hid (KP _ KU.out.drew (by omega))
        rw [show z.length = lo by omega, F4.out] at P1
        clear KP OP F4 hlo
        have c0 := blk_cell P1 0
        have c1 := blk_cell P1 1
        have c2 := blk_cell P1 2
        have c3 := blk_cell P1 3
        simp only [fourL, List.getElem?_cons_zero, List.getElem?_cons_succ] at c0 c1 c2 c3
        generalize z.getD K 0 = v0 at *
        generalize z.getD (K + 1) 0 = v1 at *
        generalize z.getD (K + 2) 0 = v2 at *
        generalize z.getD (K + 3) 0 = v3 at *
        have zz := blk_lt P1
        clear P1
        rw [hn, Nat.sub_self] at CP
        rw [hn]
        clear B0 B1 h
        go_enter Try.func40, Try.ntmps40
        go_wp2_with fail
        rw [← hu]
        clear hu
        go_big_region
        go_wp2_with ((with_reducible refine at_st 52 ?_); refine wl_store rfl rfl rfl rfl P0 (by kernel_rfl) rfl (Nat.le_of_ble_eq_true rfl) (fun v6 p6 => ?_); have B6 : Blk v6 w.heap.size 52 [.int .u8 v0, .int .u8 v1, .int .u8 v2, .int .u8 v3, .int .u8 (i : Int)] := p6.blk; have K6 := hid (p6.kept _ K2.out (Nat.le_refl _)); clear p6)
        exact bodyPost_ret (res_cell Try.results40 rfl B6 Try.underlying52 rfl (by kernel_rfl)) rfl ⟨rfl, K6.out⟩
      · obtain ⟨w2, nn, CP, P1, KP, OP⟩ := copy16 (lo := z.length) (sCap := cap - n) (blk_drew B1) (row_kept KU.out.drew h.row) (x.add n) (by omega) (by first | (intro _; rfl) | (intro q; omega))
        have P0 := OP _ _ _ (by omega) (blk_drew B0)
        have K2 := hid (KP _ KU.out.drew (by omega))
        rw [show z.length = lo by omega, F4.out] at P1
        clear KP OP F4 hlo
        have c0 := blk_cell P1 0
        have c1 := blk_cell P1 1
        have c2 := blk_cell P1 2
        have c3 := blk_cell P1 3
        simp only [fourL, List.getElem?_cons_zero, List.getElem?_cons_succ] at c0 c1 c2 c3
        generalize z.getD K 0 = v0 at *
        generalize z.getD (K + 1) 0 = v1 at *
        generalize z.getD (K + 2) 0 = v2 at *
        generalize z.getD (K + 3) 0 = v3 at *
        have zz := blk_lt P1
        clear P1
        rw [hn, Nat.sub_self] at CP
        rw [hn]
        clear B0 B1 h
        go_enter Try.func40, Try.ntmps40
        go_wp2_with fail
        rw [← hu]
        clear hu
        go_big_region
        go_wp2_with ((with_reducible refine at_st 52 ?_); refine wl_store rfl rfl rfl rfl P0 (by kernel_rfl) rfl (Nat.le_of_ble_eq_true rfl) (fun v6 p6 => ?_); have B6 : Blk v6 w.heap.size 52 [.int .u8 v0, .int .u8 v1, .int .u8 v2, .int .u8 v3, .int .u8 (i : Int)] := p6.blk; have K6 := hid (p6.kept _ K2.out (Nat.le_refl _)); clear p6)
        exact bodyPost_ret (res_cell Try.results40 rfl B6 Try.underlying52 rfl (by kernel_rfl)) rfl ⟨rfl, K6.out⟩
end Go.Proofs.Ytecgpdjgbdobbab
