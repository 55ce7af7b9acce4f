/- The program's memories: New, copied, Vram, Oam. -/
import Derived.Test.YtfndpikcodjajaaDoorPb20b
import Derived.Laws.CopyOwn
namespace Go.Proofs.YtfndpikcodjajaaDoor
open Go.RowKit
set_option linter.unusedVariables false
set_option linter.unusedSimpArgs false

def isZ20 : Value → Bool
  | .int .u8 n => n == 0
  | _ => false
theorem isZ20_eq (v : Value) (h : isZ20 v = true) : v = .int .u8 0 := by
  unfold isZ20 at h
  split at h
  · rename_i n; have : n = 0 := by simpa using h
    rw [this]
  · cases h
theorem mz_a : ((Tryd.t55.zero.getD undef).cells.toList.take 1) = [.bool false] := by kernel_rfl
theorem mz_b : ((Tryd.t55.zero.getD undef).cells.toList.drop 1).all isZ20 = true := by kernel_rfl
theorem mz_d : ((Tryd.t55.zero.getD undef).cells.toList.length == 16672) = true := by kernel_rfl
theorem mz : (Tryd.t55.zero.getD undef).cells.toList = memL false M0 := by
  have l := List.take_append_drop 1 (Tryd.t55.zero.getD undef).cells.toList
  rw [mz_a] at l
  have e : ((Tryd.t55.zero.getD undef).cells.toList.drop 1) = M0.map (Value.int .u8) := by
    rw [show M0.map (Value.int .u8) = List.replicate 16671 (.int .u8 0) from List.map_replicate]
    refine List.eq_replicate_iff.2 ⟨?_, fun v hv => isZ20_eq v (List.all_eq_true.1 mz_b v hv)⟩
    rw [List.length_drop, beq_iff_eq.1 mz_d]
  rw [e] at l
  exact l.symm
theorem mz_agg : ∃ cs, Tryd.t55.zero = some (.agg cs) := ⟨_, rfl⟩
theorem zero20 (w : World) : (zeroValue 55).run Tryd.prog w = .ok (.agg (memL false M0).toArray) w := by
  obtain ⟨cs, hc⟩ := mz_agg
  have z := mz
  rw [hc] at z
  have z2 : cs = (memL false M0).toArray := by rw [← z]; rfl
  unfold zeroValue
  simp only [Sem.run_bind, Tryd.typeInfo55, Result.andThen_ok, hc, z2]
  rfl
set_option maxRecDepth 100000 in
set_option maxHeartbeats 4000000 in
theorem pnew20 (w : World) (lay : Lay20 w) : Calls Tryd.prog 18 #[] w fun e w' => e = .returned (.pointer (some ⟨w.heap.size, 0, none⟩)) ∧ MemAt w' w.heap.size M0 ∧ Kept w w' := by
  obtain ⟨Z, hZ⟩ : ∃ Z, (memL false M0).toArray = Z := ⟨_, rfl⟩
  have hz0 : ∀ u, (zeroValue 55).run Tryd.prog u = .ok (.agg Z) u := fun u => by rw [← hZ]; exact zero20 u
  have hz1 : ¬ Z = #[] := by rw [← hZ]; intro q; have := congrArg Array.size q; rw [List.size_toArray, memL_len M0_len] at this; simp at this
  have hz2 : Z.setIfInBounds 0 (.bool true) = (memL true M0).toArray := by rw [← hZ]; simp [memL]
  clear hZ
  have BN := hid (blk_new w (memL true M0) 55)
  have KN := hid ((Kept.refl w).alloc (.cells (memL true M0).toArray 55))
  have L0 := hid lay.1
  clear lay
  go_enter Tryd.func18, Tryd.ntmps18
  go_wp2
  go_ret
  exact ⟨rfl, ⟨BN.out, M0_len, M0_in, L0.out⟩, KN.out⟩
abbrev BB20 (w : World) (b : Nat) (L : List Int) : Prop := Blk w b 5 (L.map (Value.int .u8))
theorem bb_row20 {w : World} {b : Nat} {L : List Int} (h : BB20 w b L) (hb : ∀ x ∈ L, InByte x) (hm : L.length ≤ maxLen) : Row w (some ⟨b, 0, none⟩) L :=
  ⟨hm, hb, .inr ⟨_, rfl, blk_lt h, fun i hi => by
    rw [ownB_add, blk_cell h, List.getElem?_map, List.getElem?_eq_getElem hi, List.getD_eq_getElem?_getD, List.getElem?_eq_getElem hi]
    rfl⟩⟩
theorem make20 (N : Nat) (h : N ≤ 131072) (w : World) : (Instr.makeSlice 33 (.int .i64 (N : Int)) (.int .i64 (N : Int))).run Tryd.prog w = .ok (.slice (some ⟨w.heap.size, 0, none⟩) N N) (w.alloc (.cells ((List.replicate N (0 : Int)).map (Value.int .u8)).toArray 5)) := by
  obtain ⟨i0, hi, hz0, hz1, hz2⟩ := info_parts info10_u8
  have r := run_make w 33 5 i0 (.int .u8 0) Tryd.underlying33 hi hz0 .i64 .i64 (N : Int) (N : Int) (by omega) (by omega) (by rw [hz2]; omega) (by omega)
  rw [r, hz1, Nat.mul_one, Int.toNat_natCast]
  have e : madeCells (Value.int .u8 0).cells N = ((List.replicate N (0 : Int)).map (Value.int .u8)).toArray := by
    apply Array.toList_inj.1
    rw [show (Value.int .u8 0).cells = #[Value.int .u8 0] from rfl, toList_madeCells_one]
    simp
  rw [e]
/-- A copy of a row, whole, into a row that has just been made. -/
theorem copy20 {w : World} {g cap : Nat} {x : Addr} {z : List Int} (hh : BB20 w g (List.replicate z.length 0)) (hs : Row w (some x) z) :
    ∃ w2, (∀ ty, (Builtin.copy_ #[33, 33] ty #[.slice (some ⟨g, 0, none⟩) z.length z.length, .slice (some x) z.length cap]).run Tryd.prog w = .ok (.int .i64 (z.length : Int)) w2) ∧ BB20 w2 g z ∧ (∀ W, Kept W w → W.heap.size ≤ g → Kept W w2) := by
  have e : (((List.replicate z.length (0 : Int)).map (Value.int .u8)).take 0 ++ z.map (Value.int .u8) ++ ((List.replicate z.length (0 : Int)).map (Value.int .u8)).drop (0 + (z.map (Value.int .u8)).length)) = z.map (Value.int .u8) := by
    rw [List.take_zero, List.nil_append, List.drop_of_length_le (by simp), List.append_nil]
  refine ⟨w.setRow g (z.map (Value.int .u8)).toArray, fun ty => ?_, ?_, fun W k hW => ?_⟩
  · have := run_copy_row Tryd.prog w 33 33 ty 5 g 0 z.length z.length x z.length cap _ 5 (z.map (Value.int .u8)) Tryd.underlying33 (by kernel_rfl) hh (by rw [List.length_map]; exact (Nat.min_self _).symm) (fun j v hv => row_news10 hs j v hv) (by simp) (fun v hv => by obtain ⟨q, _, rfl⟩ := List.mem_map.1 hv; rfl)
    rw [List.toList_toArray, e, List.length_map] at this
    exact this
  · exact setRow_heap w g _ _ _ _ hh
  · exact ⟨k.os, k.output, by simpa using k.size, fun i hi => (setRow_other w g i _ (by omega)).trans (k.block i hi)⟩
set_option maxRecDepth 100000 in
set_option maxHeartbeats 4000000 in
theorem pcopy20 (x : Addr) (z : List Int) (w : World) (hr : Row w (some x) z) (h0 : 0 < z.length) (h1 : z.length ≤ 131072) : Calls Tryd.prog 32 #[.slice (some x) z.length z.length] w fun e w' => e = .returned (.slice (some ⟨w.heap.size, 0, none⟩) z.length z.length) ∧ BB20 w' w.heap.size z ∧ Kept w w' := by
  have MR := make20 z.length h1 w
  have KN := hid ((Kept.refl w).alloc (.cells ((List.replicate z.length (0 : Int)).map (Value.int .u8)).toArray 5))
  obtain ⟨w2, C2, B2, K2⟩ := copy20 (cap := z.length) (blk_new w ((List.replicate z.length (0 : Int)).map (Value.int .u8)) 5) (row_kept KN.out hr)
  have K3 := hid (K2 w KN.out (Nat.le_refl _))
  have B3 := hid B2
  have g1 : ((z.length : Int) == 0) = false := by have : (z.length : Int) ≠ 0 := by omega
                                                  simpa using this
  clear hr KN K2 B2
  generalize (w.alloc (.cells ((List.replicate z.length (0 : Int)).map (Value.int .u8)).toArray 5)) = w1 at *
  go_enter Tryd.func32, Tryd.ntmps32
  go_wp2
  go_ret
  exact ⟨rfl, B3.out, K3.out⟩
set_option maxRecDepth 100000 in
set_option maxHeartbeats 4000000 in
theorem pcopy_no (w : World) : Calls Tryd.prog 32 #[.slice none 0 0] w fun e w' => e = .returned (.slice none 0 0) ∧ w' = w := by
  go_enter Tryd.func32, Tryd.ntmps32
  go_wp2
  go_ret
  exact ⟨rfl, rfl⟩
set_option maxRecDepth 100000 in
set_option maxHeartbeats 4000000 in
theorem pvrams20 (vp sl v : Value) (w : World) (Q : World → Prop) (H : Calls Tryd.prog 29 #[vp, .int .i64 1] w fun e w' => e = .returned (sl) ∧ w' = w) (C : Calls Tryd.prog 32 #[sl] w fun e w' => e = .returned (v) ∧ Q w') : Calls Tryd.prog 26 #[vp] w fun e w' => e = .returned (v) ∧ Q w' := by
  have H := hid H
  have C := hid C
  go_enter Tryd.func26, Tryd.ntmps26
  go_wp2_with fail
  refine H.out.mono ?_
  rintro e u ⟨rfl, rfl⟩
  go_wp2_with fail
  refine C.out.mono ?_
  rintro e u3 ⟨rfl, q3⟩
  go_wp2
  go_ret
  exact ⟨rfl, q3⟩
set_option maxRecDepth 100000 in
set_option maxHeartbeats 4000000 in
theorem poams20 (vp sl v : Value) (w : World) (Q : World → Prop) (H : Calls Tryd.prog 29 #[vp, .int .i64 4] w fun e w' => e = .returned (sl) ∧ w' = w) (C : Calls Tryd.prog 32 #[sl] w fun e w' => e = .returned (v) ∧ Q w') : Calls Tryd.prog 27 #[vp] w fun e w' => e = .returned (v) ∧ Q w' := by
  have H := hid H
  have C := hid C
  go_enter Tryd.func27, Tryd.ntmps27
  go_wp2_with fail
  refine H.out.mono ?_
  rintro e u ⟨rfl, rfl⟩
  go_wp2_with fail
  refine C.out.mono ?_
  rintro e u3 ⟨rfl, q3⟩
  go_wp2
  go_ret
  exact ⟨rfl, q3⟩
theorem seg_vram {M : List Int} (h : M.length = 16671) : ((M.drop 0).take 8192).length = 8192 := by rw [List.length_take, List.length_drop]; omega
theorem pvram20 (b : Nat) (M : List Int) (w : World) (h : MemAt w b M) : Calls Tryd.prog 26 #[.pointer (some ⟨b, 0, none⟩)] w fun e w' => e = .returned (.slice (some ⟨w.heap.size, 0, none⟩) 8192 8192) ∧ BB20 w' w.heap.size ((M.drop 0).take 8192) ∧ Kept w w' := by
  have H := pheld_in b M 1 w h (by decide)
  rw [show 1 + oNat 1 = 1 + 0 from rfl, show nNat 1 = 8192 from rfl] at H
  have l := seg_vram h.len
  have C := pcopy20 ⟨b, 1 + 0, none⟩ ((M.drop 0).take 8192) w (mem_row h 0 8192 (by decide)) (by rw [l]; decide) (by rw [l]; decide)
  rw [l] at C
  exact pvrams20 _ _ _ w (fun w' => BB20 w' w.heap.size ((M.drop 0).take 8192) ∧ Kept w w') H C
theorem seg_oam {M : List Int} (h : M.length = 16671) : ((M.drop 16384).take 160).length = 160 := by rw [List.length_take, List.length_drop]; omega
theorem poam20 (b : Nat) (M : List Int) (w : World) (h : MemAt w b M) : Calls Tryd.prog 27 #[.pointer (some ⟨b, 0, none⟩)] w fun e w' => e = .returned (.slice (some ⟨w.heap.size, 0, none⟩) 160 160) ∧ BB20 w' w.heap.size ((M.drop 16384).take 160) ∧ Kept w w' := by
  have H := pheld_in b M 4 w h (by decide)
  rw [show 1 + oNat 4 = 1 + 16384 from rfl, show nNat 4 = 160 from rfl] at H
  have l := seg_oam h.len
  have C := pcopy20 ⟨b, 1 + 16384, none⟩ ((M.drop 16384).take 160) w (mem_row h 16384 160 (by decide)) (by rw [l]; decide) (by rw [l]; decide)
  rw [l] at C
  exact poams20 _ _ _ w (fun w' => BB20 w' w.heap.size ((M.drop 16384).take 160) ∧ Kept w w') H C
end Go.Proofs.YtfndpikcodjajaaDoor
