/- The examples at the head of layer 17's laws. -/
import Derived.Test.YtdimkeknjhdjfaaRtl17
namespace Go.Proofs.Ytdimkeknjhdjfaa
open Go.RowKit
set_option linter.unusedVariables false
set_option linter.unusedSimpArgs false

theorem eq8_17 (zs : List Int) (h : zs.length = 8) (u : World) : (Op.equalIn 10000 24 (.agg (zs.map (Value.int .u8)).toArray) (.agg (zs.map (Value.int .u8)).toArray)).run Try.prog u = .ok true u := by
  have he := Try.underlying5
  have hs : (sizeOf 5).run Try.prog u = .ok 1 u := by kernel_rfl
  rw [show (10000 : Nat) = 9998 + 2 from rfl, Op.equalIn]
  simp only [Sem.run_bind, run_underlying Try.underlying24, Result.andThen_ok, hs, Std.Legacy.Range.forIn_eq_forIn_range', Std.Legacy.Range.size, Nat.sub_zero, Nat.add_sub_cancel, Nat.div_one]
  have hl : ∀ i ∈ List.range' 0 8 1, i < 8 := fun i hi => by simpa using (List.mem_range'_1.1 hi).2
  generalize List.range' 0 8 1 = l at hl ⊢
  induction l with
  | nil => simp
  | cons i l ih =>
    have hi : i < 8 := hl i (by simp)
    have px : (part 5 (zs.map (Value.int .u8)).toArray (i * 1)).run Try.prog u = .ok (.int .u8 (zs.getD i 0)) u := by
      simp [part, isAgg, run_underlying he, List.getD, List.getElem?_eq_getElem (show i < zs.length by omega)]
    have pe : (Op.equalIn (9998 + 1) 5 (.int .u8 (zs.getD i 0)) (.int .u8 (zs.getD i 0))).run Try.prog u = .ok true u := by
      rw [run_equalIn_int u 9998 5 .u8 .u8 _ _ he]
      simp
    simp only [List.forIn_cons, Sem.run_bind, px, pe, Result.andThen_ok, Bool.not_true, Bool.false_eq_true, if_false, Sem.run_pure]
    exact ih fun j hj => hl j (by simp [hj])
theorem sh17_a : (rowL 60 126).toArray = #[.int .u8 0, .int .u8 2, .int .u8 3, .int .u8 3, .int .u8 3, .int .u8 3, .int .u8 2, .int .u8 0] := by rfl
theorem sh17_b : placeP 1 false 3 = 22 := by rfl
theorem sh17_c : placeP 255 true 0 = 4080 := by rfl
theorem sh17_d : cellP true 8 16 = 7233 := by rfl
theorem sh17_e : shadeP 228 2 = 2 := by rfl
set_option maxRecDepth 100000 in
set_option maxHeartbeats 4000000 in
theorem kshown17 (w : World) : Calls Try.prog 9 #[] w fun e w' => e = .returned (.bool true) ∧ Kept w w' := by
  have A0 := fun u => prow17 60 126 u (by decide) (by decide) (by decide) (by decide)
  have B0 := fun u => pplace17 1 3 false u (by decide) (by decide)
  have C0 := fun u => pplace17 255 0 true u (by decide) (by decide)
  have D0 := fun u => pcell17 8 16 true u (by decide) (by decide) (by decide) (by decide)
  have E0 := fun u => pshade17 228 2 u (by decide) (by decide) (by decide) (by decide)
  simp only [sh17_a] at A0
  simp only [sh17_b] at B0
  simp only [sh17_c] at C0
  simp only [sh17_d] at D0
  simp only [sh17_e] at E0
  have A := hid A0
  have B := hid B0
  have C := hid C0
  have D := hid D0
  have E := hid E0
  have EQ : ∀ u, (Op.equalIn 10000 24 (.agg #[.int .u8 0, .int .u8 2, .int .u8 3, .int .u8 3, .int .u8 3, .int .u8 3, .int .u8 2, .int .u8 0]) (.agg #[.int .u8 0, .int .u8 2, .int .u8 3, .int .u8 3, .int .u8 3, .int .u8 3, .int .u8 2, .int .u8 0])).run Try.prog u = .ok true u := fun u => eq8_17 [0, 2, 3, 3, 3, 3, 2, 0] rfl u
  clear A0 B0 C0 D0 E0
  go_enter Try.func9, Try.ntmps9
  have K0 := hid (Kept.refl w)
  go_wp2_with fail
  refine (A.out _).mono ?_
  rintro e u1 ⟨rfl, k1⟩
  have K1 := hid (K0.out.trans k1)
  clear k1 K0
  go_wp2_with fail
  refine (B.out _).mono ?_
  rintro e ux ⟨rfl, rfl⟩
  go_wp2_with fail
  refine (C.out _).mono ?_
  rintro e ux ⟨rfl, rfl⟩
  go_wp2_with fail
  refine (D.out _).mono ?_
  rintro e ux ⟨rfl, rfl⟩
  go_wp2_with fail
  refine (E.out _).mono ?_
  rintro e ux ⟨rfl, rfl⟩
  go_wp2
  go_ret
  exact ⟨rfl, K1.out⟩
end Go.Proofs.Ytdimkeknjhdjfaa
