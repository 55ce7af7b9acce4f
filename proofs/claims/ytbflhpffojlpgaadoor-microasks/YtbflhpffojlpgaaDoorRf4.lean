/- What Illegal and DecodeCB of the document's answers of layer 5 come to. -/
import Derived.Test.YtbflhpffojlpgaaDoorRf3
namespace Go.Proofs.YtbflhpffojlpgaaDoor
open Go.RowKit
set_option linter.unusedVariables false
set_option linter.unusedSimpArgs false

theorem cbfits_fin : ∀ a : Fin 256, fok ⟨#[48, 48, 120, 120, 120, 121, 121, 121]⟩ ((a.val : Int) % 64) 8 = true ∧ fx ⟨#[48, 48, 120, 120, 120, 121, 121, 121]⟩ ((a.val : Int) % 64) 8 = (a.val : Int) / 8 % 8 ∧ fy ⟨#[48, 48, 120, 120, 120, 121, 121, 121]⟩ ((a.val : Int) % 64) 8 = (a.val : Int) % 8 := by decide +kernel
theorem sgs_fin : ∀ k : Fin 8, sg ⟨#[48, 48, 120, 120, 120, 121, 121, 121]⟩ k.val = 48 ∨ sg ⟨#[48, 48, 120, 120, 120, 121, 121, 121]⟩ k.val = 49 ∨ sg ⟨#[48, 48, 120, 120, 120, 121, 121, 121]⟩ k.val = 120 ∨ sg ⟨#[48, 48, 120, 120, 120, 121, 121, 121]⟩ k.val = 121 := by decide +kernel
theorem sgs (k : Nat) (h : k < 8) : sg ⟨#[48, 48, 120, 120, 120, 121, 121, 121]⟩ k = 48 ∨ sg ⟨#[48, 48, 120, 120, 120, 121, 121, 121]⟩ k = 49 ∨ sg ⟨#[48, 48, 120, 120, 120, 121, 121, 121]⟩ k = 120 ∨ sg ⟨#[48, 48, 120, 120, 120, 121, 121, 121]⟩ k = 121 := sgs_fin ⟨k, h⟩
theorem rcbn_fin : ∀ a : Fin 256, (!((a.val : Int) % 8 == 6)) = true → ((cbOf (a.val : Int)).same ⟨43 + (a.val : Int) / 64, (a.val : Int) / 8 % 8, (a.val : Int) % 8, 2, 2, 2⟩) = true := by decide +kernel
theorem rcbn (a : Int) (h0 : 0 ≤ a) (h1 : a ≤ 255) (h : (!(a % 8 == 6)) = true) : cbOf a = ⟨43 + a / 64, a / 8 % 8, a % 8, 2, 2, 2⟩ :=
  (same_iff _ _).1 (fin8 (p := fun a => (!(a % 8 == 6)) = true → ((cbOf a).same ⟨43 + a / 64, a / 8 % 8, a % 8, 2, 2, 2⟩) = true) rcbn_fin a h0 h1 h)
theorem rcb3_fin : ∀ a : Fin 256, ((a.val : Int) % 8 == 6 && 43 + (a.val : Int) / 64 == 44) = true → ((cbOf (a.val : Int)).same ⟨43 + (a.val : Int) / 64, (a.val : Int) / 8 % 8, (a.val : Int) % 8, 2, 3, 3⟩) = true := by decide +kernel
theorem rcb3 (a : Int) (h0 : 0 ≤ a) (h1 : a ≤ 255) (h : (a % 8 == 6 && 43 + a / 64 == 44) = true) : cbOf a = ⟨43 + a / 64, a / 8 % 8, a % 8, 2, 3, 3⟩ :=
  (same_iff _ _).1 (fin8 (p := fun a => (a % 8 == 6 && 43 + a / 64 == 44) = true → ((cbOf a).same ⟨43 + a / 64, a / 8 % 8, a % 8, 2, 3, 3⟩) = true) rcb3_fin a h0 h1 h)
theorem rcb4_fin : ∀ a : Fin 256, ((a.val : Int) % 8 == 6 && !(43 + (a.val : Int) / 64 == 44)) = true → ((cbOf (a.val : Int)).same ⟨43 + (a.val : Int) / 64, (a.val : Int) / 8 % 8, (a.val : Int) % 8, 2, 4, 4⟩) = true := by decide +kernel
theorem rcb4 (a : Int) (h0 : 0 ≤ a) (h1 : a ≤ 255) (h : (a % 8 == 6 && !(43 + a / 64 == 44)) = true) : cbOf a = ⟨43 + a / 64, a / 8 % 8, a % 8, 2, 4, 4⟩ :=
  (same_iff _ _).1 (fin8 (p := fun a => (a % 8 == 6 && !(43 + a / 64 == 44)) = true → ((cbOf a).same ⟨43 + a / 64, a / 8 % 8, a % 8, 2, 4, 4⟩) = true) rcb4_fin a h0 h1 h)
theorem rdecodeCB_any (op : Int) (w : World) (h0 : 0 ≤ op) (h1 : op ≤ 255) : Calls Tryd.prog 43 #[.int .u8 op] w fun e w' => e = .returned (.agg #[.int .i64 (cbOf op).kind, .int .i64 (cbOf op).x, .int .i64 (cbOf op).y, .int .i64 (cbOf op).bytes, .int .i64 (cbOf op).cycles, .int .i64 (cbOf op).taken]) ∧ Grown w w' := by
  obtain ⟨fo, ffx, ffy⟩ := fin8 (p := fun a => fok ⟨#[48, 48, 120, 120, 120, 121, 121, 121]⟩ (a % 64) 8 = true ∧ fx ⟨#[48, 48, 120, 120, 120, 121, 121, 121]⟩ (a % 64) 8 = a / 8 % 8 ∧ fy ⟨#[48, 48, 120, 120, 120, 121, 121, 121]⟩ (a % 64) 8 = a % 8) cbfits_fin op h0 h1
  have FO := hid fo
  have FX := hid ffx
  have FY := hid ffy
  clear fo ffx ffy
  cases bY : (op % 8 == 6)
  · have E := hid (rcbn op h0 h1 (by simp [bY]))
    go_enter Tryd.func43, Tryd.ntmps43
    go_wp2_with fail
    refine (fits_any ⟨#[48, 48, 120, 120, 120, 121, 121, 121]⟩ (op % 64) _ (by decide) sgs (by omega) (by omega)).mono ?_
    rintro e w' ⟨(⟨ho, rfl⟩ | ⟨ho, rfl⟩), rfl⟩
    · rw [FX.out, FY.out]
      clear ho
      go_wp2
      exact bodyPost_ret (v := .agg #[.int .i64 (43 + op / 64), .int .i64 (op / 8 % 8), .int .i64 (op % 8), .int .i64 2, .int .i64 2, .int .i64 2]) (by simp [results, Tryd.results43, go_sem]) rfl ⟨by rw [E.out], (alloc1 w _ _).alloc _ _⟩
    · rw [FO.out] at ho
      cases ho
  · cases bK : (43 + op / 64 == 44)
    · have E := hid (rcb4 op h0 h1 (by simp [bY, bK]))
      go_enter Tryd.func43, Tryd.ntmps43
      go_wp2_with fail
      refine (fits_any ⟨#[48, 48, 120, 120, 120, 121, 121, 121]⟩ (op % 64) _ (by decide) sgs (by omega) (by omega)).mono ?_
      rintro e w' ⟨(⟨ho, rfl⟩ | ⟨ho, rfl⟩), rfl⟩
      · rw [FX.out, FY.out]
        clear ho
        go_wp2
        exact bodyPost_ret (v := .agg #[.int .i64 (43 + op / 64), .int .i64 (op / 8 % 8), .int .i64 (op % 8), .int .i64 2, .int .i64 4, .int .i64 4]) (by simp [results, Tryd.results43, go_sem]) rfl ⟨by rw [E.out], (alloc1 w _ _).alloc _ _⟩
      · rw [FO.out] at ho
        cases ho
    · have E := hid (rcb3 op h0 h1 (by simp [bY, bK]))
      go_enter Tryd.func43, Tryd.ntmps43
      go_wp2_with fail
      refine (fits_any ⟨#[48, 48, 120, 120, 120, 121, 121, 121]⟩ (op % 64) _ (by decide) sgs (by omega) (by omega)).mono ?_
      rintro e w' ⟨(⟨ho, rfl⟩ | ⟨ho, rfl⟩), rfl⟩
      · rw [FX.out, FY.out]
        clear ho
        go_wp2
        exact bodyPost_ret (v := .agg #[.int .i64 (43 + op / 64), .int .i64 (op / 8 % 8), .int .i64 (op % 8), .int .i64 2, .int .i64 3, .int .i64 3]) (by simp [results, Tryd.results43, go_sem]) rfl ⟨by rw [E.out], (alloc1 w _ _).alloc _ _⟩
      · rw [FO.out] at ho
        cases ho
end Go.Proofs.YtbflhpffojlpgaaDoor
