/- What the document's answers of layer 9 come to: Norm, Tick. What the document's answers of layer 9 come to: Read, Write, Run. What the document's answers of layer 8 come to: Write, kind 1. -/
import Derived.Test.YtfmddnekooojkaaDoorG04
import Derived.Test.YtfmddnekooojkaaDoorChecked
import Derived.Deep.QuietTactic
import Derived.BigQuiet
namespace Go.Proofs.YtfmddnekooojkaaDoor
open Go.RowKit
set_option linter.unusedVariables false
set_option linter.unusedSimpArgs false

abbrev ckV (c : Ck) : Value := .agg #[.int .u8 c.sec, .int .u8 c.min, .int .u8 c.hour, .int .u16 c.day, .bool c.halt, .bool c.carry]
set_option maxRecDepth 100000 in
theorem rnorm_any (c : Ck) (w : World) (I : CkIn c) : Calls Tryd.prog 56 #[ckV c] w fun e w' => e = .returned (ckV (normC c)) ∧ Grown w w' := by
  obtain ⟨a, b, d, e, f, g, i, j⟩ := I
  have t1 : Int.tmod c.sec 64 = c.sec % 64 := Int.tmod_eq_emod_of_nonneg a
  have t2 : Int.tmod c.min 64 = c.min % 64 := Int.tmod_eq_emod_of_nonneg d
  have t3 : Int.tmod c.hour 32 = c.hour % 32 := Int.tmod_eq_emod_of_nonneg f
  have t4 : Int.tmod c.day 512 = c.day % 512 := Int.tmod_eq_emod_of_nonneg i
  have w1 : IntKind.u8.wrap (c.sec % 64) = c.sec % 64 := by rw [IntKind.wrap_u8]; omega
  have w2 : IntKind.u8.wrap (c.min % 64) = c.min % 64 := by rw [IntKind.wrap_u8]; omega
  have w3 : IntKind.u8.wrap (c.hour % 32) = c.hour % 32 := by rw [IntKind.wrap_u8]; omega
  have w4 : IntKind.u16.wrap (c.day % 512) = c.day % 512 := by rw [IntKind.wrap_u16]; omega
  go_enter Tryd.func56, Tryd.ntmps56
  go_wp2
  exact bodyPost_ret (v := .agg #[.int .u8 (c.sec % 64), .int .u8 (c.min % 64), .int .u8 (c.hour % 32), .int .u16 (c.day % 512), .bool c.halt, .bool c.carry]) (by simp [results, Tryd.results56, go_sem]) rfl ⟨rfl, by repeat (first | with_reducible exact Grown.refl _ | with_reducible refine Grown.alloc ?_ _ _)⟩
def onC (v last width : Int) : Int := if v = last then 0 else (v + 1) % width
end Go.Proofs.YtfmddnekooojkaaDoor
namespace Go.Proofs.YtfmddnekooojkaaDoor
open Go.RowKit
set_option linter.unusedVariables false
set_option linter.unusedSimpArgs false

theorem regs_of (r : Int) : r = 8 ∨ r = 9 ∨ r = 10 ∨ r = 11 ∨ r = 12 ∨ (r ≠ 8 ∧ r ≠ 9 ∧ r ≠ 10 ∧ r ≠ 11 ∧ r ≠ 12) := by omega
theorem readC_no (c : Ck) (r : Int) (h : r ≠ 8 ∧ r ≠ 9 ∧ r ≠ 10 ∧ r ≠ 11 ∧ r ≠ 12) : readC c r = 0 ∧ regE r = 7 := by
  obtain ⟨h1, h2, h3, h4, h5⟩ := h
  refine ⟨by unfold readC readV; rw [if_neg h1, if_neg h2, if_neg h3, if_neg h4, if_neg h5], ?_⟩
  unfold regE regOk
  simp [h1, h2, h3, h4, h5]
theorem writeC_no (c : Ck) (r v : Int) (h : r ≠ 8 ∧ r ≠ 9 ∧ r ≠ 10 ∧ r ≠ 11 ∧ r ≠ 12) : writeC c r v = ck0 := by
  obtain ⟨h1, h2, h3, h4, h5⟩ := h
  unfold writeC writeN; rw [if_neg h1, if_neg h2, if_neg h3, if_neg h4, if_neg h5]
set_option maxRecDepth 100000 in
set_option maxHeartbeats 4000000 in
theorem rread_any (c : Ck) (r : Int) (w : World) (I : CkIn c) : Calls Tryd.prog 34 #[ckV c, .int .i64 r] w fun e w' => e = .returned (.tuple #[.int .u8 (readC c r), .int .i64 (regE r)]) ∧ Grown w w' := by
  have CN := hid (fun u => rnorm_any c u I)
  have O := norm_ok I
  have NO := hid (readC_no c r)
  unfold readC at *
  obtain ⟨N, hN⟩ : ∃ v, normC c = v := ⟨_, rfl⟩
  rw [hN] at O CN NO ⊢
  clear hN I
  obtain ⟨sec, min, hour, day, halt, carry⟩ := N
  obtain ⟨a, b, d, e, f, g, i, j⟩ := O
  simp only at a b d e f g i j
  have t1 : Int.tmod day 256 = day % 256 := Int.tmod_eq_emod_of_nonneg i
  have t2 : Int.tdiv day 256 = day / 256 := Int.tdiv_eq_ediv_of_nonneg i
  have w1 : IntKind.u16.wrap (day % 256) = day % 256 := by rw [IntKind.wrap_u16]; omega
  have w2 : IntKind.u8.wrap (day % 256) = day % 256 := by rw [IntKind.wrap_u8]; omega
  have w3 : IntKind.u16.wrap (day / 256) = day / 256 := by rw [IntKind.wrap_u16]; omega
  have w4 : IntKind.u8.wrap (day / 256) = day / 256 := by rw [IntKind.wrap_u8]; omega
  have x1 : (day / 256 + 64) % 256 = day / 256 + 64 := by omega
  have x2 : (day / 256 + 128) % 256 = day / 256 + 128 := by omega
  have x3 : (day / 256 + 64 + 128) % 256 = day / 256 + 64 + 128 := by omega
  have y1 : IntKind.u8.wrap (day / 256 + 64) = day / 256 + 64 := by rw [IntKind.wrap_u8]; omega
  have y2 : IntKind.u8.wrap (day / 256 + 128) = day / 256 + 128 := by rw [IntKind.wrap_u8]; omega
  have y3 : IntKind.u8.wrap (day / 256 + 64 + 128) = day / 256 + 64 + 128 := by rw [IntKind.wrap_u8]; omega
  rcases regs_of r with rfl | rfl | rfl | rfl | rfl | hr
  · have E := hid (show readV ⟨sec, min, hour, day, halt, carry⟩ 8 = sec ∧ regE 8 = 0 from ⟨rfl, rfl⟩)
    go_enter Tryd.func34, Tryd.ntmps34
    go_wp2_with fail
    refine (CN.out _).mono ?_
    rintro e u1 ⟨rfl, g1⟩
    have G1 := hid (grown_trans (alloc1 w _ _) g1)
    clear g1
    go_wp2
    go_ret2
    exact ⟨by rw [E.out.1, E.out.2]; rfl, G1.out.alloc _ _⟩
  · have E := hid (show readV ⟨sec, min, hour, day, halt, carry⟩ 9 = min ∧ regE 9 = 0 from ⟨rfl, rfl⟩)
    go_enter Tryd.func34, Tryd.ntmps34
    go_wp2_with fail
    refine (CN.out _).mono ?_
    rintro e u1 ⟨rfl, g1⟩
    have G1 := hid (grown_trans (alloc1 w _ _) g1)
    clear g1
    go_wp2
    go_ret2
    exact ⟨by rw [E.out.1, E.out.2]; rfl, G1.out.alloc _ _⟩
  · have E := hid (show readV ⟨sec, min, hour, day, halt, carry⟩ 10 = hour ∧ regE 10 = 0 from ⟨rfl, rfl⟩)
    go_enter Tryd.func34, Tryd.ntmps34
    go_wp2_with fail
    refine (CN.out _).mono ?_
    rintro e u1 ⟨rfl, g1⟩
    have G1 := hid (grown_trans (alloc1 w _ _) g1)
    clear g1
    go_wp2
    go_ret2
    exact ⟨by rw [E.out.1, E.out.2]; rfl, G1.out.alloc _ _⟩
  · have E := hid (show readV ⟨sec, min, hour, day, halt, carry⟩ 11 = day % 256 ∧ regE 11 = 0 from ⟨rfl, rfl⟩)
    go_enter Tryd.func34, Tryd.ntmps34
    go_wp2_with fail
    refine (CN.out _).mono ?_
    rintro e u1 ⟨rfl, g1⟩
    have G1 := hid (grown_trans (alloc1 w _ _) g1)
    clear g1
    go_wp2
    go_ret2
    exact ⟨by rw [E.out.1, E.out.2]; rfl, G1.out.alloc _ _⟩
  · have E2 : regE 12 = 0 := rfl
    rw [E2]
    cases halt <;> cases carry
    · have E := hid (show readV ⟨sec, min, hour, day, false, false⟩ 12 = day / 256 by show day / 256 + 0 + 0 = _; omega)
      go_enter Tryd.func34, Tryd.ntmps34
      go_wp2_with fail
      refine (CN.out _).mono ?_
      rintro e u1 ⟨rfl, g1⟩
      have G1 := hid (grown_trans (alloc1 w _ _) g1)
      clear g1
      go_wp2
      go_ret2
      exact ⟨by rw [E.out]; rfl, G1.out.alloc _ _⟩
    · have E := hid (show readV ⟨sec, min, hour, day, false, true⟩ 12 = day / 256 + 128 by show day / 256 + 0 + 128 = _; omega)
      go_enter Tryd.func34, Tryd.ntmps34
      go_wp2_with fail
      refine (CN.out _).mono ?_
      rintro e u1 ⟨rfl, g1⟩
      have G1 := hid (grown_trans (alloc1 w _ _) g1)
      clear g1
      go_wp2
      go_ret2
      exact ⟨by rw [E.out]; rfl, G1.out.alloc _ _⟩
    · have E := hid (show readV ⟨sec, min, hour, day, true, false⟩ 12 = day / 256 + 64 by show day / 256 + 64 + 0 = _; omega)
      go_enter Tryd.func34, Tryd.ntmps34
      go_wp2_with fail
      refine (CN.out _).mono ?_
      rintro e u1 ⟨rfl, g1⟩
      have G1 := hid (grown_trans (alloc1 w _ _) g1)
      clear g1
      go_wp2
      go_ret2
      exact ⟨by rw [E.out]; rfl, G1.out.alloc _ _⟩
    · have E := hid (show readV ⟨sec, min, hour, day, true, true⟩ 12 = day / 256 + 64 + 128 from rfl)
      go_enter Tryd.func34, Tryd.ntmps34
      go_wp2_with fail
      refine (CN.out _).mono ?_
      rintro e u1 ⟨rfl, g1⟩
      have G1 := hid (grown_trans (alloc1 w _ _) g1)
      clear g1
      go_wp2
      go_ret2
      exact ⟨by rw [E.out]; rfl, G1.out.alloc _ _⟩
  · obtain ⟨h1, h2, h3, h4, h5⟩ := id hr
    have b1 : (r == 8) = false := by simpa using h1
    have b2 : (r == 9) = false := by simpa using h2
    have b3 : (r == 10) = false := by simpa using h3
    have b4 : (r == 11) = false := by simpa using h4
    have b5 : (r == 12) = false := by simpa using h5
    have E := hid (NO.out hr)
    clear hr NO h1 h2 h3 h4 h5
    go_enter Tryd.func34, Tryd.ntmps34
    go_wp2_with fail
    refine (CN.out _).mono ?_
    rintro e u1 ⟨rfl, g1⟩
    have G1 := hid (grown_trans (alloc1 w _ _) g1)
    clear g1
    go_wp2
    go_ret2
    exact ⟨by rw [E.out.1, E.out.2]; rfl, G1.out.alloc _ _⟩
end Go.Proofs.YtfmddnekooojkaaDoor
namespace Go.Proofs.YtfmddnekooojkaaDoor
open Go.RowKit
set_option linter.unusedVariables false
set_option linter.unusedSimpArgs false

end Go.Proofs.YtfmddnekooojkaaDoor
