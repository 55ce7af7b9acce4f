/- What the document's answers of layer 9 come to: Read, Write, Run. -/
import Derived.Test.YtpnidlibgpbjgaaRck9
namespace Go.Proofs.Ytpnidlibgpbjgaa
open Go.RowKit
set_option linter.unusedVariables false
set_option linter.unusedSimpArgs false

theorem regs_of (r : Int) : r = 8 ∨ r = 9 ∨ r = 10 ∨ r = 11 ∨ r = 12 ∨ (r ≠ 8 ∧ r ≠ 9 ∧ r ≠ 10 ∧ r ≠ 11 ∧ r ≠ 12) := by omega
theorem readC_no (c : Ck) (r : Int) (h : r ≠ 8 ∧ r ≠ 9 ∧ r ≠ 10 ∧ r ≠ 11 ∧ r ≠ 12) : readC c r = 0 ∧ regE r = 7 := by
  obtain ⟨h1, h2, h3, h4, h5⟩ := h
  refine ⟨by unfold readC readV; rw [if_neg h1, if_neg h2, if_neg h3, if_neg h4, if_neg h5], ?_⟩
  unfold regE regOk
  simp [h1, h2, h3, h4, h5]
theorem writeC_no (c : Ck) (r v : Int) (h : r ≠ 8 ∧ r ≠ 9 ∧ r ≠ 10 ∧ r ≠ 11 ∧ r ≠ 12) : writeC c r v = ck0 := by
  obtain ⟨h1, h2, h3, h4, h5⟩ := h
  unfold writeC writeN; rw [if_neg h1, if_neg h2, if_neg h3, if_neg h4, if_neg h5]
set_option maxRecDepth 100000 in
set_option maxHeartbeats 4000000 in
theorem rread_any (c : Ck) (r : Int) (w : World) (I : CkIn c) : Calls Try.prog 17 #[ckV c, .int .i64 r] w fun e w' => e = .returned (.tuple #[.int .u8 (readC c r), .int .i64 (regE r)]) ∧ Grown w w' := by
  have CN := hid (fun u => rnorm_any c u I)
  have O := norm_ok I
  have NO := hid (readC_no c r)
  unfold readC at *
  obtain ⟨N, hN⟩ : ∃ v, normC c = v := ⟨_, rfl⟩
  rw [hN] at O CN NO ⊢
  clear hN I
  obtain ⟨sec, min, hour, day, halt, carry⟩ := N
  obtain ⟨a, b, d, e, f, g, i, j⟩ := O
  simp only at a b d e f g i j
  have t1 : Int.tmod day 256 = day % 256 := Int.tmod_eq_emod_of_nonneg i
  have t2 : Int.tdiv day 256 = day / 256 := Int.tdiv_eq_ediv_of_nonneg i
  have w1 : IntKind.u16.wrap (day % 256) = day % 256 := by rw [IntKind.wrap_u16]; omega
  have w2 : IntKind.u8.wrap (day % 256) = day % 256 := by rw [IntKind.wrap_u8]; omega
  have w3 : IntKind.u16.wrap (day / 256) = day / 256 := by rw [IntKind.wrap_u16]; omega
  have w4 : IntKind.u8.wrap (day / 256) = day / 256 := by rw [IntKind.wrap_u8]; omega
  have x1 : (day / 256 + 64) % 256 = day / 256 + 64 := by omega
  have x2 : (day / 256 + 128) % 256 = day / 256 + 128 := by omega
  have x3 : (day / 256 + 64 + 128) % 256 = day / 256 + 64 + 128 := by omega
  have y1 : IntKind.u8.wrap (day / 256 + 64) = day / 256 + 64 := by rw [IntKind.wrap_u8]; omega
  have y2 : IntKind.u8.wrap (day / 256 + 128) = day / 256 + 128 := by rw [IntKind.wrap_u8]; omega
  have y3 : IntKind.u8.wrap (day / 256 + 64 + 128) = day / 256 + 64 + 128 := by rw [IntKind.wrap_u8]; omega
  rcases regs_of r with rfl | rfl | rfl | rfl | rfl | hr
  · have E := hid (show readV ⟨sec, min, hour, day, halt, carry⟩ 8 = sec ∧ regE 8 = 0 from ⟨rfl, rfl⟩)
    go_enter Try.func17, Try.ntmps17
    go_wp2_with fail
    refine (CN.out _).mono ?_
    rintro e u1 ⟨rfl, g1⟩
    have G1 := hid (grown_trans (alloc1 w _ _) g1)
    clear g1
    go_wp2
    go_ret2
    exact ⟨by rw [E.out.1, E.out.2]; rfl, G1.out.alloc _ _⟩
  · have E := hid (show readV ⟨sec, min, hour, day, halt, carry⟩ 9 = min ∧ regE 9 = 0 from ⟨rfl, rfl⟩)
    go_enter Try.func17, Try.ntmps17
    go_wp2_with fail
    refine (CN.out _).mono ?_
    rintro e u1 ⟨rfl, g1⟩
    have G1 := hid (grown_trans (alloc1 w _ _) g1)
    clear g1
    go_wp2
    go_ret2
    exact ⟨by rw [E.out.1, E.out.2]; rfl, G1.out.alloc _ _⟩
  · have E := hid (show readV ⟨sec, min, hour, day, halt, carry⟩ 10 = hour ∧ regE 10 = 0 from ⟨rfl, rfl⟩)
    go_enter Try.func17, Try.ntmps17
    go_wp2_with fail
    refine (CN.out _).mono ?_
    rintro e u1 ⟨rfl, g1⟩
    have G1 := hid (grown_trans (alloc1 w _ _) g1)
    clear g1
    go_wp2
    go_ret2
    exact ⟨by rw [E.out.1, E.out.2]; rfl, G1.out.alloc _ _⟩
  · have E := hid (show readV ⟨sec, min, hour, day, halt, carry⟩ 11 = day % 256 ∧ regE 11 = 0 from ⟨rfl, rfl⟩)
    go_enter Try.func17, Try.ntmps17
    go_wp2_with fail
    refine (CN.out _).mono ?_
    rintro e u1 ⟨rfl, g1⟩
    have G1 := hid (grown_trans (alloc1 w _ _) g1)
    clear g1
    go_wp2
    go_ret2
    exact ⟨by rw [E.out.1, E.out.2]; rfl, G1.out.alloc _ _⟩
  · have E2 : regE 12 = 0 := rfl
    rw [E2]
    cases halt <;> cases carry
    · have E := hid (show readV ⟨sec, min, hour, day, false, false⟩ 12 = day / 256 by show day / 256 + 0 + 0 = _; omega)
      go_enter Try.func17, Try.ntmps17
      go_wp2_with fail
      refine (CN.out _).mono ?_
      rintro e u1 ⟨rfl, g1⟩
      have G1 := hid (grown_trans (alloc1 w _ _) g1)
      clear g1
      go_wp2
      go_ret2
      exact ⟨by rw [E.out]; rfl, G1.out.alloc _ _⟩
    · have E := hid (show readV ⟨sec, min, hour, day, false, true⟩ 12 = day / 256 + 128 by show day / 256 + 0 + 128 = _; omega)
      go_enter Try.func17, Try.ntmps17
      go_wp2_with fail
      refine (CN.out _).mono ?_
      rintro e u1 ⟨rfl, g1⟩
      have G1 := hid (grown_trans (alloc1 w _ _) g1)
      clear g1
      go_wp2
      go_ret2
      exact ⟨by rw [E.out]; rfl, G1.out.alloc _ _⟩
    · have E := hid (show readV ⟨sec, min, hour, day, true, false⟩ 12 = day / 256 + 64 by show day / 256 + 64 + 0 = _; omega)
      go_enter Try.func17, Try.ntmps17
      go_wp2_with fail
      refine (CN.out _).mono ?_
      rintro e u1 ⟨rfl, g1⟩
      have G1 := hid (grown_trans (alloc1 w _ _) g1)
      clear g1
      go_wp2
      go_ret2
      exact ⟨by rw [E.out]; rfl, G1.out.alloc _ _⟩
    · have E := hid (show readV ⟨sec, min, hour, day, true, true⟩ 12 = day / 256 + 64 + 128 from rfl)
      go_enter Try.func17, Try.ntmps17
      go_wp2_with fail
      refine (CN.out _).mono ?_
      rintro e u1 ⟨rfl, g1⟩
      have G1 := hid (grown_trans (alloc1 w _ _) g1)
      clear g1
      go_wp2
      go_ret2
      exact ⟨by rw [E.out]; rfl, G1.out.alloc _ _⟩
  · obtain ⟨h1, h2, h3, h4, h5⟩ := id hr
    have b1 : (r == 8) = false := by simpa using h1
    have b2 : (r == 9) = false := by simpa using h2
    have b3 : (r == 10) = false := by simpa using h3
    have b4 : (r == 11) = false := by simpa using h4
    have b5 : (r == 12) = false := by simpa using h5
    have E := hid (NO.out hr)
    clear hr NO h1 h2 h3 h4 h5
    go_enter Try.func17, Try.ntmps17
    go_wp2_with fail
    refine (CN.out _).mono ?_
    rintro e u1 ⟨rfl, g1⟩
    have G1 := hid (grown_trans (alloc1 w _ _) g1)
    clear g1
    go_wp2
    go_ret2
    exact ⟨by rw [E.out.1, E.out.2]; rfl, G1.out.alloc _ _⟩
end Go.Proofs.Ytpnidlibgpbjgaa
