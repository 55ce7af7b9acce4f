/- What Join joins Split splits, and what Hex16 and Hex8 write Read reads, as it was, at any two bytes, and the examples hold; no condition. -/
import Derived.Test.YtpokpejnocmciabRows
import Derived.WalkKit
import Derived.ProofKit
import Derived.OpenShut
import Derived.ShutString
import Derived.Test.YtpokpejnocmciabShown
namespace Go.Proofs.Ytpokpejnocmciab.wordBack
open Go.ChangeShapes Go.WideShapes Go.ChangeAt Go.RowKit
open Go.ChangeMaps (open_string shut_string)
set_option linter.unusedVariables false      -- a walk need not use every 'w<i>' (that an integer argument fits its kind)

theorem own : ownKnob Try.prog.godebug = none := by kernel_rfl

theorem hexd_fin : ∀ n : Fin 16, dokOf ((hexc (n.val : Int)).toNat : Int) = true ∧ dvalOf ((hexc (n.val : Int)).toNat : Int) = (n.val : Int) := by decide +kernel
theorem hexd (n : Int) (h0 : 0 ≤ n) (h1 : n < 16) : dokOf ((hexc n).toNat : Int) = true ∧ dvalOf ((hexc n).toNat : Int) = n := by
  obtain ⟨m, rfl⟩ := Int.eq_ofNat_of_zero_le h0
  exact hexd_fin ⟨m, by omega⟩
theorem read8 (a : Int) (h0 : 0 ≤ a) (h1 : a ≤ 255) : readVal (hex8Of a) 2 = a ∧ readErr (hex8Of a) 2 = 0 := by
  obtain ⟨k1, v1⟩ := hexd (a / 16) (by omega) (by omega)
  obtain ⟨k2, v2⟩ := hexd (a % 16) (by omega) (by omega)
  have hz : (hex8Of a).size = 2 := rfl
  have ok : okTo (hex8Of a) 2 = true := by
    show ((true && dokOf ((hexc (a / 16)).toNat : Int)) && dokOf ((hexc (a % 16)).toNat : Int)) = true
    rw [k1, k2]; rfl
  have ac : accTo (hex8Of a) 2 = a := by
    show (0 * 16 + dvalOf ((hexc (a / 16)).toNat : Int)) * 16 + dvalOf ((hexc (a % 16)).toNat : Int) = a
    rw [v1, v2]; omega
  have f := fin_yes (hex8Of a) (by rw [hz]; exact ok)
  unfold readVal readErr
  rw [if_neg (by omega), if_neg (by rw [hz]; decide), if_neg (by omega), if_neg (by rw [hz]; decide), f.1, f.2, hz, ac]
  exact ⟨rfl, rfl⟩
theorem read16 (a : Int) (h0 : 0 ≤ a) (h1 : a ≤ 65535) : readVal (hex16Of a) 4 = a ∧ readErr (hex16Of a) 4 = 0 := by
  obtain ⟨k1, v1⟩ := hexd (a / 256 / 16) (by omega) (by omega)
  obtain ⟨k2, v2⟩ := hexd (a / 256 % 16) (by omega) (by omega)
  obtain ⟨k3, v3⟩ := hexd (a % 256 / 16) (by omega) (by omega)
  obtain ⟨k4, v4⟩ := hexd (a % 256 % 16) (by omega) (by omega)
  have hz : (hex16Of a).size = 4 := rfl
  have ok : okTo (hex16Of a) 4 = true := by
    show ((((true && dokOf ((hexc (a / 256 / 16)).toNat : Int)) && dokOf ((hexc (a / 256 % 16)).toNat : Int)) && dokOf ((hexc (a % 256 / 16)).toNat : Int)) && dokOf ((hexc (a % 256 % 16)).toNat : Int)) = true
    rw [k1, k2, k3, k4]; rfl
  have ac : accTo (hex16Of a) 4 = a := by
    show (((0 * 16 + dvalOf ((hexc (a / 256 / 16)).toNat : Int)) * 16 + dvalOf ((hexc (a / 256 % 16)).toNat : Int)) * 16 + dvalOf ((hexc (a % 256 / 16)).toNat : Int)) * 16 + dvalOf ((hexc (a % 256 % 16)).toNat : Int) = a
    rw [v1, v2, v3, v4]; omega
  have f := fin_yes (hex16Of a) (by rw [hz]; exact ok)
  unfold readVal readErr
  rw [if_neg (by omega), if_neg (by rw [hz]; decide), if_neg (by omega), if_neg (by rw [hz]; decide), f.1, f.2, hz, ac]
  exact ⟨rfl, rfl⟩

/-! ### STEP 1: THE WALK: the Go text returns true. 'Grown w w'': the world has at most new blocks (Derived/RowKit3.lean). Part the cases AHEAD of 'go_enter' where a test parts the walk; take each callee by a contract of your own. -/
theorem walk (a0 : Int) (a1 : Int) (w0 : (Lit.int .u8 a0).wf = true) (w1 : (Lit.int .u8 a1).wf = true) (w : World) :
    Calls Try.prog 4 #[.int .u8 a0, .int .u8 a1] w fun e w' => e = .returned (.bool true) ∧ Grown w w' := by
  obtain ⟨b0, b1⟩ := bounds_u8 w0
  obtain ⟨c0, c1⟩ := bounds_u8 w1
  obtain ⟨x1, x2⟩ := read16 (a0 * 256 + a1) (by omega) (by omega)
  obtain ⟨y1, y2⟩ := read8 a1 c0 c1
  have e1 : (a0 * 256 + a1) / 256 = a0 := by omega
  have e2 : (a0 * 256 + a1) % 256 = a1 := by omega
  have hx : hex8Of a0 ++ hex8Of a1 = hex16Of (a0 * 256 + a1) := by unfold hex16Of; rw [e1, e2]
  have X1 := hid x1
  have X2 := hid x2
  have Y1 := hid y1
  have Y2 := hid y2
  have E1 := hid e1
  have E2 := hid e2
  have HX := hid hx
  clear x1 x2 y1 y2 e1 e2 hx
  go_enter Try.func4, Try.ntmps4
  go_wp2_with fail
  refine (shown_any _).mono ?_
  rintro e w3 ⟨rfl, g1⟩
  go_wp2_with fail
  refine (join_any _ _ _ b0 b1 c0 c1).mono ?_
  rintro e w4 ⟨rfl, rfl⟩
  go_wp2_with fail
  refine (split_any _ _ (by omega) (by omega)).mono ?_
  rintro e w4 ⟨rfl, rfl⟩
  rw [E1.out, E2.out]
  go_wp2_with fail
  refine (hex16_any _ _ (by omega) (by omega)).mono ?_
  rintro e w4 ⟨rfl, g2⟩
  go_wp2_with fail
  refine (read_any _ _ _ (by exact (by decide : (4 : Nat) ≤ maxLen))).mono ?_
  rintro e w5 ⟨rfl, g3⟩
  rw [X1.out, X2.out]
  go_wp2_with fail
  refine (hex8_any _ _ c0 c1).mono ?_
  rintro e w6 ⟨rfl, g4⟩
  go_wp2_with fail
  refine (read_any _ _ _ (by exact (by decide : (2 : Nat) ≤ maxLen))).mono ?_
  rintro e w7 ⟨rfl, g5⟩
  rw [Y1.out, Y2.out]
  go_wp2_with fail
  refine (hex8_any _ _ b0 b1).mono ?_
  rintro e w8 ⟨rfl, g6⟩
  go_wp2_with fail
  refine (hex8_any _ _ c0 c1).mono ?_
  rintro e w9 ⟨rfl, g7⟩
  go_wp2_with fail
  refine (hex16_any _ _ (by omega) (by omega)).mono ?_
  rintro e w10 ⟨rfl, g8⟩
  rw [← HX.out]
  go_wp2
  go_ret
  exact ⟨rfl, grown_trans g1 (grown_trans g2 (grown_trans g3 (grown_trans g4 (grown_trans g5 (grown_trans g6 (grown_trans g7 g8))))))⟩

/-! ### THE ROW's STEP: WRITTEN OUT: LEAVE IT -/
set_option maxRecDepth 100000 in
theorem lifted (os : Os) (started : os.Started) (H : Type) (enc : TypeId × Value → H) :
    ReturnsInHanded {} Try.checked os 4 .any (Rows.wordBackSpec.pre6 enc Try.prog Try.f4 Rows.wordBackRow.domain false) (Rows.wordBackSpec.post enc Try.prog Try.f4 false true false false) := by
  refine returnsInHanded_of_change (C := Try.checked) own started (by kernel_rfl) Try.func4
    (ChangeSpec.witness6 (enc := enc) (C := Try.checked) false ⟨#[], #[.int .u8 0, .int .u8 0], []⟩ 8 (by kernel_rfl) (by kernel_rfl) (by kernel_rfl) (by kernel_rfl)) ?_
  intro W base args ds gs before hval0 hW hcnd _
  have hval : ∀ (j : Nat) t v, Try.f4.params[j]? = some t → args[j]? = some v → Value.okWide Try.prog W .any base t v := hval0
  have hW' := hW
  obtain ⟨p, q, hA0, hV, rfl, hfz, hnd⟩ := hW
  have hA : DataW.TrodAll enc Try.prog W 0 (fun _ => true) true Try.f4.params.toList args.toList ds p := hA0
  rw [Try.params4] at hA hval
  obtain ⟨v0, vs0, d0, ds0, p0, q0, hargs, rfl, rfl, h0, r0⟩ := trodAll_cons hA
  obtain ⟨v1, vs1, d1, ds1, p1, q1, rfl, rfl, rfl, h1, r1⟩ := trodAll_cons r0
  obtain ⟨rfl, rfl, rfl⟩ := trodAll_nil r1
  obtain rfl : args = #[v0, v1] := by cases args; simp_all
  obtain ⟨rfl, rfl⟩ := trodVars_none hV
  obtain ⟨a0, rfl, rfl, rfl, w0⟩ := open_int Try.underlying5 (hval 0 5 v0 rfl rfl) h0
  obtain ⟨a1, rfl, rfl, rfl, w1⟩ := open_int Try.underlying5 (hval 1 5 v1 rfl rfl) h1
  clear hA0 hval0
  simp only [List.append_nil] at hW'
  refine (walk a0 a1 w0 w1 W).mono fun e W' ⟨he, hg⟩ => ?_
  subst he
  exact ⟨_, rfl, post_of_same (pa := []) (pv := []) hW' (fun _ _ _ => (trodAll_cons_mk (shut_bool Try.underlying4 _) trodAll_mk0)) (fun sp _ => (trodAll_cons_mk (shut_int Try.underlying5 w0) (trodAll_cons_mk (shut_int Try.underlying5 w1) trodAll_mk0))) (fun _ _ => rfl) rfl
    (hg.frame _) hg.2.1 (ok_one (by kernel_rfl) rfl (okWide_bool_mk Try.underlying4 _))⟩

theorem over : Rows.wordBackRow.holds Try.pinned (OpenSpec.ofChange Rows.wordBackSpec) :=
  OpenClaim.holds_of_wide 4 Try.f4 rfl rfl rfl rfl rfl rfl rfl ⟨rfl, rfl, rfl, rfl, rfl⟩ rfl rfl rfl rfl rfl (by kernel_rfl) Try.func4 (by kernel_rfl)
    (of_decide_eq_true (by kernel_rfl)) (by unfold Func.isWrapper; first | (rw [if_pos (by decide +kernel)]; kernel_rfl) | (rw [if_neg (by decide +kernel)]; exact ⟨rfl, rfl⟩))
    (fun os started H enc _ => lifted os started H enc)

/-- ████ THE STATEMENT ████ -/
theorem proved : Rows.WordBackSaid :=
  over
end Go.Proofs.Ytpokpejnocmciab.wordBack
namespace Go.Proofs.Ytpokpejnocmciab
theorem wordBack_holds : Rows.WordBackSaid := wordBack.proved
end Go.Proofs.Ytpokpejnocmciab
