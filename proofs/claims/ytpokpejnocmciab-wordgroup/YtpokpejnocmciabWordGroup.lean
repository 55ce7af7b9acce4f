/- Turns add up, eight are none, mirrors undo one another and no bit is lost, at every byte and any two bytes of places, and the examples hold; no condition. -/
import Derived.Test.YtpokpejnocmciabRows
import Derived.WalkKit
import Derived.ProofKit
import Derived.OpenShut
import Derived.ShutString
import Derived.Test.YtpokpejnocmciabShown
namespace Go.Proofs.Ytpokpejnocmciab.wordGroup
open Go.ChangeShapes Go.WideShapes Go.ChangeAt Go.RowKit
open Go.ChangeMaps (open_string shut_string)
set_option linter.unusedVariables false      -- a walk need not use every 'w<i>' (that an integer argument fits its kind)

theorem own : ownKnob Try.prog.godebug = none := by kernel_rfl

def rotN (v s : Nat) : Nat := v * 2 ^ s % 256 + v / 2 ^ (8 - s)
theorem rot_fin : ∀ v : Fin 256, ∀ s : Fin 8, turnOf (v.val : Int) (s.val : Int) = (rotN v.val s.val : Int) := by decide +kernel
theorem rot2_fin : ∀ v : Fin 256, ∀ i : Fin 8, ∀ j : Fin 8, rotN (rotN v.val i.val) j.val = rotN v.val ((i.val + j.val) % 8) := by decide +kernel
theorem rotBd_fin : ∀ v : Fin 256, ∀ s : Fin 8, rotN v.val s.val < 256 := by decide +kernel
theorem mir_fin : ∀ v : Fin 256, mirrorOf (mirrorOf (v.val : Int)) = (v.val : Int) ∧ onesOf (mirrorOf (v.val : Int)) = onesOf (v.val : Int) ∧ turnOf (v.val : Int) 0 = (v.val : Int) := by decide +kernel
theorem ones_fin : ∀ v : Fin 256, ∀ s : Fin 8, onesOf (turnOf (v.val : Int) (s.val : Int)) = onesOf (v.val : Int) := by decide +kernel
theorem mirTurn_fin : ∀ v : Fin 256, ∀ s : Fin 8, mirrorOf (turnOf (mirrorOf (v.val : Int)) (s.val : Int)) = turnOf (v.val : Int) (-(s.val : Int)) := by decide +kernel
theorem turn_mod (v n : Int) : turnOf v n = turnOf v (n % 8) := by
  unfold turnOf
  rw [Int.emod_emod_of_dvd n (Int.dvd_refl 8)]
theorem turn_rot (v n : Int) (h0 : 0 ≤ v) (h1 : v ≤ 255) : turnOf v n = (rotN v.toNat (n % 8).toNat : Int) := by
  rw [turn_mod]
  have e := rot_fin ⟨v.toNat, by omega⟩ ⟨(n % 8).toNat, by omega⟩
  have e1 : ((v.toNat : Nat) : Int) = v := by omega
  have e2 : (((n % 8).toNat : Nat) : Int) = n % 8 := by omega
  simp only [e1, e2] at e
  exact e
theorem turn_bd (v n : Int) : 0 ≤ turnOf v n ∧ turnOf v n ≤ 255 := turnTo_bd v (n % 8) 8
theorem mirror_bd (v : Int) : 0 ≤ mirrorOf v ∧ mirrorOf v ≤ 255 := mirrorTo_bd v 8
theorem turn_turn (v m n : Int) (h0 : 0 ≤ v) (h1 : v ≤ 255) : turnOf (turnOf v m) n = turnOf v (m + n) := by
  have b := turn_bd v m
  rw [turn_rot _ n b.1 b.2, turn_rot v m h0 h1, turn_rot v (m + n) h0 h1]
  have e := rot2_fin ⟨v.toNat, by omega⟩ ⟨(m % 8).toNat, by omega⟩ ⟨(n % 8).toNat, by omega⟩
  have e1 : ((m + n) % 8).toNat = ((m % 8).toNat + (n % 8).toNat) % 8 := by omega
  rw [e1, ← e]
  rfl
theorem turn_zero (v : Int) (h0 : 0 ≤ v) (h1 : v ≤ 255) : turnOf v 0 = v := (fin8 (p := fun v => mirrorOf (mirrorOf v) = v ∧ onesOf (mirrorOf v) = onesOf v ∧ turnOf v 0 = v) mir_fin v h0 h1).2.2
theorem turn_back (v m : Int) (h0 : 0 ≤ v) (h1 : v ≤ 255) : turnOf (turnOf v m) (-m) = v := by
  rw [turn_turn v m (-m) h0 h1, show m + -m = 0 by omega]; exact turn_zero v h0 h1
theorem turn_eight (v : Int) (h0 : 0 ≤ v) (h1 : v ≤ 255) : turnOf v 8 = v := by
  rw [turn_mod]; exact turn_zero v h0 h1
theorem mirror_mirror (v : Int) (h0 : 0 ≤ v) (h1 : v ≤ 255) : mirrorOf (mirrorOf v) = v := (fin8 (p := fun v => mirrorOf (mirrorOf v) = v ∧ onesOf (mirrorOf v) = onesOf v ∧ turnOf v 0 = v) mir_fin v h0 h1).1
theorem ones_mirror (v : Int) (h0 : 0 ≤ v) (h1 : v ≤ 255) : onesOf (mirrorOf v) = onesOf v := (fin8 (p := fun v => mirrorOf (mirrorOf v) = v ∧ onesOf (mirrorOf v) = onesOf v ∧ turnOf v 0 = v) mir_fin v h0 h1).2.1
theorem ones_turn (v n : Int) (h0 : 0 ≤ v) (h1 : v ≤ 255) : onesOf (turnOf v n) = onesOf v := by
  rw [turn_mod]
  exact fin8n (p := fun v n => onesOf (turnOf v n) = onesOf v) ones_fin v (n % 8) h0 h1 (by omega) (by omega)
theorem mirror_turn (v n : Int) (h0 : 0 ≤ v) (h1 : v ≤ 255) : mirrorOf (turnOf (mirrorOf v) n) = turnOf v (-n) := by
  rw [turn_mod]
  rw [fin8n (p := fun v n => mirrorOf (turnOf (mirrorOf v) n) = turnOf v (-n)) mirTurn_fin v (n % 8) h0 h1 (by omega) (by omega)]
  rw [turn_mod, turn_mod v (-n)]
  congr 1
  omega

/-! ### STEP 1: THE WALK: the Go text returns true. 'Grown w w'': the world has at most new blocks (Derived/RowKit3.lean). Part the cases AHEAD of 'go_enter' where a test parts the walk; take each callee by a contract of your own. -/
theorem walk (a0 : Int) (a1 : Int) (a2 : Int) (w0 : (Lit.int .u8 a0).wf = true) (w1 : (Lit.int .u8 a1).wf = true) (w2 : (Lit.int .u8 a2).wf = true) (w : World) :
    Calls Try.prog 5 #[.int .u8 a0, .int .u8 a1, .int .u8 a2] w fun e w' => e = .returned (.bool true) ∧ Grown w w' := by
  obtain ⟨b0, b1⟩ := bounds_u8 w0
  obtain ⟨c0, c1⟩ := bounds_u8 w1
  obtain ⟨d0, d1⟩ := bounds_u8 w2
  obtain ⟨t0, t1⟩ := turn_bd a0 a1
  obtain ⟨s0, s1⟩ := turn_bd a0 (a1 + a2)
  obtain ⟨m0, m1⟩ := mirror_bd a0
  obtain ⟨k0, k1⟩ := turn_bd (mirrorOf a0) a1
  have E1 := hid (turn_turn a0 a1 a2 b0 b1)
  have E2 := hid (turn_back a0 a1 b0 b1)
  have E3 := hid (turn_eight a0 b0 b1)
  have E4 := hid (mirror_mirror a0 b0 b1)
  have E5 := hid (mirror_turn a0 a1 b0 b1)
  have E6 := hid (ones_turn a0 (a1 + a2) b0 b1)
  have E7 := hid (ones_mirror a0 b0 b1)
  go_enter Try.func5, Try.ntmps5
  go_wp2_with fail
  refine (shown_any _).mono ?_
  rintro e w3 ⟨rfl, g1⟩
  go_wp2_with fail
  refine (turn_any _ _ _ b0 b1).mono ?_
  rintro e w4 ⟨rfl, rfl⟩
  go_wp2_with fail
  refine (turn_any _ _ _ t0 t1).mono ?_
  rintro e w4 ⟨rfl, rfl⟩
  rw [E1.out]
  go_wp2_with fail
  refine (turn_any _ _ _ b0 b1).mono ?_
  rintro e w4 ⟨rfl, rfl⟩
  go_wp2_with fail
  refine (turn_any _ _ _ b0 b1).mono ?_
  rintro e w4 ⟨rfl, rfl⟩
  go_wp2_with fail
  refine (turn_any _ _ _ t0 t1).mono ?_
  rintro e w4 ⟨rfl, rfl⟩
  rw [E2.out]
  go_wp2_with fail
  refine (mirror_any _ _ b0 b1).mono ?_
  rintro e w4 ⟨rfl, rfl⟩
  go_wp2_with fail
  refine (turn_any _ _ _ m0 m1).mono ?_
  rintro e w4 ⟨rfl, rfl⟩
  go_wp2_with fail
  refine (mirror_any _ _ k0 k1).mono ?_
  rintro e w4 ⟨rfl, rfl⟩
  rw [E5.out]
  go_wp2_with fail
  refine (turn_any _ _ _ b0 b1).mono ?_
  rintro e w4 ⟨rfl, rfl⟩
  rw [E3.out]
  go_wp2_with fail
  refine (mirror_any _ _ b0 b1).mono ?_
  rintro e w4 ⟨rfl, rfl⟩
  go_wp2_with fail
  refine (mirror_any _ _ m0 m1).mono ?_
  rintro e w4 ⟨rfl, rfl⟩
  rw [E4.out]
  go_wp2_with fail
  refine (turn_any _ _ _ b0 b1).mono ?_
  rintro e w4 ⟨rfl, rfl⟩
  go_wp2_with fail
  refine (ones_any _ _ s0 s1).mono ?_
  rintro e w4 ⟨rfl, rfl⟩
  rw [E6.out]
  go_wp2_with fail
  refine (ones_any _ _ b0 b1).mono ?_
  rintro e w4 ⟨rfl, rfl⟩
  go_wp2_with fail
  refine (mirror_any _ _ b0 b1).mono ?_
  rintro e w4 ⟨rfl, rfl⟩
  go_wp2_with fail
  refine (ones_any _ _ m0 m1).mono ?_
  rintro e w4 ⟨rfl, rfl⟩
  rw [E7.out]
  go_wp2_with fail
  refine (ones_any _ _ b0 b1).mono ?_
  rintro e w4 ⟨rfl, rfl⟩
  go_wp2
  go_ret
  exact ⟨rfl, g1⟩

/-! ### THE ROW's STEP: WRITTEN OUT: LEAVE IT -/
set_option maxRecDepth 100000 in
theorem lifted (os : Os) (started : os.Started) (H : Type) (enc : TypeId × Value → H) :
    ReturnsInHanded {} Try.checked os 5 .any (Rows.wordGroupSpec.pre6 enc Try.prog Try.f5 Rows.wordGroupRow.domain false) (Rows.wordGroupSpec.post enc Try.prog Try.f5 false true false false) := by
  refine returnsInHanded_of_change (C := Try.checked) own started (by kernel_rfl) Try.func5
    (ChangeSpec.witness6 (enc := enc) (C := Try.checked) false ⟨#[], #[.int .u8 0, .int .u8 0, .int .u8 0], []⟩ 8 (by kernel_rfl) (by kernel_rfl) (by kernel_rfl) (by kernel_rfl)) ?_
  intro W base args ds gs before hval0 hW hcnd _
  have hval : ∀ (j : Nat) t v, Try.f5.params[j]? = some t → args[j]? = some v → Value.okWide Try.prog W .any base t v := hval0
  have hW' := hW
  obtain ⟨p, q, hA0, hV, rfl, hfz, hnd⟩ := hW
  have hA : DataW.TrodAll enc Try.prog W 0 (fun _ => true) true Try.f5.params.toList args.toList ds p := hA0
  rw [Try.params5] at hA hval
  obtain ⟨v0, vs0, d0, ds0, p0, q0, hargs, rfl, rfl, h0, r0⟩ := trodAll_cons hA
  obtain ⟨v1, vs1, d1, ds1, p1, q1, rfl, rfl, rfl, h1, r1⟩ := trodAll_cons r0
  obtain ⟨v2, vs2, d2, ds2, p2, q2, rfl, rfl, rfl, h2, r2⟩ := trodAll_cons r1
  obtain ⟨rfl, rfl, rfl⟩ := trodAll_nil r2
  obtain rfl : args = #[v0, v1, v2] := by cases args; simp_all
  obtain ⟨rfl, rfl⟩ := trodVars_none hV
  obtain ⟨a0, rfl, rfl, rfl, w0⟩ := open_int Try.underlying5 (hval 0 5 v0 rfl rfl) h0
  obtain ⟨a1, rfl, rfl, rfl, w1⟩ := open_int Try.underlying5 (hval 1 5 v1 rfl rfl) h1
  obtain ⟨a2, rfl, rfl, rfl, w2⟩ := open_int Try.underlying5 (hval 2 5 v2 rfl rfl) h2
  clear hA0 hval0
  simp only [List.append_nil] at hW'
  refine (walk a0 a1 a2 w0 w1 w2 W).mono fun e W' ⟨he, hg⟩ => ?_
  subst he
  exact ⟨_, rfl, post_of_same (pa := []) (pv := []) hW' (fun _ _ _ => (trodAll_cons_mk (shut_bool Try.underlying4 _) trodAll_mk0)) (fun sp _ => (trodAll_cons_mk (shut_int Try.underlying5 w0) (trodAll_cons_mk (shut_int Try.underlying5 w1) (trodAll_cons_mk (shut_int Try.underlying5 w2) trodAll_mk0)))) (fun _ _ => rfl) rfl
    (hg.frame _) hg.2.1 (ok_one (by kernel_rfl) rfl (okWide_bool_mk Try.underlying4 _))⟩

theorem over : Rows.wordGroupRow.holds Try.pinned (OpenSpec.ofChange Rows.wordGroupSpec) :=
  OpenClaim.holds_of_wide 5 Try.f5 rfl rfl rfl rfl rfl rfl rfl ⟨rfl, rfl, rfl, rfl, rfl⟩ rfl rfl rfl rfl rfl (by kernel_rfl) Try.func5 (by kernel_rfl)
    (of_decide_eq_true (by kernel_rfl)) (by unfold Func.isWrapper; first | (rw [if_pos (by decide +kernel)]; kernel_rfl) | (rw [if_neg (by decide +kernel)]; exact ⟨rfl, rfl⟩))
    (fun os started H enc _ => lifted os started H enc)

/-- ████ THE STATEMENT ████ -/
theorem proved : Rows.WordGroupSaid :=
  over
end Go.Proofs.Ytpokpejnocmciab.wordGroup
namespace Go.Proofs.Ytpokpejnocmciab
theorem wordGroup_holds : Rows.WordGroupSaid := wordGroup.proved
end Go.Proofs.Ytpokpejnocmciab
