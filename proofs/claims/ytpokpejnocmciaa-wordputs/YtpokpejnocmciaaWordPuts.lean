/- Put answers, at every byte, number of a bit and on or off, what the document says, no other bit turns, and the examples hold; no condition. -/
import Derived.Test.YtpokpejnocmciaaRows
import Derived.WalkKit
import Derived.ProofKit
import Derived.OpenShut
import Derived.ShutString
import Derived.Test.YtpokpejnocmciaaShown
import Derived.Test.YtpokpejnocmciaaRefHex
namespace Go.Proofs.Ytpokpejnocmciaa.wordPuts
open Go.ChangeShapes Go.WideShapes Go.ChangeAt Go.RowKit
open Go.ChangeMaps (open_string shut_string)
set_option linter.unusedVariables false      -- a walk need not use every 'w<i>' (that an integer argument fits its kind)

theorem own : ownKnob Try.prog.godebug = none := by kernel_rfl

theorem putBit_fin : ∀ a : Fin 256, ∀ n : Fin 8, ∀ k : Fin 8, ∀ on : Bool, k = n ∨ bitOf (putOf (a.val : Int) (n.val : Int) on) (k.val : Int) = bitOf (a.val : Int) (k.val : Int) := by decide +kernel
theorem putBit_or (a : Fin 256) (n : Fin 8) (k : Fin 8) (on : Bool) : (k.val : Int) = (n.val : Int) ∨ bitOf (putOf (a.val : Int) (n.val : Int) on) (k.val : Int) = bitOf (a.val : Int) (k.val : Int) := by
  rcases putBit_fin a n k on with e | e
  · exact .inl (by rw [e])
  · exact .inr e
theorem putBit (a n : Int) (k : Nat) (on : Bool) (h0 : 0 ≤ a) (h1 : a ≤ 255) (hk : k < 8) (hne : (k : Int) ≠ n) : bitOf (putOf a n on) k = bitOf a k := by
  by_cases h : 0 ≤ n ∧ n < 8
  · rcases fin8n (p := fun a n => ∀ k : Fin 8, ∀ on : Bool, (k.val : Int) = n ∨ bitOf (putOf a n on) (k.val : Int) = bitOf a (k.val : Int)) (fun a n k on => putBit_or a n k on) a n h0 h1 h.1 h.2 ⟨k, hk⟩ on with e | e
    · exact absurd e hne
    · exact e
  · rw [put_out a n on h]

/-! ### STEP 1: THE WALK: the Go text returns true. 'Grown w w'': the world has at most new blocks (Derived/RowKit3.lean). Part the cases AHEAD of 'go_enter' where a test parts the walk; take each callee by a contract of your own. -/
theorem walk (a0 : Int) (a1 : Int) (a2 : Bool) (w0 : (Lit.int .u8 a0).wf = true) (w1 : (Lit.int .i64 a1).wf = true) (w : World) :
    Calls Try.prog 4 #[.int .u8 a0, .int .i64 a1, .bool a2] w fun e w' => e = .returned (.bool true) ∧ Grown w w' := by
  obtain ⟨b0, b1⟩ := bounds_u8 w0
  obtain ⟨p0, p1⟩ := put_bd a0 a1 a2 b0 b1
  go_enter Try.func4, Try.ntmps4
  go_wp2_with fail
  refine (shown_any _).mono ?_
  rintro e w3 ⟨rfl, g1⟩
  go_wp2_with fail
  refine (put_any _ _ _ _ b0 b1).mono ?_
  rintro e w4 ⟨rfl, rfl⟩
  go_wp2_with fail
  go_loop [9] (fun i => ∃ k : Nat, k ≤ 8 ∧ i = .int .i64 k) (fun i => 8 - (intOf i).toNat)
  case atStart => exact ⟨0, Nat.zero_le _, rfl⟩
  case round =>
    obtain ⟨k, hk, rfl⟩ := hrel
    by_cases hlt : k < 8
    · by_cases hkn : (k : Int) = a1
      · have hc : ((k : Int) != a1) = false := by simp [hkn]
        clear hkn
        go_wp2
        go_round
        case rel => exact ⟨k + 1, by omega, by go_num⟩
        case measure => simp [intOf]; omega
      · have hc : ((k : Int) != a1) = true := by simp [hkn]
        have hp : Hid (bitOf (putOf a0 a1 a2) k = bitOf a0 k) := putBit a0 a1 k a2 b0 b1 hlt hkn
        clear hkn
        go_wp2_with fail
        refine (bit_any _ _ _ p0 p1).mono ?_
        rintro e w5 ⟨rfl, rfl⟩
        rw [hp.out]
        go_wp2_with fail
        refine (bit_any _ _ _ b0 b1).mono ?_
        rintro e w5 ⟨rfl, rfl⟩
        go_wp2
        go_round
        case rel => exact ⟨k + 1, by omega, by go_num⟩
        case measure => simp [intOf]; omega
    · go_wp2_with fail
      refine (rput_any _ _ _ _ b0 b1).mono ?_
      rintro e w5 ⟨rfl, rfl⟩
      go_wp2
      go_ret
      exact ⟨rfl, g1⟩

/-! ### THE ROW's STEP: WRITTEN OUT: LEAVE IT -/
set_option maxRecDepth 100000 in
theorem lifted (os : Os) (started : os.Started) (H : Type) (enc : TypeId × Value → H) :
    ReturnsInHanded {} Try.checked os 4 .any (Rows.wordPutsSpec.pre6 enc Try.prog Try.f4 Rows.wordPutsRow.domain false) (Rows.wordPutsSpec.post enc Try.prog Try.f4 false true false false) := by
  refine returnsInHanded_of_change (C := Try.checked) own started (by kernel_rfl) Try.func4
    (ChangeSpec.witness6 (enc := enc) (C := Try.checked) false ⟨#[], #[.int .u8 0, .int .i64 0, .bool false], []⟩ 8 (by kernel_rfl) (by kernel_rfl) (by kernel_rfl) (by kernel_rfl)) ?_
  intro W base args ds gs before hval0 hW hcnd _
  have hval : ∀ (j : Nat) t v, Try.f4.params[j]? = some t → args[j]? = some v → Value.okWide Try.prog W .any base t v := hval0
  have hW' := hW
  obtain ⟨p, q, hA0, hV, rfl, hfz, hnd⟩ := hW
  have hA : DataW.TrodAll enc Try.prog W 0 (fun _ => true) true Try.f4.params.toList args.toList ds p := hA0
  rw [Try.params4] at hA hval
  obtain ⟨v0, vs0, d0, ds0, p0, q0, hargs, rfl, rfl, h0, r0⟩ := trodAll_cons hA
  obtain ⟨v1, vs1, d1, ds1, p1, q1, rfl, rfl, rfl, h1, r1⟩ := trodAll_cons r0
  obtain ⟨v2, vs2, d2, ds2, p2, q2, rfl, rfl, rfl, h2, r2⟩ := trodAll_cons r1
  obtain ⟨rfl, rfl, rfl⟩ := trodAll_nil r2
  obtain rfl : args = #[v0, v1, v2] := by cases args; simp_all
  obtain ⟨rfl, rfl⟩ := trodVars_none hV
  obtain ⟨a0, rfl, rfl, rfl, w0⟩ := open_int Try.underlying5 (hval 0 5 v0 rfl rfl) h0
  obtain ⟨a1, rfl, rfl, rfl, w1⟩ := open_int Try.underlying3 (hval 1 3 v1 rfl rfl) h1
  obtain ⟨a2, rfl, rfl, rfl⟩ := open_bool Try.underlying4 (hval 2 4 v2 rfl rfl) h2
  clear hA0 hval0
  simp only [List.append_nil] at hW'
  refine (walk a0 a1 a2 w0 w1 W).mono fun e W' ⟨he, hg⟩ => ?_
  subst he
  exact ⟨_, rfl, post_of_same (pa := []) (pv := []) hW' (fun _ _ _ => (trodAll_cons_mk (shut_bool Try.underlying4 _) trodAll_mk0)) (fun sp _ => (trodAll_cons_mk (shut_int Try.underlying5 w0) (trodAll_cons_mk (shut_int Try.underlying3 w1) (trodAll_cons_mk (shut_bool Try.underlying4 _) trodAll_mk0)))) (fun _ _ => rfl) rfl
    (hg.frame _) hg.2.1 (ok_one (by kernel_rfl) rfl (okWide_bool_mk Try.underlying4 _))⟩

theorem over : Rows.wordPutsRow.holds Try.pinned (OpenSpec.ofChange Rows.wordPutsSpec) :=
  OpenClaim.holds_of_wide 4 Try.f4 rfl rfl rfl rfl rfl rfl rfl ⟨rfl, rfl, rfl, rfl, rfl⟩ rfl rfl rfl rfl rfl (by kernel_rfl) Try.func4 (by kernel_rfl)
    (of_decide_eq_true (by kernel_rfl)) (by unfold Func.isWrapper; first | (rw [if_pos (by decide +kernel)]; kernel_rfl) | (rw [if_neg (by decide +kernel)]; exact ⟨rfl, rfl⟩))
    (fun os started H enc _ => lifted os started H enc)

/-- ████ THE STATEMENT ████ -/
theorem proved : Rows.WordPutsSaid :=
  over
end Go.Proofs.Ytpokpejnocmciaa.wordPuts
namespace Go.Proofs.Ytpokpejnocmciaa
theorem wordPuts_holds : Rows.WordPutsSaid := wordPuts.proved
end Go.Proofs.Ytpokpejnocmciaa
