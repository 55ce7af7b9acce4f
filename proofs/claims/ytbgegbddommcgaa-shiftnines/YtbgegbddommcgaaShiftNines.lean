/- Nine turns through the carry, each with the carry of the one ahead, leave the byte and the carry as they were; eight turns without it the byte: for every byte and all flags. No conditions. -/
import Derived.Test.YtbgegbddommcgaaRows
import Derived.WalkKit
import Derived.ProofKit
import Derived.OpenShut
import Derived.ShutString
import Derived.Deep.RegionHeld3
import Derived.Deep.DeepCutAuto
import Derived.Test.YtbgegbddommcgaaFlat
import Derived.Test.YtbgegbddommcgaaShown3
namespace Go.Proofs.Ytbgegbddommcgaa.shiftNines
open Go.ChangeShapes Go.WideShapes Go.ChangeAt Go.RowKit
open Go.ChangeMaps (open_string shut_string)
set_option linter.unusedVariables false

theorem own : ownKnob Try.prog.godebug = none := by kernel_rfl
theorem fits23 {l : List Value} (e : l.length = 4) (f : fitAll [(0, .bool), (1, .bool), (2, .bool), (3, .bool)] l) :
    ∃ (x0 : Bool) (x1 : Bool) (x2 : Bool) (x3 : Bool), l = [.bool x0, .bool x1, .bool x2, .bool x3] := by
  match l, e with
  | [c0, c1, c2, c3], _ =>
    obtain ⟨⟨v0, g0, x0, h0⟩, ⟨v1, g1, x1, h1⟩, ⟨v2, g2, x2, h2⟩, ⟨v3, g3, x3, h3⟩, _⟩ := f
    have e0 : c0 = v0 := Option.some.inj g0
    subst h0 e0
    have e1 : c1 = v1 := Option.some.inj g1
    subst h1 e1
    have e2 : c2 = v2 := Option.some.inj g2
    subst h2 e2
    have e3 : c3 = v3 := Option.some.inj g3
    subst h3 e3
    exact ⟨x0, x1, x2, x3, rfl⟩

set_option maxRecDepth 100000 in
set_option maxHeartbeats 8000000 in
theorem walk (a0 : Int) (a1c0 : Bool) (a1c1 : Bool) (a1c2 : Bool) (a1c3 : Bool) (w0 : (Lit.int .u8 a0).wf = true) (w : World) :
    Calls Try.prog 8 #[.int .u8 a0, .agg #[.bool a1c0, .bool a1c1, .bool a1c2, .bool a1c3]] w fun e w' => e = .returned (.bool true) ∧ Grown w w' := by
  obtain ⟨x0, x1⟩ := bounds_u8 w0
  have F := hid (fin8 (p := fun v => ∀ c : Bool, nineTo 2 v c 9 = (v, c) ∧ nineTo 3 v c 9 = (v, c) ∧ eightTo v c 8 = v) nine_fin a0 x0 x1 a1c3)
  go_enter Try.func8, Try.ntmps8
  go_wp2_with fail
  refine (shown3_any _).mono ?_
  rintro e u1 ⟨rfl, g1⟩
  have B1n0x1 := has_grown g1 (has_alloc _ _ _)
  obtain ⟨zB1n0x1, cB1n0x1⟩ := id B1n0x1
  have G1 := hid (grown_trans ((Grown.refl w).alloc _ _) g1)
  have y0 : w.heap.size < u1.heap.size + 1 := by omega
  have n1 : u1.heap.size ≠ w.heap.size := by omega
  have n2 : w.heap.size ≠ u1.heap.size := by omega
  have n3 : u1.heap.size + 1 ≠ w.heap.size := by omega
  have n4 : w.heap.size ≠ u1.heap.size + 1 := by omega
  have n5 : u1.heap.size + 1 ≠ u1.heap.size := by omega
  have n6 : u1.heap.size ≠ u1.heap.size + 1 := by omega
  have l1 : w.heap.size ≤ u1.heap.size := by omega
  have l2 : w.heap.size ≤ u1.heap.size + 1 := by omega
  go_wp2
  go_loopw [6, 8, 10, 11] (fun a b c i wr => ∃ k : Nat, k ≤ 9 ∧ i = .int .i64 k ∧ a = .int .u8 (nineTo 2 a0 a1c3 k).1 ∧ b = .int .u8 (nineTo 3 a0 a1c3 k).1 ∧ c = .int .u8 (eightTo a0 a1c3 (min k 8)) ∧ (∃ q1 q2 q3 : Bool, Has wr u1.heap.size #[.bool q1, .bool q2, .bool q3, .bool (nineTo 2 a0 a1c3 k).2]) ∧ (∃ q1 q2 q3 : Bool, Has wr (u1.heap.size + 1) #[.bool q1, .bool q2, .bool q3, .bool (nineTo 3 a0 a1c3 k).2]) ∧ Has wr w.heap.size #[.bool a1c0, .bool a1c1, .bool a1c2, .bool a1c3] ∧ Grown w wr) (fun _ _ _ i _ => 9 - (intOf i).toNat)
  case atStart =>
    refine ⟨0, Nat.zero_le _, rfl, rfl, rfl, rfl, ⟨_, _, _, has_past (has_alloc _ _ _) _⟩, ⟨a1c0, a1c1, a1c2, ?_⟩, has_past (has_past B1n0x1 _) _, (G1.out.alloc _ _).alloc _ _⟩
    have := has_alloc (u1.alloc (.cells #[.bool a1c0, .bool a1c1, .bool a1c2, .bool a1c3] 23)) #[.bool a1c0, .bool a1c1, .bool a1c2, .bool a1c3] 23
    simpa [nineTo] using this
  case round =>
    clear B1n0x1 zB1n0x1 cB1n0x1
    obtain ⟨k, hk, rfl, rfl, rfl, rfl, ⟨p1, p2, p3, Bg⟩, ⟨r1, r2, r3, Bh⟩, Bf, Gw⟩ := hrel
    obtain ⟨zg, cg⟩ := id Bg
    obtain ⟨zh, ch⟩ := id Bh
    obtain ⟨zf, cf⟩ := id Bf
    by_cases hlt : k < 9
    · obtain ⟨s0, s1⟩ := nine_bd 2 a0 a1c3 x0 x1 k
      obtain ⟨t0, t1⟩ := nine_bd 3 a0 a1c3 x0 x1 k
      obtain ⟨e0, e1⟩ := eight_bd a0 a1c3 x0 x1 (min k 8)
      obtain ⟨M, hM⟩ : ∃ M, min k 8 = M := ⟨_, rfl⟩
      have HM := hid hM
      rw [hM] at e0 e1 ⊢
      clear hM
      by_cases h8 : k < 8
      · have E := hid (show eightTo a0 a1c3 (min (k + 1) 8) = shOf 0 (eightTo a0 a1c3 M) a1c3 by rw [← HM.out, show min (k + 1) 8 = min k 8 + 1 by omega]; rfl)
        go_wp2_with fail
        refine (do_any _ 2 _ _ _ _ _ _ (by decide) s0 s1).mono ?_
        rintro e v1 ⟨rfl, g1⟩
        have Bf1 := has_grown g1 Bf
        have Bg1 := has_grown g1 Bg
        have Bh1 := has_grown g1 Bh
        obtain ⟨zf1, cf1⟩ := id Bf1
        obtain ⟨zg1, cg1⟩ := id Bg1
        obtain ⟨zh1, ch1⟩ := id Bh1
        have G1 := hid (grown_trans Gw g1)
        have fg1 : ∀ o, v1.frozen? ⟨u1.heap.size, o, none⟩ = false := fun o => grown_froz G1.out l1 o
        go_wp2_with fail
        refine (do_any _ 3 _ _ _ _ _ _ (by decide) t0 t1).mono ?_
        rintro e v2 ⟨rfl, g2⟩
        have Bf2 := has_grown g2 (has_other (has_other (has_other (has_other Bf1 n1 _) n1 _) n1 _) n1 _)
        have Bg2 := has_grown g2 (has_set4 Bg1 _ _ _ _)
        have Bh2 := has_grown g2 (has_other (has_other (has_other (has_other Bh1 n6 _) n6 _) n6 _) n6 _)
        obtain ⟨zf2, cf2⟩ := id Bf2
        obtain ⟨zg2, cg2⟩ := id Bg2
        obtain ⟨zh2, ch2⟩ := id Bh2
        have G2 := hid (grown_trans ((((G1.out.setCell l1 _).setCell l1 _).setCell l1 _).setCell l1 _) g2)
        have fh2 : ∀ o, v2.frozen? ⟨(u1.heap.size + 1), o, none⟩ = false := fun o => grown_froz G2.out l2 o
        go_wp2_with fail
        refine (do_any _ 0 _ _ _ _ _ _ (by decide) e0 e1).mono ?_
        rintro e v3 ⟨rfl, g3⟩
        have Bf3 := hid (has_grown g3 (has_other (has_other (has_other (has_other Bf2 n3 _) n3 _) n3 _) n3 _))
        have Bg3 := hid (has_grown g3 (has_other (has_other (has_other (has_other Bg2 n5 _) n5 _) n5 _) n5 _))
        have Bh3 := hid (has_grown g3 (has_set4 Bh2 _ _ _ _))
        have G3 := hid (grown_trans ((((G2.out.setCell l2 _).setCell l2 _).setCell l2 _).setCell l2 _) g3)
        go_wp2
        go_roundw
        case rel => exact ⟨k + 1, by omega, by go_num, rfl, rfl, by rw [E.out], ⟨_, _, _, Bg3.out⟩, ⟨_, _, _, Bh3.out⟩, Bf3.out, G3.out⟩
        case measure => simp [intOf]; omega
      · have E := hid (show eightTo a0 a1c3 (min (k + 1) 8) = eightTo a0 a1c3 M by rw [← HM.out, show min (k + 1) 8 = min k 8 by omega])
        go_wp2_with fail
        refine (do_any _ 2 _ _ _ _ _ _ (by decide) s0 s1).mono ?_
        rintro e v1 ⟨rfl, g1⟩
        have Bf1 := has_grown g1 Bf
        have Bg1 := has_grown g1 Bg
        have Bh1 := has_grown g1 Bh
        obtain ⟨zf1, cf1⟩ := id Bf1
        obtain ⟨zg1, cg1⟩ := id Bg1
        obtain ⟨zh1, ch1⟩ := id Bh1
        have G1 := hid (grown_trans Gw g1)
        have fg1 : ∀ o, v1.frozen? ⟨u1.heap.size, o, none⟩ = false := fun o => grown_froz G1.out l1 o
        go_wp2_with fail
        refine (do_any _ 3 _ _ _ _ _ _ (by decide) t0 t1).mono ?_
        rintro e v2 ⟨rfl, g2⟩
        have Bf2 := has_grown g2 (has_other (has_other (has_other (has_other Bf1 n1 _) n1 _) n1 _) n1 _)
        have Bg2 := has_grown g2 (has_set4 Bg1 _ _ _ _)
        have Bh2 := has_grown g2 (has_other (has_other (has_other (has_other Bh1 n6 _) n6 _) n6 _) n6 _)
        obtain ⟨zf2, cf2⟩ := id Bf2
        obtain ⟨zg2, cg2⟩ := id Bg2
        obtain ⟨zh2, ch2⟩ := id Bh2
        have G2 := hid (grown_trans ((((G1.out.setCell l1 _).setCell l1 _).setCell l1 _).setCell l1 _) g2)
        have fh2 : ∀ o, v2.frozen? ⟨(u1.heap.size + 1), o, none⟩ = false := fun o => grown_froz G2.out l2 o
        go_wp2
        go_roundw
        case rel => exact ⟨k + 1, by omega, by go_num, rfl, rfl, by rw [E.out], ⟨_, _, _, (has_other (has_other (has_other (has_other Bg2 n5 _) n5 _) n5 _) n5 _)⟩, ⟨_, _, _, has_set4 Bh2 _ _ _ _⟩, (has_other (has_other (has_other (has_other Bf2 n3 _) n3 _) n3 _) n3 _), (((G2.out.setCell l2 _).setCell l2 _).setCell l2 _).setCell l2 _⟩
        case measure => simp [intOf]; omega
    · obtain rfl : k = 9 := by omega
      have N1 := hid F.out.1
      have N2 := hid F.out.2.1
      have N3 := hid F.out.2.2
      rw [N1.out] at cg ⊢
      rw [N2.out] at ch ⊢
      rw [show min 9 8 = 8 from rfl, N3.out]
      go_wp2
      go_ret
      exact ⟨rfl, Gw⟩

set_option maxRecDepth 100000 in
theorem lifted (os : Os) (started : os.Started) (H : Type) (enc : TypeId × Value → H) :
    ReturnsInHanded {} Try.checked os 8 .any (Rows.shiftNinesSpec.pre6 enc Try.prog Try.f8 Rows.shiftNinesRow.domain false) (Rows.shiftNinesSpec.post enc Try.prog Try.f8 false true false false) := by
  refine returnsInHanded_of_change (C := Try.checked) own started (by kernel_rfl) Try.func8
    (ChangeSpec.witness6 (enc := enc) (C := Try.checked) false ⟨#[], #[.int .u8 0, .agg #[.bool false, .bool false, .bool false, .bool false]], []⟩ 8 (by kernel_rfl) (by kernel_rfl) (by kernel_rfl) (by kernel_rfl)) ?_
  intro W base args ds gs before hval0 hW hcnd _
  have hval : ∀ (j : Nat) t v, Try.f8.params[j]? = some t → args[j]? = some v → Value.okWide Try.prog W .any base t v := hval0
  have hW' := hW
  obtain ⟨p, q, hA0, hV, rfl, hfz, hnd⟩ := hW
  have hA : DataW.TrodAll enc Try.prog W 0 (fun _ => true) true Try.f8.params.toList args.toList ds p := hA0
  rw [Try.params8] at hA hval
  obtain ⟨v0, vs0, d0, ds0, p0, q0, hargs, rfl, rfl, h0, r0⟩ := trodAll_cons hA
  obtain ⟨v1, vs1, d1, ds1, p1, q1, rfl, rfl, rfl, h1, r1⟩ := trodAll_cons r0
  obtain ⟨rfl, rfl, rfl⟩ := trodAll_nil r1
  obtain rfl : args = #[v0, v1] := by cases args; simp_all
  obtain ⟨rfl, rfl⟩ := trodVars_none hV
  obtain ⟨a0, rfl, rfl, rfl, w0⟩ := open_int Try.underlying5 (hval 0 5 v0 rfl rfl) h0
  obtain ⟨rfl, ⟨l1, rfl, e1, f1⟩, k1⟩ := flat_open (n := 8) (c := 4) (L := [(0, .bool), (1, .bool), (2, .bool), (3, .bool)]) Try.underlying23 (by kernel_rfl) (by kernel_rfl) (hval 1 23 v1 rfl rfl) h1
  obtain ⟨a1c0, a1c1, a1c2, a1c3, rfl⟩ := fits23 e1 f1
  clear hA0 hval0
  simp only [List.append_nil] at hW'
  refine (walk a0 a1c0 a1c1 a1c2 a1c3 w0 W).mono fun e W' ⟨he, hg⟩ => ?_
  subst he
  exact ⟨_, rfl, post_of_same (pa := []) (pv := []) hW' (fun _ _ _ => (trodAll_cons_mk (shut_bool Try.underlying4 _) trodAll_mk0)) (fun sp _ => (trodAll_cons_mk (shut_int Try.underlying5 w0) (trodAll_cons_mk (k1 _ _ _ _) trodAll_mk0))) (fun _ _ => rfl) rfl
    (hg.frame _) hg.2.1 (ok_one (by kernel_rfl) rfl (okWide_bool_mk Try.underlying4 _))⟩

theorem over : Rows.shiftNinesRow.holds Try.pinned (OpenSpec.ofChange Rows.shiftNinesSpec) :=
  OpenClaim.holds_of_wide 8 Try.f8 rfl rfl rfl rfl rfl rfl rfl ⟨rfl, rfl, rfl, rfl, rfl⟩ rfl rfl rfl rfl rfl (by kernel_rfl) Try.func8 (by kernel_rfl)
    (of_decide_eq_true (by kernel_rfl)) (by unfold Func.isWrapper; first | (rw [if_pos (by decide +kernel)]; kernel_rfl) | (rw [if_neg (by decide +kernel)]; exact ⟨rfl, rfl⟩))
    (fun os started H enc _ => lifted os started H enc)

theorem proved : Rows.ShiftNinesSaid :=
  over
end Go.Proofs.Ytbgegbddommcgaa.shiftNines
namespace Go.Proofs.Ytbgegbddommcgaa
theorem shiftNines_holds : Rows.ShiftNinesSaid := shiftNines.proved
end Go.Proofs.Ytbgegbddommcgaa
