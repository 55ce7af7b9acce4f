/- The objects of a line, over this seat's translation: the program's and the document's. -/
import Derived.Test.YtecgpdjgbdobbabG20
import Derived.Test.YtecgpdjgbdobbabG17
namespace Go.Proofs.Ytecgpdjgbdobbab
open Go.RowKit
set_option linter.unusedVariables false
set_option linter.unusedSimpArgs false

theorem own_form {w : World} {base : Nat} {v : Value} {L : List Ob} (o : OwnO w base v L) : ∃ a cap, v = .slice a L.length cap ∧ OwnO w base (.slice a L.length cap) L := by
  obtain ⟨a, cap, e, _⟩ := own_slO o
  exact ⟨a, cap, e, by rw [← e]; exact o⟩
set_option maxRecDepth 100000 in
set_option maxHeartbeats 4000000 in
theorem pscan16 (a : Option Addr) (cap : Nat) (z : List Int) (l : Int) (t : Bool) (w : World) (h : Sl w a cap z) (hl : z.length ≤ 140737488355328) :
    Calls Try.prog 31 #[.slice a z.length cap, .int .i64 l, .bool t] w fun e w' => (∃ a2 cap2, e = .returned (.slice a2 (scanL z l t).length cap2) ∧ SlO w' a2 cap2 (scanL z l t)) ∧ Kept w w' := by
  have HS := hid h
  clear h
  go_enter Try.func31, Try.ntmps31
  go_wp2
  go_loopw [7, 11] (fun s7 s8 wr => ∃ (j n : Nat) (av : Option Addr) (cp : Nat), j ≤ 40 ∧ s7 = .slice av n cp ∧ s8 = .int .i64 (j : Int) ∧ Hid ((scanTo z l t j).length = n) ∧ OwnO wr w.heap.size (.slice av n cp) (scanTo z l t j) ∧ Kept w wr) (fun _ s8 _ => 40 - (intOf s8).toNat)
  case atStart => exact ⟨0, 0, none, 0, by omega, rfl, rfl, rfl, ownO_nil w _, Kept.refl w⟩
  case round =>
    obtain ⟨j, n, av, cp, hj, rfl, rfl, HL, ho, hk⟩ := hrel
    have KK := hid hk
    have OO := hid ho
    have SL := scan_len z l t j
    clear ho
    by_cases hlt : j < 40
    · have g1 : decide ((j : Int) < 40) = true := decide_eq_true (by omega)
      have g2 : (j : Int) < 40 := by omega
      have OB := hid (pobj16 a cap z j wr (sl_kept hk HS.out) hlt hl)
      obtain ⟨o, ho⟩ : ∃ o, objN z j = o := ⟨_, rfl⟩
      rw [ho] at OB
      have ON := hid (fun u => pst16 o l t u)
      cases hb : onP o l t
      · have NX := hid (show scanTo z l t (j + 1) = scanTo z l t j by rw [scan_no (by rw [ho]; exact hb)])
        rw [hb] at ON
        clear hb ho hk
        obtain ⟨⟨oy, ly⟩, ⟨ox, lx⟩, ⟨ot, lt⟩, ⟨oa, la⟩, ⟨on, ln⟩⟩ := o
        simp only [obV, b8] at OB ON
        go_wp2_with fail
        refine OB.out.mono ?_
        rintro e u1 ⟨rfl, k1⟩
        have K1 := hid ((KK.out.trans k1).alloc (.cells #[.int .u8 (oy : Int), .int .u8 (ox : Int), .int .u8 (ot : Int), .int .u8 (oa : Int), .int .u8 (on : Int)] 52))
        have O1 := hid (owns_kept (((Kept.refl _).alloc (.cells #[.int .u8 (oy : Int), .int .u8 (ox : Int), .int .u8 (ot : Int), .int .u8 (oa : Int), .int .u8 (on : Int)] 52))) (owns_kept k1 OO.out))
        clear k1 OO KK
        go_wp2_with fail
        refine (ON.out _).mono ?_
        rintro e u2 ⟨rfl, k2⟩
        have K2 := hid (K1.out.trans k2)
        have O2 := hid (owns_kept k2 O1.out)
        obtain ⟨z1, c1⟩ := hasK k2 (has_alloc u1 #[.int .u8 (oy : Int), .int .u8 (ox : Int), .int .u8 (ot : Int), .int .u8 (oa : Int), .int .u8 (on : Int)] 52)
        have d0 := c1 0
        have d1 := c1 1
        have d2 := c1 2
        have d3 := c1 3
        have d4 := c1 4
        simp at d0 d1 d2 d3 d4
        clear k2 c1 O1 K1
        go_wp2
        go_roundw
        case rel => exact ⟨j + 1, n, av, cp, by omega, rfl, by go_num, (show _ = n by rw [NX.out]; exact HL.out), by rw [NX.out]; exact O2.out, K2.out⟩
        case measure => first | omega | (simp; omega) | (simp [intOf]; omega)
      · have NX := hid (show scanTo z l t (j + 1) = scanTo z l t j ++ [o] by rw [scan_yes (by rw [ho]; exact hb), ho])
        rw [hb] at ON
        clear hb ho hk
        obtain ⟨⟨oy, ly⟩, ⟨ox, lx⟩, ⟨ot, lt⟩, ⟨oa, la⟩, ⟨on, ln⟩⟩ := o
        simp only [obV, b8] at OB ON
        go_wp2_with fail
        refine OB.out.mono ?_
        rintro e u1 ⟨rfl, k1⟩
        have K1 := hid ((KK.out.trans k1).alloc (.cells #[.int .u8 (oy : Int), .int .u8 (ox : Int), .int .u8 (ot : Int), .int .u8 (oa : Int), .int .u8 (on : Int)] 52))
        have O1 := hid (owns_kept (((Kept.refl _).alloc (.cells #[.int .u8 (oy : Int), .int .u8 (ox : Int), .int .u8 (ot : Int), .int .u8 (oa : Int), .int .u8 (on : Int)] 52))) (owns_kept k1 OO.out))
        clear k1 OO KK
        go_wp2_with fail
        refine (ON.out _).mono ?_
        rintro e u2 ⟨rfl, k2⟩
        have K2 := hid (K1.out.trans k2)
        have O2 := hid (owns_kept k2 O1.out)
        obtain ⟨z1, c1⟩ := hasK k2 (has_alloc u1 #[.int .u8 (oy : Int), .int .u8 (ox : Int), .int .u8 (ot : Int), .int .u8 (oa : Int), .int .u8 (on : Int)] 52)
        have d0 := c1 0
        have d1 := c1 1
        have d2 := c1 2
        have d3 := c1 3
        have d4 := c1 4
        simp at d0 d1 d2 d3 d4
        clear k2 c1 O1 K1
        have LE : Hid ((scanTo z l t j ++ [(⟨⟨oy, ly⟩, ⟨ox, lx⟩, ⟨ot, lt⟩, ⟨oa, la⟩, ⟨on, ln⟩⟩ : Ob)]).length = (scanTo z l t j).length + 1) := by show _ = _; simp
        have hb2 : ∀ q, w.heap.size ≤ (u2.alloc q).heap.size := fun q => by rw [World.size_alloc]; have := K2.out.size; omega
        go_wp2_with (at_builtin; (refine wl_appendO (L := scanTo z l t j) (owns_kept ((Kept.refl _).alloc _) O2.out) (one_slO u2 (⟨⟨oy, ly⟩, ⟨ox, lx⟩, ⟨ot, lt⟩, ⟨oa, la⟩, ⟨on, ln⟩⟩ : Ob)) rfl rfl rfl rfl rfl (hb2 _) (by simp only [List.length_cons, List.length_nil]; omega) (fun v' u3 o3 g3 => ?_); obtain ⟨a3, c3, e3, o4⟩ := own_form o3; subst e3; have K3 := hid ((K2.out.alloc _).by g3 (fun q hq => (O2.out.lt q hq).1)); have O3 := hid o4; clear g3 o3 o4))
        go_roundw
        case rel => exact ⟨j + 1, _, a3, c3, by omega, rfl, by go_num, (show _ = _ by rw [NX.out]; simp), by rw [NX.out, ← LE.out]; exact O3.out, K3.out⟩
        case measure => first | omega | (simp; omega) | (simp [intOf]; omega)
    · have je : j = 40 := by omega
      subst je
      obtain ⟨a3, c3, e3, s3, _⟩ := own_slO OO.out
      rw [HL.out] at e3 SL
      cases e3
      have l3 := s3.len
      have m3 := s3.max
      rw [HL.out] at l3
      by_cases hn : 10 < n
      · have g1 : (10 : Int) < (n : Int) := by omega
        have g2 : (10 : Int) ≤ (cp : Int) := by omega
        have S4 := hid (slO_take s3 10 (cap2 := 10) (by omega) (by simp [maxLen]) (fun q => by have := s3.nil q; omega))
        have L4 : Hid ((scanL z l t).length = 10) := by show _ = 10; unfold scanL; rw [List.length_take, HL.out]; omega
        clear s3 OO SL m3
        cases av with
        | none =>
          go_wp2
          go_ret
          exact ⟨⟨none, 10, by rw [L4.out]; rfl, S4.out⟩, KK.out⟩
        | some x =>
          go_wp2
          go_ret
          exact ⟨⟨some x, 10, by rw [L4.out]; rfl, S4.out⟩, KK.out⟩
      · have g1 : ¬ (10 : Int) < (n : Int) := by omega
        have g2 : (n : Int) ≤ (cp : Int) := by omega
        have S4 := hid (slO_take s3 10 (cap2 := n) (by rw [HL.out]; omega) (by omega) (fun q => by have := s3.nil q; omega))
        have L4 : Hid ((scanL z l t).length = n) := by show _ = n; unfold scanL; rw [List.length_take, HL.out]; omega
        clear s3 OO SL m3
        cases av with
        | none =>
          go_wp2
          go_ret
          exact ⟨⟨none, n, by rw [L4.out]; rfl, S4.out⟩, KK.out⟩
        | some x =>
          go_wp2
          go_ret
          exact ⟨⟨some x, n, by rw [L4.out]; rfl, S4.out⟩, KK.out⟩
end Go.Proofs.Ytecgpdjgbdobbab
