/- Rows and columns of objects, over this seat's translation: the program's and the document's. -/
import Derived.Test.YtecgpdjgbdobbabG15
import Derived.Test.YtecgpdjgbdobbabG08
import Derived.Test.YtecgpdjgbdobbabChecked
import Derived.BigQuiet
namespace Go.Proofs.Ytecgpdjgbdobbab
open Go.RowKit
set_option linter.unusedVariables false
set_option linter.unusedSimpArgs false

set_option maxRecDepth 100000 in
set_option maxHeartbeats 4000000 in
theorem prows16 (t : Bool) (w : World) : Calls Try.prog 43 #[.bool t] w fun e w' => e = .returned (.int .i64 (rowsI t)) ∧ w' = w := by
  cases t
  · go_enter Try.func43, Try.ntmps43
    go_wp2
    go_ret
    exact ⟨rfl, rfl⟩
  · go_enter Try.func43, Try.ntmps43
    go_wp2
    go_ret
    exact ⟨rfl, rfl⟩
set_option maxRecDepth 100000 in
set_option maxHeartbeats 4000000 in
theorem pdep16 (o : Ob) (l : Int) (w : World) (h0 : 0 ≤ l) (h1 : l ≤ 143) : Calls Try.prog 42 #[obV o, .int .i64 l] w fun e w' => e = .returned (.int .i64 (l + 16 - o.1.val)) ∧ Kept w w' := by
  obtain ⟨⟨oy, ly⟩, ⟨ox, lx⟩, ⟨ot, lt⟩, ⟨oa, la⟩, ⟨on, ln⟩⟩ := o
  simp only [obV, b8]
  have e1 : IntKind.i64.wrap (l + 16) = l + 16 := by rw [IntKind.wrap_i64]; omega
  have e2 : IntKind.i64.wrap (l + 16 - (oy : Int)) = l + 16 - (oy : Int) := by rw [IntKind.wrap_i64]; omega
  have e3 : IntKind.i64.wrap (oy : Int) = (oy : Int) := by rw [IntKind.wrap_i64]; omega
  go_enter Try.func42, Try.ntmps42
  go_wp2
  go_ret
  exact ⟨rfl, (Kept.refl w).alloc _⟩
set_option maxRecDepth 100000 in
set_option maxHeartbeats 4000000 in
theorem pst16 (o : Ob) (l : Int) (t : Bool) (w : World) : Calls Try.prog 41 #[obV o, .int .i64 l, .bool t] w fun e w' => e = .returned (.bool (onP o l t)) ∧ Kept w w' := by
  have RW := hid (fun u => prows16 t u)
  have DP := hid (fun u h0 h1 => pdep16 o l u h0 h1)
  have ON := hid (onP_iff o l t)
  have OF := hid (onP_no o l t)
  obtain ⟨B, hB⟩ : ∃ B, onP o l t = B := ⟨_, rfl⟩
  rw [hB] at ON OF ⊢
  clear hB
  obtain ⟨⟨oy, ly⟩, ⟨ox, lx⟩, ⟨ot, lt⟩, ⟨oa, la⟩, ⟨on, ln⟩⟩ := o
  simp only [obV, b8] at DP ON OF ⊢
  have rb : rowsI t = 16 ∨ rowsI t = 8 := by cases t <;> simp [rowsI]
  generalize rowsI t = r at *
  by_cases c1 : l < 0
  · have E : B = false := OF.out.2 (by omega)
    subst E
    have g1 : decide (l < 0) = true := decide_eq_true c1
    clear c1
    go_enter Try.func41, Try.ntmps41
    go_wp2
    go_ret
    exact ⟨rfl, (Kept.refl w).alloc _⟩
  by_cases c2 : 143 < l
  · have E : B = false := OF.out.2 (by omega)
    subst E
    have g1 : decide (l < 0) = false := decide_eq_false (by omega)
    have g2 : decide (143 < l) = true := decide_eq_true (by omega)
    have g3 : decide (144 ≤ l) = true := decide_eq_true (by omega)
    go_enter Try.func41, Try.ntmps41
    go_wp2
    go_ret
    exact ⟨rfl, (Kept.refl w).alloc _⟩
  have g1 : decide (l < 0) = false := decide_eq_false (by omega)
  have g2 : decide (143 < l) = false := decide_eq_false (by omega)
  have g3 : decide (144 ≤ l) = false := decide_eq_false (by omega)
  have e1 : IntKind.i64.wrap (l + 16) = l + 16 := by rw [IntKind.wrap_i64]; omega
  have e3 : IntKind.i64.wrap (oy : Int) = (oy : Int) := by rw [IntKind.wrap_i64]; omega
  have e4 : IntKind.i64.wrap ((oy : Int) + r) = (oy : Int) + r := by rw [IntKind.wrap_i64]; omega
  have DQ := hid (fun u => DP.out u (by omega) (by omega))
  clear DP
  obtain ⟨dv, hd⟩ : ∃ v, l + 16 - (oy : Int) = v := ⟨_, rfl⟩
  rw [hd] at DQ
  by_cases c3 : 0 ≤ dv
  · by_cases c4 : dv < r
    · have E : B = true := ON.out.2 (by omega)
      subst E
      have g4 : decide (0 ≤ dv) = true := decide_eq_true c3
      have g5 : decide (dv < r) = true := decide_eq_true c4
      clear c3 c4 hd
      go_enter Try.func41, Try.ntmps41
      go_wp2_with fail
      refine (DQ.out _).mono ?_
      rintro e u1 ⟨rfl, k1⟩
      have K1 := hid (((Kept.refl w).alloc _).trans k1)
      clear k1
      go_wp2_with (go_at_call 43; refine (RW.out _).mono ?_; rintro e u2 ⟨rfl, rfl⟩)
      go_ret
      exact ⟨rfl, K1.out⟩
    · have E : B = false := OF.out.2 (by omega)
      subst E
      have g4 : decide (0 ≤ dv) = true := decide_eq_true c3
      have g5 : decide (dv < r) = false := decide_eq_false c4
      clear c3 c4 hd
      go_enter Try.func41, Try.ntmps41
      go_wp2_with fail
      refine (DQ.out _).mono ?_
      rintro e u1 ⟨rfl, k1⟩
      have K1 := hid (((Kept.refl w).alloc _).trans k1)
      clear k1
      go_wp2_with (go_at_call 43; refine (RW.out _).mono ?_; rintro e u2 ⟨rfl, rfl⟩)
      go_ret
      exact ⟨rfl, K1.out⟩
  · have E : B = false := OF.out.2 (by omega)
    subst E
    have g4 : decide (0 ≤ dv) = false := decide_eq_false c3
    clear c3 hd
    go_enter Try.func41, Try.ntmps41
    go_wp2_with fail
    refine (DQ.out _).mono ?_
    rintro e u1 ⟨rfl, k1⟩
    have K1 := hid (((Kept.refl w).alloc _).trans k1)
    clear k1
    go_wp2
    go_ret
    exact ⟨rfl, K1.out⟩
theorem results_tmp3 {P : Program} {fn : Func} {p q r : Tmp} (h : fn.results = #[.tmp p, .tmp q, .tmp r]) (tmps : Array Value) (w : World) : (results fn tmps).run P w = .ok (.tuple #[tmps.getD p undef, tmps.getD q undef, tmps.getD r undef]) w := by
  simp [results, h]
set_option maxRecDepth 100000 in
set_option maxHeartbeats 4000000 in
theorem prow16 (o : Ob) (l : Int) (t : Bool) (w : World) : Calls Try.prog 32 #[obV o, .int .i64 l, .bool t] w fun e w' => e = .returned (.tuple #[.int .u8 (tileR o l t), .int .i64 (rowR o l t), .bool (onP o l t)]) ∧ Kept w w' := by
  have ST := hid (fun u => pst16 o l t u)
  have RW := hid (fun u => prows16 t u)
  have DP := hid (fun u h0 h1 => pdep16 o l u h0 h1)
  have A6 := and64_fin o.2.2.2.1
  have P0 := put0_fin o.2.2.1
  cases hon : onP o l t
  · have E1 : tileR o l t = 0 := by unfold tileR; rw [hon]; rfl
    have E2 : rowR o l t = 0 := by unfold rowR; rw [hon]; rfl
    rw [E1, E2]
    rw [hon] at ST
    clear E1 E2 hon A6 P0 DP
    obtain ⟨⟨oy, ly⟩, ⟨ox, lx⟩, ⟨ot, lt⟩, ⟨oa, la⟩, ⟨on, ln⟩⟩ := o
    simp only [obV, b8] at ST ⊢
    go_enter Try.func32, Try.ntmps32
    go_wp2_with fail
    refine (ST.out _).mono ?_
    rintro e u1 ⟨rfl, k1⟩
    have K1 := hid (((Kept.refl w).alloc _).trans k1)
    clear k1
    go_wp2
    refine bodyPost_ret (results_tmp3 rfl _ _) rfl ?_
    exact ⟨rfl, K1.out⟩
  · have RI := rI_in hon
    have HO := hid ((onP_iff o l t).1 hon)
    rw [hon] at ST
    unfold tileR rowR
    rw [hon, if_pos rfl, if_pos rfl]
    clear hon
    unfold rI at *
    obtain ⟨a1, a2, a3⟩ := P0
    obtain ⟨⟨oy, ly⟩, ⟨ox, lx⟩, ⟨ot, lt⟩, ⟨oa, la⟩, ⟨on, ln⟩⟩ := o
    simp only [obV, b8] at ST RI HO DP A6 a1 a2 a3 ⊢
    obtain ⟨q1, q2, q3, q4⟩ := HO.out
    generalize putOf (ot : Int) 0 false = pt at *
    cases hf : bitOf (oa : Int) 6
    · rw [hf] at A6 RI
      clear hf
      simp only [Bool.false_eq_true, if_false, if_true, Bool.not_true, Bool.not_false] at RI A6 ⊢
      cases t
      · simp only [rowsI, Bool.false_eq_true, if_false, if_true] at RW RI q4 ⊢
        have e1 : IntKind.i64.wrap (l + 16) = l + 16 := by rw [IntKind.wrap_i64]; omega
        have e3 : IntKind.i64.wrap (oy : Int) = (oy : Int) := by rw [IntKind.wrap_i64]; omega
        have DQ := hid (fun u => DP.out u q1 q2)
        clear DP
        obtain ⟨dv, hd⟩ : ∃ v, l + 16 - (oy : Int) = v := ⟨_, rfl⟩
        have e5 : IntKind.i64.wrap (l + 16 - (oy : Int)) = dv := by rw [IntKind.wrap_i64]; omega
        rw [hd] at RI ⊢
        rw [hd] at DQ
        obtain ⟨rv, hr⟩ : ∃ v, dv = v := ⟨_, rfl⟩
        subst hr
        go_enter Try.func32, Try.ntmps32
        go_wp2_with fail
        refine (ST.out _).mono ?_
        rintro e u1 ⟨rfl, k1⟩
        have K1 := hid (((Kept.refl w).alloc _).trans k1)
        have H1 := hid (hasK k1 (has_alloc w #[.int .u8 (oy : Int), .int .u8 (ox : Int), .int .u8 (ot : Int), .int .u8 (oa : Int), .int .u8 (on : Int)] 52))
        obtain ⟨z1, c1⟩ := H1.out
        have d0 := c1 0
        have d1 := c1 1
        have d2 := c1 2
        have d3 := c1 3
        have d4 := c1 4
        simp at d0 d1 d2 d3 d4
        clear k1 c1
        go_wp2_with fail
        refine (DQ.out _).mono ?_
        rintro e u2 ⟨rfl, k2⟩
        have K2 := hid (K1.out.trans k2)
        have H2 := hid (hasK k2 H1.out)
        clear d0 d1 d2 d3 d4 z1
        obtain ⟨z2, c2⟩ := H2.out
        have d0 := c2 0
        have d1 := c2 1
        have d2 := c2 2
        have d3 := c2 3
        have d4 := c2 4
        simp at d0 d1 d2 d3 d4
        clear k2 c2
        go_wp2_with (go_at_call 43; refine (RW.out _).mono ?_; rintro e u3 ⟨rfl, rfl⟩)
        refine bodyPost_ret (results_tmp3 rfl _ _) rfl ?_
        exact ⟨rfl, K2.out⟩
      · simp only [rowsI, Bool.false_eq_true, if_false, if_true] at RW RI q4 ⊢
        have e1 : IntKind.i64.wrap (l + 16) = l + 16 := by rw [IntKind.wrap_i64]; omega
        have e3 : IntKind.i64.wrap (oy : Int) = (oy : Int) := by rw [IntKind.wrap_i64]; omega
        have DQ := hid (fun u => DP.out u q1 q2)
        clear DP
        obtain ⟨dv, hd⟩ : ∃ v, l + 16 - (oy : Int) = v := ⟨_, rfl⟩
        have e5 : IntKind.i64.wrap (l + 16 - (oy : Int)) = dv := by rw [IntKind.wrap_i64]; omega
        rw [hd] at RI ⊢
        rw [hd] at DQ
        obtain ⟨rv, hr⟩ : ∃ v, dv = v := ⟨_, rfl⟩
        subst hr
        have e7 : Int.tdiv dv 8 = dv / 8 := Int.tdiv_eq_ediv_of_nonneg (by omega)
        have e8 : Int.tmod dv 8 = dv % 8 := Int.tmod_eq_emod_of_nonneg (by omega)
        have e9 : IntKind.u8.wrap (dv / 8) = dv / 8 := by rw [IntKind.wrap_u8]; omega
        have e10 : IntKind.i64.wrap (dv / 8) = dv / 8 := by rw [IntKind.wrap_i64]; omega
        have e11 : IntKind.i64.wrap (dv % 8) = dv % 8 := by rw [IntKind.wrap_i64]; omega
        have e12 : IntKind.u8.wrap (pt + dv / 8) = pt + dv / 8 := by rw [IntKind.wrap_u8]; omega
        go_enter Try.func32, Try.ntmps32
        go_wp2_with fail
        refine (ST.out _).mono ?_
        rintro e u1 ⟨rfl, k1⟩
        have K1 := hid (((Kept.refl w).alloc _).trans k1)
        have H1 := hid (hasK k1 (has_alloc w #[.int .u8 (oy : Int), .int .u8 (ox : Int), .int .u8 (ot : Int), .int .u8 (oa : Int), .int .u8 (on : Int)] 52))
        obtain ⟨z1, c1⟩ := H1.out
        have d0 := c1 0
        have d1 := c1 1
        have d2 := c1 2
        have d3 := c1 3
        have d4 := c1 4
        simp at d0 d1 d2 d3 d4
        clear k1 c1
        go_wp2_with fail
        refine (DQ.out _).mono ?_
        rintro e u2 ⟨rfl, k2⟩
        have K2 := hid (K1.out.trans k2)
        have H2 := hid (hasK k2 H1.out)
        clear d0 d1 d2 d3 d4 z1
        obtain ⟨z2, c2⟩ := H2.out
        have d0 := c2 0
        have d1 := c2 1
        have d2 := c2 2
        have d3 := c2 3
        have d4 := c2 4
        simp at d0 d1 d2 d3 d4
        clear k2 c2
        go_wp2_with (go_at_call 43; refine (RW.out _).mono ?_; rintro e u3 ⟨rfl, rfl⟩)
        refine bodyPost_ret (results_tmp3 rfl _ _) rfl ?_
        exact ⟨rfl, K2.out⟩
    · rw [hf] at A6 RI
      clear hf
      simp only [Bool.false_eq_true, if_false, if_true, Bool.not_true, Bool.not_false] at RI A6 ⊢
      cases t
      · simp only [rowsI, Bool.false_eq_true, if_false, if_true] at RW RI q4 ⊢
        have e1 : IntKind.i64.wrap (l + 16) = l + 16 := by rw [IntKind.wrap_i64]; omega
        have e3 : IntKind.i64.wrap (oy : Int) = (oy : Int) := by rw [IntKind.wrap_i64]; omega
        have DQ := hid (fun u => DP.out u q1 q2)
        clear DP
        obtain ⟨dv, hd⟩ : ∃ v, l + 16 - (oy : Int) = v := ⟨_, rfl⟩
        have e5 : IntKind.i64.wrap (l + 16 - (oy : Int)) = dv := by rw [IntKind.wrap_i64]; omega
        rw [hd] at RI ⊢
        rw [hd] at DQ
        have e6 : IntKind.i64.wrap (7 - dv) = 7 - dv := by rw [IntKind.wrap_i64]; omega
        obtain ⟨rv, hr⟩ : ∃ v, (7 - dv) = v := ⟨_, rfl⟩
        have hr2 : 8 - 1 - dv = rv := by omega
        rw [hr2] at RI ⊢
        rw [hr] at e6
        go_enter Try.func32, Try.ntmps32
        go_wp2_with fail
        refine (ST.out _).mono ?_
        rintro e u1 ⟨rfl, k1⟩
        have K1 := hid (((Kept.refl w).alloc _).trans k1)
        have H1 := hid (hasK k1 (has_alloc w #[.int .u8 (oy : Int), .int .u8 (ox : Int), .int .u8 (ot : Int), .int .u8 (oa : Int), .int .u8 (on : Int)] 52))
        obtain ⟨z1, c1⟩ := H1.out
        have d0 := c1 0
        have d1 := c1 1
        have d2 := c1 2
        have d3 := c1 3
        have d4 := c1 4
        simp at d0 d1 d2 d3 d4
        clear k1 c1
        go_wp2_with fail
        refine (DQ.out _).mono ?_
        rintro e u2 ⟨rfl, k2⟩
        have K2 := hid (K1.out.trans k2)
        have H2 := hid (hasK k2 H1.out)
        clear d0 d1 d2 d3 d4 z1
        obtain ⟨z2, c2⟩ := H2.out
        have d0 := c2 0
        have d1 := c2 1
        have d2 := c2 2
        have d3 := c2 3
        have d4 := c2 4
        simp at d0 d1 d2 d3 d4
        clear k2 c2
        go_wp2_with (go_at_call 43; refine (RW.out _).mono ?_; rintro e u3 ⟨rfl, rfl⟩)
        refine bodyPost_ret (results_tmp3 rfl _ _) rfl ?_
        exact ⟨rfl, K2.out⟩
      · simp only [rowsI, Bool.false_eq_true, if_false, if_true] at RW RI q4 ⊢
        have e1 : IntKind.i64.wrap (l + 16) = l + 16 := by rw [IntKind.wrap_i64]; omega
        have e3 : IntKind.i64.wrap (oy : Int) = (oy : Int) := by rw [IntKind.wrap_i64]; omega
        have DQ := hid (fun u => DP.out u q1 q2)
        clear DP
        obtain ⟨dv, hd⟩ : ∃ v, l + 16 - (oy : Int) = v := ⟨_, rfl⟩
        have e5 : IntKind.i64.wrap (l + 16 - (oy : Int)) = dv := by rw [IntKind.wrap_i64]; omega
        rw [hd] at RI ⊢
        rw [hd] at DQ
        have e6 : IntKind.i64.wrap (15 - dv) = 15 - dv := by rw [IntKind.wrap_i64]; omega
        obtain ⟨rv, hr⟩ : ∃ v, (15 - dv) = v := ⟨_, rfl⟩
        have hr2 : 16 - 1 - dv = rv := by omega
        rw [hr2] at RI ⊢
        rw [hr] at e6
        have e7 : Int.tdiv rv 8 = rv / 8 := Int.tdiv_eq_ediv_of_nonneg (by omega)
        have e8 : Int.tmod rv 8 = rv % 8 := Int.tmod_eq_emod_of_nonneg (by omega)
        have e9 : IntKind.u8.wrap (rv / 8) = rv / 8 := by rw [IntKind.wrap_u8]; omega
        have e10 : IntKind.i64.wrap (rv / 8) = rv / 8 := by rw [IntKind.wrap_i64]; omega
        have e11 : IntKind.i64.wrap (rv % 8) = rv % 8 := by rw [IntKind.wrap_i64]; omega
        have e12 : IntKind.u8.wrap (pt + rv / 8) = pt + rv / 8 := by rw [IntKind.wrap_u8]; omega
        go_enter Try.func32, Try.ntmps32
        go_wp2_with fail
        refine (ST.out _).mono ?_
        rintro e u1 ⟨rfl, k1⟩
        have K1 := hid (((Kept.refl w).alloc _).trans k1)
        have H1 := hid (hasK k1 (has_alloc w #[.int .u8 (oy : Int), .int .u8 (ox : Int), .int .u8 (ot : Int), .int .u8 (oa : Int), .int .u8 (on : Int)] 52))
        obtain ⟨z1, c1⟩ := H1.out
        have d0 := c1 0
        have d1 := c1 1
        have d2 := c1 2
        have d3 := c1 3
        have d4 := c1 4
        simp at d0 d1 d2 d3 d4
        clear k1 c1
        go_wp2_with fail
        refine (DQ.out _).mono ?_
        rintro e u2 ⟨rfl, k2⟩
        have K2 := hid (K1.out.trans k2)
        have H2 := hid (hasK k2 H1.out)
        clear d0 d1 d2 d3 d4 z1
        obtain ⟨z2, c2⟩ := H2.out
        have d0 := c2 0
        have d1 := c2 1
        have d2 := c2 2
        have d3 := c2 3
        have d4 := c2 4
        simp at d0 d1 d2 d3 d4
        clear k2 c2
        go_wp2_with (go_at_call 43; refine (RW.out _).mono ?_; rintro e u3 ⟨rfl, rfl⟩)
        refine bodyPost_ret (results_tmp3 rfl _ _) rfl ?_
        exact ⟨rfl, K2.out⟩
set_option maxRecDepth 100000 in
set_option maxHeartbeats 4000000 in
theorem pcol16 (o : Ob) (x : Int) (w : World) : Calls Try.prog 33 #[obV o, .int .i64 x] w fun e w' => e = .returned (.tuple #[.int .i64 (colI o x), .bool (colOn o x)]) ∧ Kept w w' := by
  have A5 := and32_fin o.2.2.2.1
  have ON := hid (colOn_iff o x)
  unfold colI
  obtain ⟨B, hB⟩ : ∃ B, colOn o x = B := ⟨_, rfl⟩
  rw [hB] at ON ⊢
  clear hB
  obtain ⟨⟨oy, ly⟩, ⟨ox, lx⟩, ⟨ot, lt⟩, ⟨oa, la⟩, ⟨on, ln⟩⟩ := o
  simp only [obV, b8] at ON A5 ⊢
  by_cases c1 : x < 0
  · have E : B = false := by cases B; · rfl
                             · exact absurd (ON.out.1 rfl) (by omega)
    subst E
    simp only [Bool.false_eq_true, if_false]
    have g1 : decide (x < 0) = true := decide_eq_true c1
    clear c1
    go_enter Try.func33, Try.ntmps33
    go_wp2
    refine bodyPost_ret (results_tmp2 rfl _ _ _) rfl ?_
    exact ⟨rfl, (Kept.refl w).alloc _⟩
  by_cases c2 : 159 < x
  · have E : B = false := by cases B; · rfl
                             · exact absurd (ON.out.1 rfl) (by omega)
    subst E
    simp only [Bool.false_eq_true, if_false]
    have g1 : decide (x < 0) = false := decide_eq_false c1
    have g2 : decide (159 < x) = true := decide_eq_true c2
    have g3 : decide (160 ≤ x) = true := decide_eq_true (by omega)
    go_enter Try.func33, Try.ntmps33
    go_wp2
    refine bodyPost_ret (results_tmp2 rfl _ _ _) rfl ?_
    exact ⟨rfl, (Kept.refl w).alloc _⟩
  have g1 : decide (x < 0) = false := decide_eq_false c1
  have g2 : decide (159 < x) = false := decide_eq_false c2
  have g3 : decide (160 ≤ x) = false := decide_eq_false (by omega)
  have e1 : IntKind.i64.wrap (x + 8) = x + 8 := by rw [IntKind.wrap_i64]; omega
  have e3 : IntKind.i64.wrap (ox : Int) = (ox : Int) := by rw [IntKind.wrap_i64]; omega
  obtain ⟨c, hc⟩ : ∃ v, x + 8 - (ox : Int) = v := ⟨_, rfl⟩
  have e4 : IntKind.i64.wrap (x + 8 - (ox : Int)) = c := by rw [IntKind.wrap_i64]; omega
  rw [hc] at ON ⊢
  by_cases c3 : c < 0
  · have E : B = false := by cases B; · rfl
                             · exact absurd (ON.out.1 rfl) (by omega)
    subst E
    simp only [Bool.false_eq_true, if_false]
    have g4 : decide (c < 0) = true := decide_eq_true c3
    clear hc
    go_enter Try.func33, Try.ntmps33
    go_wp2
    refine bodyPost_ret (results_tmp2 rfl _ _ _) rfl ?_
    exact ⟨rfl, (Kept.refl w).alloc _⟩
  by_cases c4 : 7 < c
  · have E : B = false := by cases B; · rfl
                             · exact absurd (ON.out.1 rfl) (by omega)
    subst E
    simp only [Bool.false_eq_true, if_false]
    have g4 : decide (c < 0) = false := decide_eq_false c3
    have g5 : decide (7 < c) = true := decide_eq_true c4
    have g6 : decide (8 ≤ c) = true := decide_eq_true (by omega)
    clear hc
    go_enter Try.func33, Try.ntmps33
    go_wp2
    refine bodyPost_ret (results_tmp2 rfl _ _ _) rfl ?_
    exact ⟨rfl, (Kept.refl w).alloc _⟩
  have E : B = true := ON.out.2 (by omega)
  subst E
  simp only [if_true]
  have g4 : decide (c < 0) = false := decide_eq_false c3
  have g5 : decide (7 < c) = false := decide_eq_false c4
  have g6 : decide (8 ≤ c) = false := decide_eq_false (by omega)
  have e7 : IntKind.i64.wrap (7 - c) = 7 - c := by rw [IntKind.wrap_i64]; omega
  clear hc
  cases hf : bitOf (oa : Int) 5
  · rw [hf] at A5
    clear hf
    simp only [Bool.not_true, Bool.not_false] at A5
    simp only [Bool.false_eq_true, if_false, if_true]
    go_enter Try.func33, Try.ntmps33
    go_wp2
    refine bodyPost_ret (results_tmp2 rfl _ _ _) rfl ?_
    exact ⟨rfl, (Kept.refl w).alloc _⟩
  · rw [hf] at A5
    clear hf
    simp only [Bool.not_true, Bool.not_false] at A5
    simp only [Bool.false_eq_true, if_false, if_true]
    go_enter Try.func33, Try.ntmps33
    go_wp2
    refine bodyPost_ret (results_tmp2 rfl _ _ _) rfl ?_
    exact ⟨rfl, (Kept.refl w).alloc _⟩
end Go.Proofs.Ytecgpdjgbdobbab
