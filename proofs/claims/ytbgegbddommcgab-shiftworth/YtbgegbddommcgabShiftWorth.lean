/- SLA doubles, SRL halves, SRA halves what is signed, rounded down, and what goes out is the rest; SWAP twice is nothing; a bit that was set is told, one that was taken away is not: for every byte, every number of a bit and all flags. No conditions. -/
import Derived.Test.YtbgegbddommcgabRows
import Derived.WalkKit
import Derived.ProofKit
import Derived.OpenShut
import Derived.ShutString
import Derived.Deep.RegionHeld3
import Derived.Deep.DeepCutAuto
import Derived.Test.YtbgegbddommcgabFlat
import Derived.Test.YtbgegbddommcgabShown3
namespace Go.Proofs.Ytbgegbddommcgab.shiftWorth
open Go.ChangeShapes Go.WideShapes Go.ChangeAt Go.RowKit
open Go.ChangeMaps (open_string shut_string)
set_option linter.unusedVariables false

theorem own : ownKnob Try.prog.godebug = none := by kernel_rfl
theorem fits23 {l : List Value} (e : l.length = 4) (f : fitAll [(0, .bool), (1, .bool), (2, .bool), (3, .bool)] l) :
    ∃ (x0 : Bool) (x1 : Bool) (x2 : Bool) (x3 : Bool), l = [.bool x0, .bool x1, .bool x2, .bool x3] := by
  match l, e with
  | [c0, c1, c2, c3], _ =>
    obtain ⟨⟨v0, g0, x0, h0⟩, ⟨v1, g1, x1, h1⟩, ⟨v2, g2, x2, h2⟩, ⟨v3, g3, x3, h3⟩, _⟩ := f
    have e0 : c0 = v0 := Option.some.inj g0
    subst h0 e0
    have e1 : c1 = v1 := Option.some.inj g1
    subst h1 e1
    have e2 : c2 = v2 := Option.some.inj g2
    subst h2 e2
    have e3 : c3 = v3 := Option.some.inj g3
    subst h3 e3
    exact ⟨x0, x1, x2, x3, rfl⟩
theorem i8w_fin : ∀ b : Fin 256, IntKind.i8.wrap (b.val : Int) = signedOf (b.val : Int) := by decide +kernel
theorem signed_bd (a : Int) (h0 : 0 ≤ a) (h1 : a ≤ 255) : -128 ≤ signedOf a ∧ signedOf a ≤ 127 := by unfold signedOf; split <;> omega

set_option maxRecDepth 100000 in
set_option maxHeartbeats 8000000 in
theorem walk (a0 : Int) (a1 : Int) (a2c0 : Bool) (a2c1 : Bool) (a2c2 : Bool) (a2c3 : Bool) (w0 : (Lit.int .u8 a0).wf = true) (w1 : (Lit.int .i64 a1).wf = true) (w : World) :
    Calls Try.prog 3 #[.int .u8 a0, .int .i64 a1, .agg #[.bool a2c0, .bool a2c1, .bool a2c2, .bool a2c3]] w fun e w' => e = .returned (.bool true) ∧ Grown w w' := by
  obtain ⟨x0, x1⟩ := bounds_u8 w0
  have F := hid (fin8 (p := fun v => ∀ c : Bool, shOf 4 v c + (if shOut 4 v then 256 else 0) = 2 * v ∧ 2 * shOf 7 v c + (if shOut 7 v then 1 else 0) = v ∧ 2 * signedOf (shOf 5 v c) + (if shOut 7 v then 1 else 0) = signedOf v ∧ shOut 5 v = shOut 7 v ∧ shOf 6 (shOf 6 v c) c = v) worth_fin a0 x0 x1 a2c3)
  have P := hid (fin8n (p := fun v n => bitOf (putOf v n true) n = true ∧ bitOf (putOf v n false) n = false) putbit_fin a0 (a1 % 8) x0 x1 (by omega) (by omega))
  obtain ⟨p40, p41⟩ := sh_bd 4 a0 a2c3 x0 x1
  obtain ⟨p50, p51⟩ := sh_bd 5 a0 a2c3 x0 x1
  obtain ⟨p60, p61⟩ := sh_bd 6 a0 a2c3 x0 x1
  obtain ⟨p70, p71⟩ := sh_bd 7 a0 a2c3 x0 x1
  obtain ⟨b0, b1⟩ := put_bd a0 (a1 % 8) true x0 x1
  obtain ⟨c0, c1⟩ := put_bd a0 (a1 % 8) false x0 x1
  have H5 := hid F.out.2.2.2.1
  have H6 := hid F.out.2.2.2.2
  obtain ⟨o4, h4⟩ : ∃ o, shOut 4 a0 = o := ⟨_, rfl⟩
  obtain ⟨o7, h7⟩ : ∃ o, shOut 7 a0 = o := ⟨_, rfl⟩
  obtain ⟨ov, hov⟩ : ∃ x : Int, (bif o4 then 256 else 0) = x := ⟨_, rfl⟩
  obtain ⟨re, hre⟩ : ∃ x : Int, (bif o7 then 1 else 0) = x := ⟨_, rfl⟩
  have E4 := hid (show shOf 4 a0 a2c3 + ov = 2 * a0 by have := F.out.1; rw [h4] at this; rw [← this, ← hov]; cases o4 <;> rfl)
  have E7 := hid (show 2 * shOf 7 a0 a2c3 + re = a0 by have := F.out.2.1; rw [h7] at this; rw [← hre]; cases o7 <;> exact this)
  have E5 := hid (show 2 * signedOf (shOf 5 a0 a2c3) + re = signedOf a0 by have := F.out.2.2.1; rw [h7] at this; rw [← this, ← hre]; cases o7 <;> rfl)
  have OV := hid (show 0 ≤ ov ∧ ov ≤ 256 by rw [← hov]; cases o4 <;> decide)
  have RE := hid (show 0 ≤ re ∧ re ≤ 1 by rw [← hre]; cases o7 <;> decide)
  have HOV := hid hov
  have HRE := hid hre
  clear hov hre
  have H4 := hid h4
  have H7 := hid h7
  clear h4 h7
  go_enter Try.func3, Try.ntmps3
  go_wp2_with fail
  refine (shown3_any _).mono ?_
  rintro e u1 ⟨rfl, g1⟩
  have B1n0x1 := has_grown g1 (has_alloc _ _ _)
  obtain ⟨zB1n0x1, cB1n0x1⟩ := id B1n0x1
  have G1 := hid (grown_trans ((Grown.refl w).alloc _ _) g1)
  go_wp2_with fail
  refine (do_any _ 4 _ _ _ _ _ _ (by decide) x0 x1).mono ?_
  rintro e u2 ⟨rfl, g2⟩
  rw [H4.out]
  have B1n0x2 := has_grown g2 B1n0x1
  obtain ⟨zB1n0x2, cB1n0x2⟩ := id B1n0x2
  have G2 := hid (grown_trans G1.out g2)
  go_wp2_with fail
  refine (do_any _ 7 _ _ _ _ _ _ (by decide) x0 x1).mono ?_
  rintro e u3 ⟨rfl, g3⟩
  rw [H7.out]
  have B1n0x3 := has_grown g3 (has_past B1n0x2 _)
  have B3n0x3 := has_grown g3 (has_alloc _ _ _)
  obtain ⟨zB1n0x3, cB1n0x3⟩ := id B1n0x3
  obtain ⟨zB3n0x3, cB3n0x3⟩ := id B3n0x3
  have G3 := hid (grown_trans (G2.out.alloc _ _) g3)
  go_wp2_with fail
  refine (do_any _ 5 _ _ _ _ _ _ (by decide) x0 x1).mono ?_
  rintro e u4 ⟨rfl, g4⟩
  rw [H5.out, H7.out]
  have B1n0x4 := has_grown g4 (has_past B1n0x3 _)
  have B3n0x4 := has_grown g4 (has_past B3n0x3 _)
  have B4n0x4 := has_grown g4 (has_alloc _ _ _)
  obtain ⟨zB1n0x4, cB1n0x4⟩ := id B1n0x4
  obtain ⟨zB3n0x4, cB3n0x4⟩ := id B3n0x4
  obtain ⟨zB4n0x4, cB4n0x4⟩ := id B4n0x4
  have G4 := hid (grown_trans (G3.out.alloc _ _) g4)
  go_wp2_with fail
  refine (do_any _ 6 _ _ _ _ _ _ (by decide) x0 x1).mono ?_
  rintro e u5 ⟨rfl, g5⟩
  have B1n0x5 := has_grown g5 (has_past B1n0x4 _)
  have B3n0x5 := has_grown g5 (has_past B3n0x4 _)
  have B4n0x5 := has_grown g5 (has_past B4n0x4 _)
  have B5n0x5 := has_grown g5 (has_alloc _ _ _)
  obtain ⟨zB1n0x5, cB1n0x5⟩ := id B1n0x5
  obtain ⟨zB3n0x5, cB3n0x5⟩ := id B3n0x5
  obtain ⟨zB4n0x5, cB4n0x5⟩ := id B4n0x5
  obtain ⟨zB5n0x5, cB5n0x5⟩ := id B5n0x5
  have G5 := hid (grown_trans (G4.out.alloc _ _) g5)
  go_wp2_with fail
  refine (do_any _ 6 _ _ _ _ _ _ (by decide) p60 p61).mono ?_
  rintro e u6 ⟨rfl, g6⟩
  rw [H6.out]
  have B1n0x6 := has_grown g6 (has_past B1n0x5 _)
  have B3n0x6 := has_grown g6 (has_past B3n0x5 _)
  have B4n0x6 := has_grown g6 (has_past B4n0x5 _)
  have B5n0x6 := has_grown g6 (has_past B5n0x5 _)
  have B6n0x6 := has_grown g6 (has_alloc _ _ _)
  obtain ⟨zB1n0x6, cB1n0x6⟩ := id B1n0x6
  obtain ⟨zB3n0x6, cB3n0x6⟩ := id B3n0x6
  obtain ⟨zB4n0x6, cB4n0x6⟩ := id B4n0x6
  obtain ⟨zB5n0x6, cB5n0x6⟩ := id B5n0x6
  obtain ⟨zB6n0x6, cB6n0x6⟩ := id B6n0x6
  have G6 := hid (grown_trans (G5.out.alloc _ _) g6)
  go_upto_if 54 with fail
  go_cut [18] (fun x wx => x = .int .i64 ov ∧ ∃ cs, wx = u6.alloc (.cells cs 23))
  case first =>
    cases o4
    all_goals
      go_wp2
      go_meet
      exact ⟨by rw [← HOV.out]; rfl, _, rfl⟩
  case rest =>
    obtain ⟨rfl, cs, rfl⟩ := hcut
    go_upto_if 56 with fail
    go_cut [19] (fun x wx => x = .int .i64 re ∧ wx = u6.alloc (.cells cs 23))
    case first =>
      cases o7
      all_goals
        go_wp2
        go_meet
        exact ⟨by rw [← HRE.out]; rfl, rfl⟩
    case rest =>
      obtain ⟨rfl, rfl⟩ := hcut
      have BF : Has (u6.alloc (.cells cs 23)) w.heap.size #[.bool a2c0, .bool a2c1, .bool a2c2, .bool a2c3] := has_past B1n0x6 _
      obtain ⟨csH, BH, eH⟩ : ∃ cs2, Has (u6.alloc (.cells cs 23)) u3.heap.size cs2 ∧ cs2[3]? = some (.bool o7) := ⟨_, has_past B4n0x6 _, rfl⟩
      obtain ⟨csI, BI, eI⟩ : ∃ cs2, Has (u6.alloc (.cells cs 23)) u4.heap.size cs2 ∧ cs2[3]? = some (.bool o7) := ⟨_, has_past B5n0x6 _, rfl⟩
      have GW := hid (G6.out.alloc cs 23)
      have EH := hid eH
      have EI := hid eI
      clear B1n0x1 zB1n0x1 cB1n0x1 B1n0x2 zB1n0x2 cB1n0x2 B1n0x3 zB1n0x3 cB1n0x3 B3n0x3 zB3n0x3 cB3n0x3 B1n0x4 zB1n0x4 cB1n0x4 B3n0x4 zB3n0x4 cB3n0x4 B4n0x4 zB4n0x4 cB4n0x4 B1n0x5 zB1n0x5 cB1n0x5 B3n0x5 zB3n0x5 cB3n0x5 B4n0x5 zB4n0x5 cB4n0x5 B5n0x5 zB5n0x5 cB5n0x5 B1n0x6 zB1n0x6 cB1n0x6 B3n0x6 zB3n0x6 cB3n0x6 B4n0x6 zB4n0x6 cB4n0x6 B5n0x6 zB5n0x6 cB5n0x6 B6n0x6 zB6n0x6 cB6n0x6
      clear eH eI
      obtain ⟨wz, hwz⟩ : ∃ x, x = u6.alloc (.cells cs 23) := ⟨_, rfl⟩
      rw [← hwz] at BF BH BI GW ⊢
      clear hwz
      obtain ⟨BFz, BFc⟩ := id BF
      have y1 : wz.heap.size ≠ w.heap.size := by omega
      have y2 : w.heap.size ≠ wz.heap.size := by omega
      have y3 : wz.heap.size ≠ u3.heap.size := by have := BH.1; omega
      have y4 : wz.heap.size ≠ u4.heap.size := by have := BI.1; omega
      go_upto_region 13 with fail
      go_cut [20] (fun g wx => ∃ gb : Nat, g = .pointer (some ⟨gb, 0, none⟩) ∧ Has wx gb #[.bool false, .bool false, .bool true, .bool a2c3] ∧ Has wx w.heap.size #[.bool a2c0, .bool a2c1, .bool a2c2, .bool a2c3] ∧ Has wx u3.heap.size csH ∧ Has wx u4.heap.size csI ∧ Grown w wx)
      case first =>
        go_region_held3 (fun w' => w'.cell? ⟨w.heap.size, 0, none⟩ = some (.bool a2c0) ∧ w'.cell? ⟨w.heap.size, 1, none⟩ = some (.bool a2c1) ∧ w'.cell? ⟨w.heap.size, 2, none⟩ = some (.bool a2c2) ∧ w'.cell? ⟨w.heap.size, 3, none⟩ = some (.bool a2c3)) (go_keep) (first | (go_at_call 7; refine (set_any _ _ _ x0 x1).mono ?_; rintro e v0 ⟨rfl, rfl⟩) | (go_at_call 6; refine (test_any _ _ _ _ _ _ _ b0 b1).mono ?_; rintro e v1 ⟨rfl, q1⟩; simp only [P.out.1, Bool.not_true]; have D1 : Has v1 w.heap.size #[.bool a2c0, .bool a2c1, .bool a2c2, .bool a2c3] := (by (repeat (first | with_reducible exact BF | with_reducible refine has_grown q1 ?_ | with_reducible refine has_drew ?_ | with_reducible refine has_past ?_ _))); obtain ⟨zD1, cD1⟩ := id D1; have yE1 : w.heap.size ≠ v1.heap.size := (by omega); have yF1 : v1.heap.size ≠ w.heap.size := (by omega); obtain ⟨hc1, hf1⟩ := gcell q1))
        all_goals
          go_wp2_with fail
          go_meet
        all_goals
          refine ⟨_, rfl, ?_, ?_, ?_, ?_, ?_⟩
          · (repeat (first  | with_reducible exact has_alloc _ _ _ | with_reducible refine has_grown q1 ?_ | with_reducible refine has_drew ?_ | with_reducible refine has_past ?_ _ | with_reducible refine has_set4 (c0 := .bool false) (c1 := .bool false) (c2 := .bool false) (c3 := .bool false) ?_ _ _ _ _ | with_reducible refine has_other ?_ (by first | exact y1 | exact yF1 | exact y3 | exact y4) _))
          · (repeat (first | with_reducible exact D1 | with_reducible exact BF | with_reducible exact has_alloc _ _ _ | with_reducible refine has_grown q1 ?_ | with_reducible refine has_drew ?_ | with_reducible refine has_past ?_ _ | with_reducible refine has_set4 (c0 := .bool false) (c1 := .bool false) (c2 := .bool false) (c3 := .bool false) ?_ _ _ _ _ | with_reducible refine has_other ?_ (by first | exact y1 | exact yF1 | exact y3 | exact y4) _))
          · (repeat (first | with_reducible exact BH | with_reducible exact has_alloc _ _ _ | with_reducible refine has_grown q1 ?_ | with_reducible refine has_drew ?_ | with_reducible refine has_past ?_ _ | with_reducible refine has_set4 (c0 := .bool false) (c1 := .bool false) (c2 := .bool false) (c3 := .bool false) ?_ _ _ _ _ | with_reducible refine has_other ?_ (by first | exact y1 | exact yF1 | exact y3 | exact y4) _))
          · (repeat (first | with_reducible exact BI | with_reducible exact has_alloc _ _ _ | with_reducible refine has_grown q1 ?_ | with_reducible refine has_drew ?_ | with_reducible refine has_past ?_ _ | with_reducible refine has_set4 (c0 := .bool false) (c1 := .bool false) (c2 := .bool false) (c3 := .bool false) ?_ _ _ _ _ | with_reducible refine has_other ?_ (by first | exact y1 | exact yF1 | exact y3 | exact y4) _))
          · (repeat (first | with_reducible exact GW.out | with_reducible refine grown_trans ?_ q1 | with_reducible refine Grown.drew ?_ | with_reducible refine Grown.alloc ?_ _ _ | with_reducible refine Grown.setCell ?_ (by first | exact GW.out.2.2 | (simp; omega) | omega) _))
      case rest =>
        obtain ⟨gb, rfl, Bg, CF, CH, CI, Gw⟩ := hcut
        clear BF BH BI GW BFz BFc y1 y2 y3 y4
        have GX := hid Gw
        clear Gw
        obtain ⟨CFz, CFc⟩ := id CF
        have j1 : wc.heap.size ≠ w.heap.size := by omega
        have j2 : w.heap.size ≠ wc.heap.size := by omega
        have j3 : wc.heap.size ≠ u3.heap.size := by have := CH.1; omega
        have j4 : wc.heap.size ≠ u4.heap.size := by have := CI.1; omega
        have j5 : wc.heap.size ≠ gb := by have := Bg.1; omega
        obtain ⟨wy, hwy⟩ : ∃ x, x = wc := ⟨_, rfl⟩
        go_upto_region 14 with fail
        go_cut [21] (fun g wx => ∃ nb : Nat, g = .pointer (some ⟨nb, 0, none⟩) ∧ Has wx nb #[.bool true, .bool false, .bool true, .bool a2c3] ∧ Has wx gb #[.bool false, .bool false, .bool true, .bool a2c3] ∧ Has wx u3.heap.size csH ∧ Has wx u4.heap.size csI ∧ Grown w wx)
        case first =>
          go_region_held3 (fun w' => w'.cell? ⟨w.heap.size, 0, none⟩ = some (.bool a2c0) ∧ w'.cell? ⟨w.heap.size, 1, none⟩ = some (.bool a2c1) ∧ w'.cell? ⟨w.heap.size, 2, none⟩ = some (.bool a2c2) ∧ w'.cell? ⟨w.heap.size, 3, none⟩ = some (.bool a2c3)) (go_keep) (first | (go_at_call 8; refine (res_any _ _ _ x0 x1).mono ?_; rintro e v0 ⟨rfl, rfl⟩) | (go_at_call 6; refine (test_any _ _ _ _ _ _ _ c0 c1).mono ?_; rintro e v1 ⟨rfl, q1⟩; simp only [P.out.2, Bool.not_false]; have D1 : Has v1 w.heap.size #[.bool a2c0, .bool a2c1, .bool a2c2, .bool a2c3] := (by (repeat (first | with_reducible exact CF | with_reducible refine has_grown q1 ?_ | with_reducible refine has_drew ?_ | with_reducible refine has_past ?_ _))); obtain ⟨zD1, cD1⟩ := id D1; have yE1 : w.heap.size ≠ v1.heap.size := (by omega); have yF1 : v1.heap.size ≠ w.heap.size := (by omega); obtain ⟨hc1, hf1⟩ := gcell q1))
          all_goals
            go_wp2_with fail
            go_meet
          all_goals
            refine ⟨_, rfl, ?_, ?_, ?_, ?_, ?_⟩
            · (repeat (first  | with_reducible exact has_alloc _ _ _ | with_reducible refine has_grown q1 ?_ | with_reducible refine has_drew ?_ | with_reducible refine has_past ?_ _ | with_reducible refine has_set4 (c0 := .bool false) (c1 := .bool false) (c2 := .bool false) (c3 := .bool false) ?_ _ _ _ _ | with_reducible refine has_other ?_ (by first | exact j1 | exact yF1 | exact j3 | exact j4 | exact j5) _))
            · (repeat (first | with_reducible exact Bg | with_reducible exact has_alloc _ _ _ | with_reducible refine has_grown q1 ?_ | with_reducible refine has_drew ?_ | with_reducible refine has_past ?_ _ | with_reducible refine has_set4 (c0 := .bool false) (c1 := .bool false) (c2 := .bool false) (c3 := .bool false) ?_ _ _ _ _ | with_reducible refine has_other ?_ (by first | exact j1 | exact yF1 | exact j3 | exact j4 | exact j5) _))
            · (repeat (first | with_reducible exact CH | with_reducible exact has_alloc _ _ _ | with_reducible refine has_grown q1 ?_ | with_reducible refine has_drew ?_ | with_reducible refine has_past ?_ _ | with_reducible refine has_set4 (c0 := .bool false) (c1 := .bool false) (c2 := .bool false) (c3 := .bool false) ?_ _ _ _ _ | with_reducible refine has_other ?_ (by first | exact j1 | exact yF1 | exact j3 | exact j4 | exact j5) _))
            · (repeat (first | with_reducible exact CI | with_reducible exact has_alloc _ _ _ | with_reducible refine has_grown q1 ?_ | with_reducible refine has_drew ?_ | with_reducible refine has_past ?_ _ | with_reducible refine has_set4 (c0 := .bool false) (c1 := .bool false) (c2 := .bool false) (c3 := .bool false) ?_ _ _ _ _ | with_reducible refine has_other ?_ (by first | exact j1 | exact yF1 | exact j3 | exact j4 | exact j5) _))
            · (repeat (first | with_reducible exact GX.out | with_reducible refine grown_trans ?_ q1 | with_reducible refine Grown.drew ?_ | with_reducible refine Grown.alloc ?_ _ _ | with_reducible refine Grown.setCell ?_ (by first | exact GX.out.2.2 | (simp; omega) | omega) _))
        case rest =>
          obtain ⟨nb, rfl, Bn, Cg, CH2, CI2, Gv⟩ := hcut
          obtain ⟨Bnz, Bnc⟩ := id Bn
          obtain ⟨Cgz, Cgc⟩ := id Cg
          have cH : wc.cell? ⟨u3.heap.size, 3, none⟩ = some (.bool o7) := (CH2.2 3).trans EH.out
          have cI : wc.cell? ⟨u4.heap.size, 3, none⟩ = some (.bool o7) := (CI2.2 3).trans EI.out
          obtain ⟨ov0, ov1⟩ := OV.out
          obtain ⟨re0, re1⟩ := RE.out
          have e4 := E4.out
          have e7 := E7.out
          have e5 := E5.out
          have s5 : IntKind.i8.wrap (shOf 5 a0 a2c3) = signedOf (shOf 5 a0 a2c3) := fin8 (p := fun b => IntKind.i8.wrap b = signedOf b) i8w_fin _ p50 p51
          have s0 : IntKind.i8.wrap a0 = signedOf a0 := fin8 (p := fun b => IntKind.i8.wrap b = signedOf b) i8w_fin _ x0 x1
          obtain ⟨k0, k1⟩ := signed_bd (shOf 5 a0 a2c3) p50 p51
          obtain ⟨k2, k3⟩ := signed_bd a0 x0 x1
          go_wp2
          go_ret
          exact ⟨rfl, Gv⟩

set_option maxRecDepth 100000 in
theorem lifted (os : Os) (started : os.Started) (H : Type) (enc : TypeId × Value → H) :
    ReturnsInHanded {} Try.checked os 3 .any (Rows.shiftWorthSpec.pre6 enc Try.prog Try.f3 Rows.shiftWorthRow.domain false) (Rows.shiftWorthSpec.post enc Try.prog Try.f3 false true false false) := by
  refine returnsInHanded_of_change (C := Try.checked) own started (by kernel_rfl) Try.func3
    (ChangeSpec.witness6 (enc := enc) (C := Try.checked) false ⟨#[], #[.int .u8 0, .int .i64 0, .agg #[.bool false, .bool false, .bool false, .bool false]], []⟩ 8 (by kernel_rfl) (by kernel_rfl) (by kernel_rfl) (by kernel_rfl)) ?_
  intro W base args ds gs before hval0 hW hcnd _
  have hval : ∀ (j : Nat) t v, Try.f3.params[j]? = some t → args[j]? = some v → Value.okWide Try.prog W .any base t v := hval0
  have hW' := hW
  obtain ⟨p, q, hA0, hV, rfl, hfz, hnd⟩ := hW
  have hA : DataW.TrodAll enc Try.prog W 0 (fun _ => true) true Try.f3.params.toList args.toList ds p := hA0
  rw [Try.params3] at hA hval
  obtain ⟨v0, vs0, d0, ds0, p0, q0, hargs, rfl, rfl, h0, r0⟩ := trodAll_cons hA
  obtain ⟨v1, vs1, d1, ds1, p1, q1, rfl, rfl, rfl, h1, r1⟩ := trodAll_cons r0
  obtain ⟨v2, vs2, d2, ds2, p2, q2, rfl, rfl, rfl, h2, r2⟩ := trodAll_cons r1
  obtain ⟨rfl, rfl, rfl⟩ := trodAll_nil r2
  obtain rfl : args = #[v0, v1, v2] := by cases args; simp_all
  obtain ⟨rfl, rfl⟩ := trodVars_none hV
  obtain ⟨a0, rfl, rfl, rfl, w0⟩ := open_int Try.underlying5 (hval 0 5 v0 rfl rfl) h0
  obtain ⟨a1, rfl, rfl, rfl, w1⟩ := open_int Try.underlying3 (hval 1 3 v1 rfl rfl) h1
  obtain ⟨rfl, ⟨l2, rfl, e2, f2⟩, k2⟩ := flat_open (n := 8) (c := 4) (L := [(0, .bool), (1, .bool), (2, .bool), (3, .bool)]) Try.underlying23 (by kernel_rfl) (by kernel_rfl) (hval 2 23 v2 rfl rfl) h2
  obtain ⟨a2c0, a2c1, a2c2, a2c3, rfl⟩ := fits23 e2 f2
  clear hA0 hval0
  simp only [List.append_nil] at hW'
  refine (walk a0 a1 a2c0 a2c1 a2c2 a2c3 w0 w1 W).mono fun e W' ⟨he, hg⟩ => ?_
  subst he
  exact ⟨_, rfl, post_of_same (pa := []) (pv := []) hW' (fun _ _ _ => (trodAll_cons_mk (shut_bool Try.underlying4 _) trodAll_mk0)) (fun sp _ => (trodAll_cons_mk (shut_int Try.underlying5 w0) (trodAll_cons_mk (shut_int Try.underlying3 w1) (trodAll_cons_mk (k2 _ _ _ _) trodAll_mk0)))) (fun _ _ => rfl) rfl
    (hg.frame _) hg.2.1 (ok_one (by kernel_rfl) rfl (okWide_bool_mk Try.underlying4 _))⟩

theorem over : Rows.shiftWorthRow.holds Try.pinned (OpenSpec.ofChange Rows.shiftWorthSpec) :=
  OpenClaim.holds_of_wide 3 Try.f3 rfl rfl rfl rfl rfl rfl rfl ⟨rfl, rfl, rfl, rfl, rfl⟩ rfl rfl rfl rfl rfl (by kernel_rfl) Try.func3 (by kernel_rfl)
    (of_decide_eq_true (by kernel_rfl)) (by unfold Func.isWrapper; first | (rw [if_pos (by decide +kernel)]; kernel_rfl) | (rw [if_neg (by decide +kernel)]; exact ⟨rfl, rfl⟩))
    (fun os started H enc _ => lifted os started H enc)

theorem proved : Rows.ShiftWorthSaid :=
  over
end Go.Proofs.Ytbgegbddommcgab.shiftWorth
namespace Go.Proofs.Ytbgegbddommcgab
theorem shiftWorth_holds : Rows.ShiftWorthSaid := shiftWorth.proved
end Go.Proofs.Ytbgegbddommcgab
