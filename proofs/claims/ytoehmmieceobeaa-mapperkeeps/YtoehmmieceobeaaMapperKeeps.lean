/- MapperKeeps: whatever is written to a mapper from its beginning on, its registers keep their widths and its kind stays; the law returns true. No condition. -/
import Derived.Test.YtoehmmieceobeaaRows
import Derived.WalkKit
import Derived.ProofKit
import Derived.OpenShut
import Derived.ShutString
import Derived.ChangeOld
import Derived.Deep.RegionHeld3
import Derived.Deep.DeepCutAuto
import Derived.LaidMore
import Derived.Lay
import Derived.Stop.Joined
import Derived.SevenTiedAt
import Derived.Deep.DeepHandedRow
import Derived.Deep.DeepWitnessRowRef
import Derived.SizedLaws
import Derived.SliceStrings
import Derived.Test.YtoehmmieceobeaaFlats
import Derived.Test.YtoehmmieceobeaaK6
import Derived.Test.YtoehmmieceobeaaShown8
import Derived.Test.YtoehmmieceobeaaMp8k
namespace Go.Proofs.Ytoehmmieceobeaa.mapperKeeps
open Go.ChangeShapes Go.WideShapes Go.ChangeAt Go.RowKit
open Go.ChangeMaps (open_string shut_string)
set_option linter.unusedVariables false

theorem own : ownKnob Try.prog.godebug = none := by kernel_rfl
theorem laidOut : laidOutB Try.prog = true := by kernel_rfl
theorem fits40 {l : List Value} (e : l.length = 2) (f : fitAll [(0, .int .u16), (1, .int .u8)] l) :
    ∃ (x0 : Int) (x1 : Int), l = [.int .u16 x0, .int .u8 x1] ∧ (Lit.int .u16 x0).wf = true ∧ (Lit.int .u8 x1).wf = true := by
  match l, e with
  | [c0, c1], _ =>
    obtain ⟨⟨v0, g0, x0, h0, w0⟩, ⟨v1, g1, x1, h1, w1⟩, _⟩ := f
    have e0 : c0 = v0 := Option.some.inj g0
    subst h0 e0
    have e1 : c1 = v1 := Option.some.inj g1
    subst h1 e1
    exact ⟨x0, x1, rfl, w0, w1⟩

def el40 (x : Int × Int) : List Value := [.int .u16 x.1, .int .u8 x.2]

set_option maxRecDepth 100000 in
set_option maxHeartbeats 8000000 in
theorem walk (a0 : Int) (a1 : Option Addr) (cap1 : Nat) (s1 : List (Int × Int)) (w : World) (w0 : (Lit.int .i64 a0).wf = true) (r1 : FRow w a1 2 (s1.map el40)) (q1 : ∀ x ∈ s1, (Lit.int .u16 x.1).wf = true ∧ (Lit.int .u8 x.2).wf = true) (l1 : s1.length ≤ cap1) (m1 : cap1 ≤ maxLen) (n1 : a1 = none → cap1 = 0) (b1 : s1.length * Try.prog.bytesOf 40 ≤ 140737488351232) :
    Calls Try.prog 8 #[.int .i64 a0, .slice a1 s1.length cap1] w fun e w' => e = .returned (.bool true) ∧ Kept w w' := by
  have S := hid (fun u => shown8 u)
  obtain ⟨g0, g1⟩ := bounds_i64 w0
  obtain ⟨n, hn⟩ : ∃ n : Nat, s1.length = n := ⟨_, rfl⟩
  have HN := hid hn
  have FG := hid (frow_getD (0, 0) r1)
  have WF := hid (fun j (h : j < n) => getD_mem (0, 0) q1 j (by rw [hn]; exact h))
  have n64 : n ≤ 140737488351232 := by rw [← hn]; rw [show Try.prog.bytesOf 40 = 4 by kernel_rfl] at b1; omega
  rw [hn] at l1 ⊢
  clear hn b1 r1 q1
  by_cases hk : a0 = 0 ∨ a0 = 1 ∨ a0 = 3 ∨ a0 = 5
  · rcases hk with rfl | rfl | rfl | rfl
    · have A := hid (fun u => mnew_any 0 u)
      rw [show newR 0 = newM 0 from rfl, show newE 0 = 0 from rfl] at A
      have KN := hid (keep_new 0 rfl)
      generalize newM 0 = N at *
      have KW := hid (keep_write 0)
      have KB := hid (fun m => keep_bank 0 m (by omega))
      go_enter Try.func8, Try.ntmps8
      go_wp2_with fail
      refine (S.out _).mono ?_
      rintro e u1 ⟨rfl, k1⟩
      have K1 := hid k1
      clear k1
      go_wp2_with fail
      refine (A.out _).mono ?_
      rintro e u2 ⟨rfl, k2⟩
      have K2 := hid (K1.out.trans k2)
      have zw : w.heap.size ≤ u2.heap.size := K2.out.size
      clear k2
      go_wp2_with fail
      obtain ⟨B, hB⟩ : ∃ v, u2.heap.size = v := ⟨_, rfl⟩
      have H0 := hid (has_alloc u2 #[.int .i64 N.kind, .bool N.op, .int .u8 N.low, .int .u8 N.high, .int .u8 N.ram, .bool N.mode] 24)
      have F0 := hid (froz_new u2 #[.int .i64 N.kind, .bool N.op, .int .u8 N.low, .int .u8 N.high, .int .u8 N.ram, .bool N.mode] 24)
      have K3 := hid (K2.out.alloc (.cells #[.int .i64 N.kind, .bool N.op, .int .u8 N.low, .int .u8 N.high, .int .u8 N.ram, .bool N.mode] 24))
      rw [hB] at H0 F0 zw ⊢
      go_loopw [8] (fun i wr => ∃ (j : Nat) (m : Mp), j ≤ n ∧ i = .int .i64 (j : Int) ∧ KeepI 0 m ∧ Has wr B #[.int .i64 m.kind, .bool m.op, .int .u8 m.low, .int .u8 m.high, .int .u8 m.ram, .bool m.mode] ∧ (∀ o, wr.frozen? ⟨B, o, none⟩ = false) ∧ Kept w wr) (fun i _ => n - (intOf i).toNat)
      case atStart => exact ⟨0, N, Nat.zero_le _, rfl, KN.out, H0.out, F0.out, K3.out⟩
      case round =>
        obtain ⟨j, m, hj, rfl, hk, hh, hf, hkt⟩ := hrel
        have HK := hid hk
        have HH := hid hh
        have KT := hid hkt
        clear hk hkt H0 F0 K3
        by_cases hlt : j < n
        · have hl2 : (j : Int) < (n : Int) := by omega
          obtain ⟨x, rfl, hx, hc⟩ := FG.out (by rw [HN.out]; omega)
          have c0 := hc j (by rw [HN.out]; exact hlt) 0 (by decide)
          have c1 := hc j (by rw [HN.out]; exact hlt) 1 (by decide)
          obtain ⟨y, hy⟩ : ∃ y, s1.getD j (0, 0) = y := ⟨_, rfl⟩
          rw [hy] at c0 c1
          have wy := WF.out j hlt
          rw [hy] at wy
          obtain ⟨av, vv⟩ := y
          simp [el40] at c0 c1 wy
          obtain ⟨av0, av1⟩ := bounds_u16 wy.1
          obtain ⟨vv0, vv1⟩ := bounds_u8 wy.2
          obtain ⟨zh, ch⟩ := id hh
          have e0 := ch 0
          have e1 := ch 1
          have e2 := ch 2
          have e3 := ch 3
          have e4 := ch 4
          have e5 := ch 5
          simp at e0 e1 e2 e3 e4 e5
          have xz : x.block < wr.heap.size := Nat.lt_of_lt_of_le hx KT.out.size
          have xB : x.block ≠ B := by omega
          have d0 := (KT.out.cell (x := x.add (j * 2)) (by rw [addFB]; exact hx)).trans c0
          have d1 := (KT.out.cell (x := x.add (j * 2 + 1)) (by rw [addFB]; exact hx)).trans c1
          have d2 : wr.cell? ((x.add (j * 2)).add 1) = some (.int .u8 vv) := (by rw [addF]; exact d1)
          have d3 : wr.cell? ⟨(x.add (j * 2)).block, (x.add (j * 2)).off + 1, none⟩ = some (.int .u8 vv) := (by rw [show (⟨(x.add (j * 2)).block, (x.add (j * 2)).off + 1, none⟩ : Addr) = (x.add (j * 2)).add 1 by simp [Addr.add]]; exact d2)
          have CW := hid (fun u => mwrite_any m av vv u av0 av1 vv0 vv1 HK.out.inn)
          have KI := hid (KW.out m av vv HK.out vv0 vv1)
          generalize writeM m av vv = R at *
          clear hc c0 c1 wy hy hh ch
          go_wp2_with fail
          go_cut [8] from 24 to 99 (fun i wx => i = .int .i64 (j : Int) ∧ Has wx B #[.int .i64 R.kind, .bool R.op, .int .u8 R.low, .int .u8 R.high, .int .u8 R.ram, .bool R.mode] ∧ (∀ o, wx.frozen? ⟨B, o, none⟩ = false) ∧ Kept w wx)
          case first =>
            go_region_with (go_at_call 12; refine (CW.out _).mono ?_; rintro e v1 ⟨rfl, q1⟩; have D1 := hasK q1 (has_drew HH.out); have F1 := frozK q1 zh hf; obtain ⟨zD1, cD1⟩ := id D1)
            all_goals
              go_wp2_with fail
              go_meet
            all_goals exact ⟨rfl, has_set6 D1 _ _ _ _ _ _, (fun o => by simp [F1]), ((KT.out.drew).trans q1).set6 zw _ _ _ _ _ _⟩
          case rest =>
            obtain ⟨rfl, hR, fR, kR⟩ := hcut
            have HR := hid hR
            have FR := hid fR
            have KR := hid kR
            obtain ⟨zR, cR⟩ := id hR
            have C1 := hid (fun u => mbank_any R 16384 u (by decide) (by decide) KI.out.inn)
            have C2 := hid (fun u => mbank_any R 0 u (by decide) (by decide) KI.out.inn)
            have C3 := hid (fun u => mbank_any R 32767 u (by decide) (by decide) KI.out.inn)
            obtain ⟨B1, B2, B3⟩ := KB.out R KI.out
            obtain ⟨b1, hb1⟩ : ∃ v, bankM R 16384 = v := ⟨_, rfl⟩
            obtain ⟨b2, hb2⟩ : ∃ v, bankM R 0 = v := ⟨_, rfl⟩
            obtain ⟨b3, hb3⟩ : ∃ v, bankM R 32767 = v := ⟨_, rfl⟩
            rw [hb1] at C1 B1
            rw [hb2] at C2 B2
            rw [hb3] at C3 B3
            rw [show mostK 0 = 1 from rfl] at B1
            have g1 : decide (1 < b1) = false := decide_eq_false (by omega)
            have g2 : decide (96 < b2) = false := decide_eq_false (by omega)
            have g3 : (b3 == 0) = false := by have := B3 (by decide); simp; omega
            have x0 : (R.kind != 0) = false := by rw [KI.out.kind]; rfl
            have x1 : decide (3 < R.high) = false := decide_eq_false (by have := KI.out.high; omega)
            have x2 : decide (15 < R.ram) = false := decide_eq_false (by have := KI.out.ram; omega)
            have x3 : decide (127 < R.low) = false := decide_eq_false (by rw [KI.out.none rfl]; decide)
            have f0 := cR 0
            have f1 := cR 1
            have f2 := cR 2
            have f3 := cR 3
            have f4 := cR 4
            have f5 := cR 5
            simp at f0 f1 f2 f3 f4 f5
            have RM := KI.out.none rfl
            subst RM
            simp only [mp0] at f0 f1 f2 f3 f4 f5
            clear hb1 hb2 hb3 B1 B2 B3 hR fR kR cR e0 e1 e2 e3 e4 e5 d0 d1 d2 d3 xz HH CW KN A S
            go_wp2_with fail
            refine (C1.out _).mono ?_
            rintro e u4 ⟨rfl, k4⟩
            have HR4 := hasK k4 HR.out
            have FR4 := hid (frozK k4 HR.out.1 FR.out)
            have KR4 := hid (KR.out.trans k4)
            have HR4h := hid HR4
            obtain ⟨z4, c4⟩ := id HR4
            have p0 := c4 0
            have p1 := c4 1
            have p2 := c4 2
            have p3 := c4 3
            have p4 := c4 4
            have p5 := c4 5
            simp [mp0] at p0 p1 p2 p3 p4 p5
            clear k4 c4 HR4 f0 f1 f2 f3 f4 f5 zR
            go_wp2_with fail
            refine (C2.out _).mono ?_
            rintro e u5 ⟨rfl, k5⟩
            have HR5 := hasK k5 HR4h.out
            have FR5 := hid (frozK k5 HR4h.out.1 FR4.out)
            have KR5 := hid (KR4.out.trans k5)
            have HR5h := hid HR5
            obtain ⟨z5, c5⟩ := id HR5
            have o0 := c5 0
            have o1 := c5 1
            have o2 := c5 2
            have o3 := c5 3
            have o4 := c5 4
            have o5 := c5 5
            simp [mp0] at o0 o1 o2 o3 o4 o5
            clear k5 c5 HR5 p0 p1 p2 p3 p4 p5 z4
            go_wp2_with fail
            refine (C3.out _).mono ?_
            rintro e u6 ⟨rfl, k6⟩
            have HR6 := hid (hasK k6 HR5h.out)
            have FR6 := hid (frozK k6 HR5h.out.1 FR5.out)
            have KR6 := hid (KR5.out.trans k6)
            clear k6
            go_wp2
            go_roundw
            case rel => exact ⟨j + 1, mp0, by omega, by go_num, KI.out, HR6.out, FR6.out, KR6.out⟩
            case measure => first | omega | (simp; omega) | (simp [intOf]; omega)
        · obtain rfl : j = n := by omega
          have hl2 : ¬ ((j : Int) < (j : Int)) := by omega
          go_wp2
          go_ret
          exact ⟨rfl, KT.out⟩
    · have A := hid (fun u => mnew_any 1 u)
      rw [show newR 1 = newM 1 from rfl, show newE 1 = 0 from rfl] at A
      have KN := hid (keep_new 1 rfl)
      generalize newM 1 = N at *
      have KW := hid (keep_write 1)
      have KB := hid (fun m => keep_bank 1 m (by omega))
      go_enter Try.func8, Try.ntmps8
      go_wp2_with fail
      refine (S.out _).mono ?_
      rintro e u1 ⟨rfl, k1⟩
      have K1 := hid k1
      clear k1
      go_wp2_with fail
      refine (A.out _).mono ?_
      rintro e u2 ⟨rfl, k2⟩
      have K2 := hid (K1.out.trans k2)
      have zw : w.heap.size ≤ u2.heap.size := K2.out.size
      clear k2
      go_wp2_with fail
      obtain ⟨B, hB⟩ : ∃ v, u2.heap.size = v := ⟨_, rfl⟩
      have H0 := hid (has_alloc u2 #[.int .i64 N.kind, .bool N.op, .int .u8 N.low, .int .u8 N.high, .int .u8 N.ram, .bool N.mode] 24)
      have F0 := hid (froz_new u2 #[.int .i64 N.kind, .bool N.op, .int .u8 N.low, .int .u8 N.high, .int .u8 N.ram, .bool N.mode] 24)
      have K3 := hid (K2.out.alloc (.cells #[.int .i64 N.kind, .bool N.op, .int .u8 N.low, .int .u8 N.high, .int .u8 N.ram, .bool N.mode] 24))
      rw [hB] at H0 F0 zw ⊢
      go_loopw [8] (fun i wr => ∃ (j : Nat) (m : Mp), j ≤ n ∧ i = .int .i64 (j : Int) ∧ KeepI 1 m ∧ Has wr B #[.int .i64 m.kind, .bool m.op, .int .u8 m.low, .int .u8 m.high, .int .u8 m.ram, .bool m.mode] ∧ (∀ o, wr.frozen? ⟨B, o, none⟩ = false) ∧ Kept w wr) (fun i _ => n - (intOf i).toNat)
      case atStart => exact ⟨0, N, Nat.zero_le _, rfl, KN.out, H0.out, F0.out, K3.out⟩
      case round =>
        obtain ⟨j, m, hj, rfl, hk, hh, hf, hkt⟩ := hrel
        have HK := hid hk
        have HH := hid hh
        have KT := hid hkt
        clear hk hkt H0 F0 K3
        by_cases hlt : j < n
        · have hl2 : (j : Int) < (n : Int) := by omega
          obtain ⟨x, rfl, hx, hc⟩ := FG.out (by rw [HN.out]; omega)
          have c0 := hc j (by rw [HN.out]; exact hlt) 0 (by decide)
          have c1 := hc j (by rw [HN.out]; exact hlt) 1 (by decide)
          obtain ⟨y, hy⟩ : ∃ y, s1.getD j (0, 0) = y := ⟨_, rfl⟩
          rw [hy] at c0 c1
          have wy := WF.out j hlt
          rw [hy] at wy
          obtain ⟨av, vv⟩ := y
          simp [el40] at c0 c1 wy
          obtain ⟨av0, av1⟩ := bounds_u16 wy.1
          obtain ⟨vv0, vv1⟩ := bounds_u8 wy.2
          obtain ⟨zh, ch⟩ := id hh
          have e0 := ch 0
          have e1 := ch 1
          have e2 := ch 2
          have e3 := ch 3
          have e4 := ch 4
          have e5 := ch 5
          simp at e0 e1 e2 e3 e4 e5
          have xz : x.block < wr.heap.size := Nat.lt_of_lt_of_le hx KT.out.size
          have xB : x.block ≠ B := by omega
          have d0 := (KT.out.cell (x := x.add (j * 2)) (by rw [addFB]; exact hx)).trans c0
          have d1 := (KT.out.cell (x := x.add (j * 2 + 1)) (by rw [addFB]; exact hx)).trans c1
          have d2 : wr.cell? ((x.add (j * 2)).add 1) = some (.int .u8 vv) := (by rw [addF]; exact d1)
          have d3 : wr.cell? ⟨(x.add (j * 2)).block, (x.add (j * 2)).off + 1, none⟩ = some (.int .u8 vv) := (by rw [show (⟨(x.add (j * 2)).block, (x.add (j * 2)).off + 1, none⟩ : Addr) = (x.add (j * 2)).add 1 by simp [Addr.add]]; exact d2)
          have CW := hid (fun u => mwrite_any m av vv u av0 av1 vv0 vv1 HK.out.inn)
          have KI := hid (KW.out m av vv HK.out vv0 vv1)
          generalize writeM m av vv = R at *
          clear hc c0 c1 wy hy hh ch
          go_wp2_with fail
          go_cut [8] from 24 to 99 (fun i wx => i = .int .i64 (j : Int) ∧ Has wx B #[.int .i64 R.kind, .bool R.op, .int .u8 R.low, .int .u8 R.high, .int .u8 R.ram, .bool R.mode] ∧ (∀ o, wx.frozen? ⟨B, o, none⟩ = false) ∧ Kept w wx)
          case first =>
            go_region_with (go_at_call 12; refine (CW.out _).mono ?_; rintro e v1 ⟨rfl, q1⟩; have D1 := hasK q1 (has_drew HH.out); have F1 := frozK q1 zh hf; obtain ⟨zD1, cD1⟩ := id D1)
            all_goals
              go_wp2_with fail
              go_meet
            all_goals exact ⟨rfl, has_set6 D1 _ _ _ _ _ _, (fun o => by simp [F1]), ((KT.out.drew).trans q1).set6 zw _ _ _ _ _ _⟩
          case rest =>
            obtain ⟨rfl, hR, fR, kR⟩ := hcut
            have HR := hid hR
            have FR := hid fR
            have KR := hid kR
            obtain ⟨zR, cR⟩ := id hR
            have C1 := hid (fun u => mbank_any R 16384 u (by decide) (by decide) KI.out.inn)
            have C2 := hid (fun u => mbank_any R 0 u (by decide) (by decide) KI.out.inn)
            have C3 := hid (fun u => mbank_any R 32767 u (by decide) (by decide) KI.out.inn)
            obtain ⟨B1, B2, B3⟩ := KB.out R KI.out
            obtain ⟨b1, hb1⟩ : ∃ v, bankM R 16384 = v := ⟨_, rfl⟩
            obtain ⟨b2, hb2⟩ : ∃ v, bankM R 0 = v := ⟨_, rfl⟩
            obtain ⟨b3, hb3⟩ : ∃ v, bankM R 32767 = v := ⟨_, rfl⟩
            rw [hb1] at C1 B1
            rw [hb2] at C2 B2
            rw [hb3] at C3 B3
            rw [show mostK 1 = 127 from rfl] at B1
            have g1 : decide (127 < b1) = false := decide_eq_false (by omega)
            have g2 : decide (96 < b2) = false := decide_eq_false (by omega)
            have g3 : (b3 == 0) = false := by have := B3 (by decide); simp; omega
            have x0 : (R.kind != 1) = false := by rw [KI.out.kind]; rfl
            have x1 : decide (3 < R.high) = false := decide_eq_false (by have := KI.out.high; omega)
            have x2 : decide (15 < R.ram) = false := decide_eq_false (by have := KI.out.ram; omega)
            have x3 : decide (127 < R.low) = false := decide_eq_false (by have := KI.out.one rfl; omega)
            have f0 := cR 0
            have f1 := cR 1
            have f2 := cR 2
            have f3 := cR 3
            have f4 := cR 4
            have f5 := cR 5
            simp at f0 f1 f2 f3 f4 f5
            clear hb1 hb2 hb3 B1 B2 B3 hR fR kR cR e0 e1 e2 e3 e4 e5 d0 d1 d2 d3 xz HH CW KN A S
            go_wp2_with fail
            refine (C1.out _).mono ?_
            rintro e u4 ⟨rfl, k4⟩
            have HR4 := hasK k4 HR.out
            have FR4 := hid (frozK k4 HR.out.1 FR.out)
            have KR4 := hid (KR.out.trans k4)
            have HR4h := hid HR4
            obtain ⟨z4, c4⟩ := id HR4
            have p0 := c4 0
            have p1 := c4 1
            have p2 := c4 2
            have p3 := c4 3
            have p4 := c4 4
            have p5 := c4 5
            simp at p0 p1 p2 p3 p4 p5
            clear k4 c4 HR4 f0 f1 f2 f3 f4 f5 zR
            go_wp2_with fail
            refine (C2.out _).mono ?_
            rintro e u5 ⟨rfl, k5⟩
            have HR5 := hasK k5 HR4h.out
            have FR5 := hid (frozK k5 HR4h.out.1 FR4.out)
            have KR5 := hid (KR4.out.trans k5)
            have HR5h := hid HR5
            obtain ⟨z5, c5⟩ := id HR5
            have o0 := c5 0
            have o1 := c5 1
            have o2 := c5 2
            have o3 := c5 3
            have o4 := c5 4
            have o5 := c5 5
            simp at o0 o1 o2 o3 o4 o5
            clear k5 c5 HR5 p0 p1 p2 p3 p4 p5 z4
            go_wp2_with fail
            refine (C3.out _).mono ?_
            rintro e u6 ⟨rfl, k6⟩
            have HR6 := hid (hasK k6 HR5h.out)
            have FR6 := hid (frozK k6 HR5h.out.1 FR5.out)
            have KR6 := hid (KR5.out.trans k6)
            clear k6
            go_wp2
            go_roundw
            case rel => exact ⟨j + 1, R, by omega, by go_num, KI.out, HR6.out, FR6.out, KR6.out⟩
            case measure => first | omega | (simp; omega) | (simp [intOf]; omega)
        · obtain rfl : j = n := by omega
          have hl2 : ¬ ((j : Int) < (j : Int)) := by omega
          go_wp2
          go_ret
          exact ⟨rfl, KT.out⟩
    · have A := hid (fun u => mnew_any 3 u)
      rw [show newR 3 = newM 3 from rfl, show newE 3 = 0 from rfl] at A
      have KN := hid (keep_new 3 rfl)
      generalize newM 3 = N at *
      have KW := hid (keep_write 3)
      have KB := hid (fun m => keep_bank 3 m (by omega))
      go_enter Try.func8, Try.ntmps8
      go_wp2_with fail
      refine (S.out _).mono ?_
      rintro e u1 ⟨rfl, k1⟩
      have K1 := hid k1
      clear k1
      go_wp2_with fail
      refine (A.out _).mono ?_
      rintro e u2 ⟨rfl, k2⟩
      have K2 := hid (K1.out.trans k2)
      have zw : w.heap.size ≤ u2.heap.size := K2.out.size
      clear k2
      go_wp2_with fail
      obtain ⟨B, hB⟩ : ∃ v, u2.heap.size = v := ⟨_, rfl⟩
      have H0 := hid (has_alloc u2 #[.int .i64 N.kind, .bool N.op, .int .u8 N.low, .int .u8 N.high, .int .u8 N.ram, .bool N.mode] 24)
      have F0 := hid (froz_new u2 #[.int .i64 N.kind, .bool N.op, .int .u8 N.low, .int .u8 N.high, .int .u8 N.ram, .bool N.mode] 24)
      have K3 := hid (K2.out.alloc (.cells #[.int .i64 N.kind, .bool N.op, .int .u8 N.low, .int .u8 N.high, .int .u8 N.ram, .bool N.mode] 24))
      rw [hB] at H0 F0 zw ⊢
      go_loopw [8] (fun i wr => ∃ (j : Nat) (m : Mp), j ≤ n ∧ i = .int .i64 (j : Int) ∧ KeepI 3 m ∧ Has wr B #[.int .i64 m.kind, .bool m.op, .int .u8 m.low, .int .u8 m.high, .int .u8 m.ram, .bool m.mode] ∧ (∀ o, wr.frozen? ⟨B, o, none⟩ = false) ∧ Kept w wr) (fun i _ => n - (intOf i).toNat)
      case atStart => exact ⟨0, N, Nat.zero_le _, rfl, KN.out, H0.out, F0.out, K3.out⟩
      case round =>
        obtain ⟨j, m, hj, rfl, hk, hh, hf, hkt⟩ := hrel
        have HK := hid hk
        have HH := hid hh
        have KT := hid hkt
        clear hk hkt H0 F0 K3
        by_cases hlt : j < n
        · have hl2 : (j : Int) < (n : Int) := by omega
          obtain ⟨x, rfl, hx, hc⟩ := FG.out (by rw [HN.out]; omega)
          have c0 := hc j (by rw [HN.out]; exact hlt) 0 (by decide)
          have c1 := hc j (by rw [HN.out]; exact hlt) 1 (by decide)
          obtain ⟨y, hy⟩ : ∃ y, s1.getD j (0, 0) = y := ⟨_, rfl⟩
          rw [hy] at c0 c1
          have wy := WF.out j hlt
          rw [hy] at wy
          obtain ⟨av, vv⟩ := y
          simp [el40] at c0 c1 wy
          obtain ⟨av0, av1⟩ := bounds_u16 wy.1
          obtain ⟨vv0, vv1⟩ := bounds_u8 wy.2
          obtain ⟨zh, ch⟩ := id hh
          have e0 := ch 0
          have e1 := ch 1
          have e2 := ch 2
          have e3 := ch 3
          have e4 := ch 4
          have e5 := ch 5
          simp at e0 e1 e2 e3 e4 e5
          have xz : x.block < wr.heap.size := Nat.lt_of_lt_of_le hx KT.out.size
          have xB : x.block ≠ B := by omega
          have d0 := (KT.out.cell (x := x.add (j * 2)) (by rw [addFB]; exact hx)).trans c0
          have d1 := (KT.out.cell (x := x.add (j * 2 + 1)) (by rw [addFB]; exact hx)).trans c1
          have d2 : wr.cell? ((x.add (j * 2)).add 1) = some (.int .u8 vv) := (by rw [addF]; exact d1)
          have d3 : wr.cell? ⟨(x.add (j * 2)).block, (x.add (j * 2)).off + 1, none⟩ = some (.int .u8 vv) := (by rw [show (⟨(x.add (j * 2)).block, (x.add (j * 2)).off + 1, none⟩ : Addr) = (x.add (j * 2)).add 1 by simp [Addr.add]]; exact d2)
          have CW := hid (fun u => mwrite_any m av vv u av0 av1 vv0 vv1 HK.out.inn)
          have KI := hid (KW.out m av vv HK.out vv0 vv1)
          generalize writeM m av vv = R at *
          clear hc c0 c1 wy hy hh ch
          go_wp2_with fail
          go_cut [8] from 24 to 99 (fun i wx => i = .int .i64 (j : Int) ∧ Has wx B #[.int .i64 R.kind, .bool R.op, .int .u8 R.low, .int .u8 R.high, .int .u8 R.ram, .bool R.mode] ∧ (∀ o, wx.frozen? ⟨B, o, none⟩ = false) ∧ Kept w wx)
          case first =>
            go_region_with (go_at_call 12; refine (CW.out _).mono ?_; rintro e v1 ⟨rfl, q1⟩; have D1 := hasK q1 (has_drew HH.out); have F1 := frozK q1 zh hf; obtain ⟨zD1, cD1⟩ := id D1)
            all_goals
              go_wp2_with fail
              go_meet
            all_goals exact ⟨rfl, has_set6 D1 _ _ _ _ _ _, (fun o => by simp [F1]), ((KT.out.drew).trans q1).set6 zw _ _ _ _ _ _⟩
          case rest =>
            obtain ⟨rfl, hR, fR, kR⟩ := hcut
            have HR := hid hR
            have FR := hid fR
            have KR := hid kR
            obtain ⟨zR, cR⟩ := id hR
            have C1 := hid (fun u => mbank_any R 16384 u (by decide) (by decide) KI.out.inn)
            have C2 := hid (fun u => mbank_any R 0 u (by decide) (by decide) KI.out.inn)
            have C3 := hid (fun u => mbank_any R 32767 u (by decide) (by decide) KI.out.inn)
            obtain ⟨B1, B2, B3⟩ := KB.out R KI.out
            obtain ⟨b1, hb1⟩ : ∃ v, bankM R 16384 = v := ⟨_, rfl⟩
            obtain ⟨b2, hb2⟩ : ∃ v, bankM R 0 = v := ⟨_, rfl⟩
            obtain ⟨b3, hb3⟩ : ∃ v, bankM R 32767 = v := ⟨_, rfl⟩
            rw [hb1] at C1 B1
            rw [hb2] at C2 B2
            rw [hb3] at C3 B3
            rw [show mostK 3 = 127 from rfl] at B1
            have g1 : decide (127 < b1) = false := decide_eq_false (by omega)
            have g2 : decide (96 < b2) = false := decide_eq_false (by omega)
            have g3 : (b3 == 0) = false := by have := B3 (by decide); simp; omega
            have x0 : (R.kind != 3) = false := by rw [KI.out.kind]; rfl
            have x1 : decide (3 < R.high) = false := decide_eq_false (by have := KI.out.high; omega)
            have x2 : decide (15 < R.ram) = false := decide_eq_false (by have := KI.out.ram; omega)
            have x3 : decide (127 < R.low) = false := decide_eq_false (by have := KI.out.three rfl; omega)
            have f0 := cR 0
            have f1 := cR 1
            have f2 := cR 2
            have f3 := cR 3
            have f4 := cR 4
            have f5 := cR 5
            simp at f0 f1 f2 f3 f4 f5
            clear hb1 hb2 hb3 B1 B2 B3 hR fR kR cR e0 e1 e2 e3 e4 e5 d0 d1 d2 d3 xz HH CW KN A S
            go_wp2_with fail
            refine (C1.out _).mono ?_
            rintro e u4 ⟨rfl, k4⟩
            have HR4 := hasK k4 HR.out
            have FR4 := hid (frozK k4 HR.out.1 FR.out)
            have KR4 := hid (KR.out.trans k4)
            have HR4h := hid HR4
            obtain ⟨z4, c4⟩ := id HR4
            have p0 := c4 0
            have p1 := c4 1
            have p2 := c4 2
            have p3 := c4 3
            have p4 := c4 4
            have p5 := c4 5
            simp at p0 p1 p2 p3 p4 p5
            clear k4 c4 HR4 f0 f1 f2 f3 f4 f5 zR
            go_wp2_with fail
            refine (C2.out _).mono ?_
            rintro e u5 ⟨rfl, k5⟩
            have HR5 := hasK k5 HR4h.out
            have FR5 := hid (frozK k5 HR4h.out.1 FR4.out)
            have KR5 := hid (KR4.out.trans k5)
            have HR5h := hid HR5
            obtain ⟨z5, c5⟩ := id HR5
            have o0 := c5 0
            have o1 := c5 1
            have o2 := c5 2
            have o3 := c5 3
            have o4 := c5 4
            have o5 := c5 5
            simp at o0 o1 o2 o3 o4 o5
            clear k5 c5 HR5 p0 p1 p2 p3 p4 p5 z4
            go_wp2_with fail
            refine (C3.out _).mono ?_
            rintro e u6 ⟨rfl, k6⟩
            have HR6 := hid (hasK k6 HR5h.out)
            have FR6 := hid (frozK k6 HR5h.out.1 FR5.out)
            have KR6 := hid (KR5.out.trans k6)
            clear k6
            go_wp2
            go_roundw
            case rel => exact ⟨j + 1, R, by omega, by go_num, KI.out, HR6.out, FR6.out, KR6.out⟩
            case measure => first | omega | (simp; omega) | (simp [intOf]; omega)
        · obtain rfl : j = n := by omega
          have hl2 : ¬ ((j : Int) < (j : Int)) := by omega
          go_wp2
          go_ret
          exact ⟨rfl, KT.out⟩
    · have A := hid (fun u => mnew_any 5 u)
      rw [show newR 5 = newM 5 from rfl, show newE 5 = 0 from rfl] at A
      have KN := hid (keep_new 5 rfl)
      generalize newM 5 = N at *
      have KW := hid (keep_write 5)
      have KB := hid (fun m => keep_bank 5 m (by omega))
      go_enter Try.func8, Try.ntmps8
      go_wp2_with fail
      refine (S.out _).mono ?_
      rintro e u1 ⟨rfl, k1⟩
      have K1 := hid k1
      clear k1
      go_wp2_with fail
      refine (A.out _).mono ?_
      rintro e u2 ⟨rfl, k2⟩
      have K2 := hid (K1.out.trans k2)
      have zw : w.heap.size ≤ u2.heap.size := K2.out.size
      clear k2
      go_wp2_with fail
      obtain ⟨B, hB⟩ : ∃ v, u2.heap.size = v := ⟨_, rfl⟩
      have H0 := hid (has_alloc u2 #[.int .i64 N.kind, .bool N.op, .int .u8 N.low, .int .u8 N.high, .int .u8 N.ram, .bool N.mode] 24)
      have F0 := hid (froz_new u2 #[.int .i64 N.kind, .bool N.op, .int .u8 N.low, .int .u8 N.high, .int .u8 N.ram, .bool N.mode] 24)
      have K3 := hid (K2.out.alloc (.cells #[.int .i64 N.kind, .bool N.op, .int .u8 N.low, .int .u8 N.high, .int .u8 N.ram, .bool N.mode] 24))
      rw [hB] at H0 F0 zw ⊢
      go_loopw [8] (fun i wr => ∃ (j : Nat) (m : Mp), j ≤ n ∧ i = .int .i64 (j : Int) ∧ KeepI 5 m ∧ Has wr B #[.int .i64 m.kind, .bool m.op, .int .u8 m.low, .int .u8 m.high, .int .u8 m.ram, .bool m.mode] ∧ (∀ o, wr.frozen? ⟨B, o, none⟩ = false) ∧ Kept w wr) (fun i _ => n - (intOf i).toNat)
      case atStart => exact ⟨0, N, Nat.zero_le _, rfl, KN.out, H0.out, F0.out, K3.out⟩
      case round =>
        obtain ⟨j, m, hj, rfl, hk, hh, hf, hkt⟩ := hrel
        have HK := hid hk
        have HH := hid hh
        have KT := hid hkt
        clear hk hkt H0 F0 K3
        by_cases hlt : j < n
        · have hl2 : (j : Int) < (n : Int) := by omega
          obtain ⟨x, rfl, hx, hc⟩ := FG.out (by rw [HN.out]; omega)
          have c0 := hc j (by rw [HN.out]; exact hlt) 0 (by decide)
          have c1 := hc j (by rw [HN.out]; exact hlt) 1 (by decide)
          obtain ⟨y, hy⟩ : ∃ y, s1.getD j (0, 0) = y := ⟨_, rfl⟩
          rw [hy] at c0 c1
          have wy := WF.out j hlt
          rw [hy] at wy
          obtain ⟨av, vv⟩ := y
          simp [el40] at c0 c1 wy
          obtain ⟨av0, av1⟩ := bounds_u16 wy.1
          obtain ⟨vv0, vv1⟩ := bounds_u8 wy.2
          obtain ⟨zh, ch⟩ := id hh
          have e0 := ch 0
          have e1 := ch 1
          have e2 := ch 2
          have e3 := ch 3
          have e4 := ch 4
          have e5 := ch 5
          simp at e0 e1 e2 e3 e4 e5
          have xz : x.block < wr.heap.size := Nat.lt_of_lt_of_le hx KT.out.size
          have xB : x.block ≠ B := by omega
          have d0 := (KT.out.cell (x := x.add (j * 2)) (by rw [addFB]; exact hx)).trans c0
          have d1 := (KT.out.cell (x := x.add (j * 2 + 1)) (by rw [addFB]; exact hx)).trans c1
          have d2 : wr.cell? ((x.add (j * 2)).add 1) = some (.int .u8 vv) := (by rw [addF]; exact d1)
          have d3 : wr.cell? ⟨(x.add (j * 2)).block, (x.add (j * 2)).off + 1, none⟩ = some (.int .u8 vv) := (by rw [show (⟨(x.add (j * 2)).block, (x.add (j * 2)).off + 1, none⟩ : Addr) = (x.add (j * 2)).add 1 by simp [Addr.add]]; exact d2)
          have CW := hid (fun u => mwrite_any m av vv u av0 av1 vv0 vv1 HK.out.inn)
          have KI := hid (KW.out m av vv HK.out vv0 vv1)
          generalize writeM m av vv = R at *
          clear hc c0 c1 wy hy hh ch
          go_wp2_with fail
          go_cut [8] from 24 to 99 (fun i wx => i = .int .i64 (j : Int) ∧ Has wx B #[.int .i64 R.kind, .bool R.op, .int .u8 R.low, .int .u8 R.high, .int .u8 R.ram, .bool R.mode] ∧ (∀ o, wx.frozen? ⟨B, o, none⟩ = false) ∧ Kept w wx)
          case first =>
            go_region_with (go_at_call 12; refine (CW.out _).mono ?_; rintro e v1 ⟨rfl, q1⟩; have D1 := hasK q1 (has_drew HH.out); have F1 := frozK q1 zh hf; obtain ⟨zD1, cD1⟩ := id D1)
            all_goals
              go_wp2_with fail
              go_meet
            all_goals exact ⟨rfl, has_set6 D1 _ _ _ _ _ _, (fun o => by simp [F1]), ((KT.out.drew).trans q1).set6 zw _ _ _ _ _ _⟩
          case rest =>
            obtain ⟨rfl, hR, fR, kR⟩ := hcut
            have HR := hid hR
            have FR := hid fR
            have KR := hid kR
            obtain ⟨zR, cR⟩ := id hR
            have C1 := hid (fun u => mbank_any R 16384 u (by decide) (by decide) KI.out.inn)
            have C2 := hid (fun u => mbank_any R 0 u (by decide) (by decide) KI.out.inn)
            have C3 := hid (fun u => mbank_any R 32767 u (by decide) (by decide) KI.out.inn)
            obtain ⟨B1, B2, B3⟩ := KB.out R KI.out
            obtain ⟨b1, hb1⟩ : ∃ v, bankM R 16384 = v := ⟨_, rfl⟩
            obtain ⟨b2, hb2⟩ : ∃ v, bankM R 0 = v := ⟨_, rfl⟩
            obtain ⟨b3, hb3⟩ : ∃ v, bankM R 32767 = v := ⟨_, rfl⟩
            rw [hb1] at C1 B1
            rw [hb2] at C2 B2
            rw [hb3] at C3 B3
            rw [show mostK 5 = 511 from rfl] at B1
            have g1 : decide (511 < b1) = false := decide_eq_false (by omega)
            have g2 : decide (96 < b2) = false := decide_eq_false (by omega)
            have x0 : (R.kind != 5) = false := by rw [KI.out.kind]; rfl
            have x1 : decide (3 < R.high) = false := decide_eq_false (by have := KI.out.high; omega)
            have x2 : decide (15 < R.ram) = false := decide_eq_false (by have := KI.out.ram; omega)
            have f0 := cR 0
            have f1 := cR 1
            have f2 := cR 2
            have f3 := cR 3
            have f4 := cR 4
            have f5 := cR 5
            simp at f0 f1 f2 f3 f4 f5
            clear hb1 hb2 hb3 B1 B2 B3 hR fR kR cR e0 e1 e2 e3 e4 e5 d0 d1 d2 d3 xz HH CW KN A S
            go_wp2_with fail
            refine (C1.out _).mono ?_
            rintro e u4 ⟨rfl, k4⟩
            have HR4 := hasK k4 HR.out
            have FR4 := hid (frozK k4 HR.out.1 FR.out)
            have KR4 := hid (KR.out.trans k4)
            have HR4h := hid HR4
            obtain ⟨z4, c4⟩ := id HR4
            have p0 := c4 0
            have p1 := c4 1
            have p2 := c4 2
            have p3 := c4 3
            have p4 := c4 4
            have p5 := c4 5
            simp at p0 p1 p2 p3 p4 p5
            clear k4 c4 HR4 f0 f1 f2 f3 f4 f5 zR
            go_wp2_with fail
            refine (C2.out _).mono ?_
            rintro e u5 ⟨rfl, k5⟩
            have HR5 := hasK k5 HR4h.out
            have FR5 := hid (frozK k5 HR4h.out.1 FR4.out)
            have KR5 := hid (KR4.out.trans k5)
            have HR5h := hid HR5
            obtain ⟨z5, c5⟩ := id HR5
            have o0 := c5 0
            have o1 := c5 1
            have o2 := c5 2
            have o3 := c5 3
            have o4 := c5 4
            have o5 := c5 5
            simp at o0 o1 o2 o3 o4 o5
            clear k5 c5 HR5 p0 p1 p2 p3 p4 p5 z4
            have HR6 := hid HR5h.out
            have FR6 := hid FR5.out
            have KR6 := hid KR5.out
            go_wp2
            go_roundw
            case rel => exact ⟨j + 1, R, by omega, by go_num, KI.out, HR6.out, FR6.out, KR6.out⟩
            case measure => first | omega | (simp; omega) | (simp [intOf]; omega)
        · obtain rfl : j = n := by omega
          have hl2 : ¬ ((j : Int) < (j : Int)) := by omega
          go_wp2
          go_ret
          exact ⟨rfl, KT.out⟩
  · have E : newOk a0 = false := by unfold newOk; simp; omega
    have A := hid (fun u => mnew_any a0 u)
    rw [show newR a0 = mp0 by unfold newR; rw [E]; rfl, show newE a0 = 4 by unfold newE; rw [E]; rfl] at A
    clear E
    go_enter Try.func8, Try.ntmps8
    go_wp2_with fail
    refine (S.out _).mono ?_
    rintro e u1 ⟨rfl, k1⟩
    have K1 := hid k1
    clear k1
    go_wp2_with fail
    refine (A.out _).mono ?_
    rintro e u2 ⟨rfl, k2⟩
    have K2 := hid (K1.out.trans k2)
    clear k2
    go_wp2
    go_ret
    exact ⟨rfl, K2.out.alloc _⟩

set_option maxRecDepth 100000 in
theorem contract (H : Type) (enc : TypeId × Value → H) (fi : Stop.Interp) (W : World) (base : Nat) (args : Array Value) (ds gs : List (DataW H)) (before : List MemPlace)
    (hval : ∀ (j : Nat) t v, Try.f8.params[j]? = some t → args[j]? = some v → Value.okWide Try.prog W .any base t v)
    (hW : DataW.Whole enc Try.prog Try.f8.params.toList (OpenSpec.ofChange Rows.mapperKeepsSpec).vars false W args.toList ds gs before)
    (hk0 : ∀ k, (OpenSpec.ofChange Rows.mapperKeepsSpec).cond = some k → k H (ds ++ gs) = true)
    (hsz0 : (DataW.weightsEach Try.prog (Try.f8.params.toList ++ (OpenSpec.ofChange Rows.mapperKeepsSpec).bare.plain.varTypes Try.prog) (ds ++ gs)).all (· ≤ reachBytes) = true) (hL : laidMetH Try.prog Rows.mapperKeepsRow.laid W) :
    Calls Try.prog 8 args W fun e W' => ∃ v, e = .returned v ∧ ((OpenSpec.ofChange Rows.mapperKeepsSpec).at fi).post enc Try.prog Try.f8 false true false false W args v W' := by
  have hW' := hW
  obtain ⟨p, q, hA0, hV, rfl, hfz, hnd⟩ := hW
  have hA : DataW.TrodAll enc Try.prog W 0 (fun _ => true) true Try.f8.params.toList args.toList ds p := hA0
  rw [Try.params8] at hA hval
  obtain ⟨v0, vs0, d0, ds0, p0, q0, hargs, rfl, rfl, h0, r0x⟩ := trodAll_cons hA
  obtain ⟨v1, vs1, d1, ds1, p1, q1, rfl, rfl, rfl, h1, r1x⟩ := trodAll_cons r0x
  obtain ⟨rfl, rfl, rfl⟩ := trodAll_nil r1x
  obtain rfl : args = #[v0, v1] := by cases args; simp_all
  obtain ⟨rfl, rfl⟩ := trodVars_none hV
  have hsz : (DataW.weightsEach Try.prog [3, 38] [d0, d1]).all (· ≤ reachBytes) = true := by
    have q := hsz0
    rw [show Try.f8.params.toList ++ (OpenSpec.ofChange Rows.mapperKeepsSpec).bare.plain.varTypes Try.prog = [3, 38] by kernel_rfl] at q
    simpa using q
  obtain ⟨a0, rfl, rfl, rfl, w0⟩ := open_int Try.underlying3 (hval 0 3 v0 rfl rfl) h0
  have k1 := h1
  have lt1 : ∀ x ∈ p1, x.block < W.heap.size := by obtain ⟨m, hm⟩ := k1; exact DataW.trod_lt m _ _ _ hm
  obtain ⟨a1, len1, cap1, rfl⟩ := okWide_slice Try.underlying38 (hval 1 38 v1 rfl rfl)
  obtain ⟨fuel1, hf1⟩ := h1
  obtain ⟨a1x, cap1x, els1, ev1, r1, fe1, l1, m1, n1, b1x⟩ := open_flats (n := 8) (c := 2) (L := [(0, .int .u16), (1, .int .u8)]) Try.underlying38 (by kernel_rfl) (by kernel_rfl) (by decide) hf1
  cases ev1
  have b1 := b1x (sized_part8 hsz (j := 1) (t := 38) rfl rfl)
  obtain ⟨s1, rfl, q1⟩ := list_choose (f := el40) (p := fun x => (Lit.int .u16 x.1).wf = true ∧ (Lit.int .u8 x.2).wf = true) els1 (fun cs hcs => by
    obtain ⟨y0, y1, hx, g0, g1⟩ := fits40 (fe1 cs hcs).1 (fe1 cs hcs).2
    exact ⟨(y0, y1), hx, g0, g1⟩)
  rw [List.length_map] at l1 b1
  simp only [List.length_map] at *
  clear hA0
  refine (walk a0 a1 cap1 s1 W w0 r1 q1 l1 m1 n1 b1).mono fun e W' ⟨he, hg⟩ => ?_
  subst he
  exact ⟨_, rfl, _, _, _, [], _, [], hW', trodAll_mk1 (shut_bool Try.underlying4 _), (trodAll_cons_mk (shut_int Try.underlying3 w0) (trodAll_cons_mk (Kept.trod laidOut (by kernel_rfl) (of_decide_eq_true (by kernel_rfl)) k1 hg lt1) trodAll_mk0)), rfl, hg.frame _, fun h => by cases h⟩
theorem start_met (os : Os) (args : Array Value) : laidMetH Try.prog Rows.mapperKeepsRow.laid ((World.laidAll Try.prog os Rows.mapperKeepsRow.laid).forCall (fun _ _ => 0) ⟨#[], args, []⟩).memory := by
  exact ⟨[], rfl, List.nodup_nil, fun _ _ h => by cases h⟩
theorem reads (os : Os) {H : Type} (enc : TypeId × Value → H) : ∃ places, DataW.whole enc Try.prog ((World.laidAll Try.prog os Rows.mapperKeepsRow.laid).forCall (fun _ _ => 0) ⟨#[], #[.int .i64 0, .slice none 0 0], []⟩).memory Try.f8.params.toList (OpenSpec.ofChange Rows.mapperKeepsSpec).vars false #[.int .i64 0, .slice none 0 0].toList 8 = some ([.lit (.int .i64 0), .nil], [], places) :=
  ⟨[], by kernel_rfl⟩
set_option maxRecDepth 100000 in
theorem lifted (os : Os) (started : os.Started) (H : Type) (enc : TypeId × Value → H) (fi : Stop.Interp) :
    ReturnsInHanded {} Try.checked os 8 .any ((OpenSpec.ofChange Rows.mapperKeepsSpec).preRow enc Try.prog Try.f8 Rows.mapperKeepsRow.domain false Rows.mapperKeepsRow.laid) (((OpenSpec.ofChange Rows.mapperKeepsSpec).at fi).post enc Try.prog Try.f8 false true false false) := by
  obtain ⟨places, hx⟩ := reads os enc
  refine returnsInHanded_of_row (C := Try.checked) (s := (OpenSpec.ofChange Rows.mapperKeepsSpec)) own started (by kernel_rfl) Try.func8
    (witness_row_atRef (enc := enc) (C := Try.checked) false (World.laidAll Try.prog os Rows.mapperKeepsRow.laid) #[.int .i64 0, .slice none 0 0] (World.laidAll_os _ _ _) (by kernel_rfl) (by kernel_rfl) (by kernel_rfl)
      (OpenSpec.preRow_of_cond 8 hx (by kernel_rfl) (fun k hk => by cases hk) (by kernel_rfl) (start_met os _))) ?_
  intro W base args ds gs before hval hW _ hk hsz hL _ _
  exact contract H enc fi W base args ds gs before hval hW hk hsz hL
theorem said : Rows.MapperKeepsSaid :=
  OpenClaim.holds_of_cond 8 Try.f8 rfl rfl rfl rfl rfl rfl rfl ⟨rfl, rfl, rfl, rfl, rfl⟩ rfl rfl rfl rfl rfl (by kernel_rfl) Try.func8 (by kernel_rfl)
    (of_decide_eq_true (by kernel_rfl)) (by unfold Func.isWrapper; first | (rw [if_pos (by decide +kernel)]; kernel_rfl) | (rw [if_neg (by decide +kernel)]; exact ⟨rfl, rfl⟩))
    (fun os started H enc _ fi => by rw [OpenClaim.pre_eq_preRow]; exact lifted os started H enc fi)
end Go.Proofs.Ytoehmmieceobeaa.mapperKeeps
namespace Go.Proofs.Ytoehmmieceobeaa
theorem mapperKeeps_holds : Rows.MapperKeepsSaid := mapperKeeps.said
end Go.Proofs.Ytoehmmieceobeaa
