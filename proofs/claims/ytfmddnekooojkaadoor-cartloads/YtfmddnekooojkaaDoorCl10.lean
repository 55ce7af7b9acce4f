/- CartLoads, as a walk. -/
import Derived.Test.YtfmddnekooojkaaDoorG40
import Derived.Deep.RegionHeld
namespace Go.Proofs.YtfmddnekooojkaaDoor
open Go.RowKit
set_option linter.unusedVariables false
set_option linter.unusedSimpArgs false

set_option maxRecDepth 100000 in
set_option maxHeartbeats 8000000 in
theorem loads_any (a0 : Option Addr) (cap0 : Nat) (z0 : List Int) (a1 : Option Addr) (cap1 : Nat) (s1 : List Ac) (a2 : Option Addr) (cap2 : Nat) (z2 : List Int) (w : World) (lay : Lay7 w) (r0 : Row w a0 z0) (l0 : z0.length ≤ cap0) (m0 : cap0 ≤ maxLen) (n0 : a0 = none → cap0 = 0) (r1 : FRow w a1 4 (s1.map elA)) (q1 : ∀ x ∈ s1, AcIn w x) (l1 : s1.length ≤ cap1) (m1 : cap1 ≤ maxLen) (sb : Sl w a2 cap2 z2) :
    Calls Tryd.prog 5 #[.slice a0 z0.length cap0, .slice a1 s1.length cap1, .slice a2 z2.length cap2] w fun e w' => e = .returned (.bool true) ∧ Kept w w' := by
  have S := hid (kshown_any w lay)
  have SB : Sl w a0 cap0 z0 := ⟨r0, l0, m0, n0⟩
  have CN := hid (fun u (g : Kept w u) => knew_any z0 a0 cap0 u (lay.kept g) (sl_kept g SB))
  have NI := hid (new_is z0)
  have CD := hid (fun s v F u (h : CartAt u s v F) (g : Kept w u) (lf : ∀ k, F k → w.heap.size ≤ k) => kdoes_any s v F a1 cap1 s1 w u h g lf r1 q1 l1 m1)
  have ZB := hid sb
  clear r0 r1 q1 sb lay
  generalize newC z0 = S0 at *
  generalize parseE z0 = P at *
  go_enter Tryd.func5, Tryd.ntmps5
  go_wp2_with fail
  refine S.out.mono ?_
  rintro e u1 ⟨rfl, k1⟩
  have K1 := hid k1
  clear k1
  go_wp2_with fail
  refine (CN.out _ K1.out).mono ?_
  rintro e u2 ⟨v, F2, rfl, hv, hc, hF, k2⟩
  have K2 := hid (K1.out.trans k2)
  have C2 := hid hc
  have L2 : ∀ k, F2 k → w.heap.size ≤ k := fun k q => Nat.le_trans K1.out.size (hF k q)
  clear k2 hc hF
  rcases hv with ⟨hP, rfl⟩ | ⟨hP, p, rfl⟩
  · have dP : (P != 0) = true := by simpa using hP
    go_wp2
    go_ret
    exact ⟨rfl, K2.out⟩
  subst hP
  have IS := NI.out rfl
  go_wp2_with fail
  refine (CD.out _ _ _ _ C2.out K2.out L2).mono ?_
  rintro e u4 ⟨rfl, F4, hc, kx, hG⟩
  have L4 : ∀ k, F4 k → w.heap.size ≤ k := fun k q => by
    rcases hG k q with q | q
    · exact L2 k q
    · exact Nat.le_trans K2.out.size q
  have C4 := hid hc
  have K4 := hid (kx.kept K2.out L2)
  clear hc kx hG
  have DI : (doesS s1 S0).is = true := (doesN_is _ _ _).trans IS
  generalize doesS s1 S0 = D at *
  go_wp2_with fail
  refine (kram_any _ _ _ _ C4.out).mono ?_
  rintro e u5 ⟨r5, rfl, o5, k5⟩
  have O5 := hid o5
  have K5 := hid (K4.out.trans k5)
  have C5 := hid (cart_kept C4.out k5)
  clear k5 o5
  go_wp2_with fail
  refine (kstate_any _ _ _ _ C5.out).mono ?_
  rintro e u6 ⟨rfl, k6⟩
  have K6 := hid (K5.out.trans k6)
  have C6 := hid (cart_kept C5.out k6)
  have O6 := hid (owns_kept k6 O5.out)
  have M1 : Blk (((u6.alloc (.cells ([.int .i64 D.m.kind, .bool D.m.op, .int .u8 D.m.low, .int .u8 D.m.high, .int .u8 D.m.ram, .bool D.m.mode] : List Value).toArray 32)).alloc (.cells ([.int .u8 D.live.sec, .int .u8 D.live.min, .int .u8 D.live.hour, .int .u16 D.live.day, .bool D.live.halt, .bool D.live.carry] : List Value).toArray 34)).alloc (.cells ([.int .u8 D.held.sec, .int .u8 D.held.min, .int .u8 D.held.hour, .int .u16 D.held.day, .bool D.held.halt, .bool D.held.carry] : List Value).toArray 34)) u6.heap.size 32 [.int .i64 D.m.kind, .bool D.m.op, .int .u8 D.m.low, .int .u8 D.m.high, .int .u8 D.m.ram, .bool D.m.mode] := blk_past (blk_past (blk_new u6 _ _) _) _
  have V1 : Blk (((u6.alloc (.cells ([.int .i64 D.m.kind, .bool D.m.op, .int .u8 D.m.low, .int .u8 D.m.high, .int .u8 D.m.ram, .bool D.m.mode] : List Value).toArray 32)).alloc (.cells ([.int .u8 D.live.sec, .int .u8 D.live.min, .int .u8 D.live.hour, .int .u16 D.live.day, .bool D.live.halt, .bool D.live.carry] : List Value).toArray 34)).alloc (.cells ([.int .u8 D.held.sec, .int .u8 D.held.min, .int .u8 D.held.hour, .int .u16 D.held.day, .bool D.held.halt, .bool D.held.carry] : List Value).toArray 34)) (u6.heap.size + 1) 34 [.int .u8 D.live.sec, .int .u8 D.live.min, .int .u8 D.live.hour, .int .u16 D.live.day, .bool D.live.halt, .bool D.live.carry] := blk_past (by have h := blk_new (u6.alloc (.cells ([.int .i64 D.m.kind, .bool D.m.op, .int .u8 D.m.low, .int .u8 D.m.high, .int .u8 D.m.ram, .bool D.m.mode] : List Value).toArray 32)) [.int .u8 D.live.sec, .int .u8 D.live.min, .int .u8 D.live.hour, .int .u16 D.live.day, .bool D.live.halt, .bool D.live.carry] 34; rw [World.size_alloc] at h; exact h) _
  have H1 : Blk (((u6.alloc (.cells ([.int .i64 D.m.kind, .bool D.m.op, .int .u8 D.m.low, .int .u8 D.m.high, .int .u8 D.m.ram, .bool D.m.mode] : List Value).toArray 32)).alloc (.cells ([.int .u8 D.live.sec, .int .u8 D.live.min, .int .u8 D.live.hour, .int .u16 D.live.day, .bool D.live.halt, .bool D.live.carry] : List Value).toArray 34)).alloc (.cells ([.int .u8 D.held.sec, .int .u8 D.held.min, .int .u8 D.held.hour, .int .u16 D.held.day, .bool D.held.halt, .bool D.held.carry] : List Value).toArray 34)) (u6.heap.size + 1 + 1) 34 [.int .u8 D.held.sec, .int .u8 D.held.min, .int .u8 D.held.hour, .int .u16 D.held.day, .bool D.held.halt, .bool D.held.carry] := by have h := blk_new ((u6.alloc (.cells ([.int .i64 D.m.kind, .bool D.m.op, .int .u8 D.m.low, .int .u8 D.m.high, .int .u8 D.m.ram, .bool D.m.mode] : List Value).toArray 32)).alloc (.cells ([.int .u8 D.live.sec, .int .u8 D.live.min, .int .u8 D.live.hour, .int .u16 D.live.day, .bool D.live.halt, .bool D.live.carry] : List Value).toArray 34)) [.int .u8 D.held.sec, .int .u8 D.held.min, .int .u8 D.held.hour, .int .u16 D.held.day, .bool D.held.halt, .bool D.held.carry] 34; rw [World.size_alloc, World.size_alloc] at h; exact h
  have KA1 := hid (((Kept.refl u6).alloc (.cells ([.int .i64 D.m.kind, .bool D.m.op, .int .u8 D.m.low, .int .u8 D.m.high, .int .u8 D.m.ram, .bool D.m.mode] : List Value).toArray 32)).alloc (.cells ([.int .u8 D.live.sec, .int .u8 D.live.min, .int .u8 D.live.hour, .int .u16 D.live.day, .bool D.live.halt, .bool D.live.carry] : List Value).toArray 34) |>.alloc (.cells ([.int .u8 D.held.sec, .int .u8 D.held.min, .int .u8 D.held.hour, .int .u16 D.held.day, .bool D.held.halt, .bool D.held.carry] : List Value).toArray 34))
  clear k6
  go_wp2_with fail
  refine (ksave_any _ _ _ _ (cart_kept C6.out KA1.out)).mono ?_
  rintro e u7 ⟨r7, rfl, o7, k7⟩
  obtain ⟨a7, c7, rfl, _, _⟩ := own_sl o7 (save_in D (cart_ok C6.out))
  have K7 := hid ((K6.out.trans KA1.out).trans k7)
  have C7 := hid (cart_kept (cart_kept C6.out KA1.out) k7)
  have M7 := hid (blk_kept k7 M1)
  have V7 := hid (blk_kept k7 V1)
  have H7 := hid (blk_kept k7 H1)
  have O7 := hid (owns_kept k7 (owns_kept KA1.out O6.out))
  have lt6 := cart_lt C6.out
  have lt5 := cart_lt C4.out
  clear k7 o7 M1 V1 H1
  go_wp2_with fail
  refine (kload_any _ _ _ z2 a2 cap2 _ C7.out (sl_kept K7.out ZB.out) (off_of ZB.out.row L4)).mono ?_
  rintro e u8 ⟨rfl, F8, hc, kx, hG⟩
  have C8 := hid hc
  have K8 := hid (kx.kept K7.out L4)
  have M8 := hid (blkX kx M7.out (fun q => by have := lt6 _ q; omega))
  have V8 := hid (blkX kx V7.out (fun q => by have := lt6 _ q; omega))
  have H8 := hid (blkX kx H7.out (fun q => by have := lt6 _ q; omega))
  have O8 := hid (show u8.ownsRow u4.heap.size 5 1 r5 D.ram.length (D.ram.map (Value.int .u8)) from ownsX kx O7.out (fun g hg q => by have := (O5.out.lt g hg).1; have := lt5 _ q; omega))
  clear hc kx hG lt6 lt5
  have LH := load_h D z2
  have HZ := hid ZB.out.row.2.1
  have FE := hid (fun h => load_save D z2 HZ.out h)
  have Fsm := hid (fun h => load_same D z2 h)
  have FP := hid (fun h => load_parts D z2 h)
  have F7 := hid (load_7 D z2 DI)
  have F5 := hid (fun h => load_5 D z2 DI h)
  generalize loadE D z2 = EE at *
  go_wp2_with fail
  refine (kstate_any _ _ _ _ C8.out).mono ?_
  rintro e u9 ⟨rfl, k9⟩
  have K9 := hid (K8.out.trans k9)
  have C9 := hid (cart_kept C8.out k9)
  have M9 := hid (blk_kept k9 M8.out)
  have V9 := hid (blk_kept k9 V8.out)
  have H9 := hid (blk_kept k9 H8.out)
  have O9 := hid (owns_kept k9 O8.out)
  clear k9
  by_cases hE : EE = 0
  · have SE := FE.out hE
    obtain ⟨_, HB, HL, _⟩ := FP.out hE
    obtain ⟨LH1, LH2⟩ := LH
    generalize loadS D z2 = E at *
    have dl : ((z2.length : Int) == ((saveS D).length : Int)) = true := by simp [HL]
    have HLh := hid HL
    have LHh := hid LH2
    subst hE
    clear HL LH2
    have M2 : Blk (((u9.alloc (.cells ([.int .i64 E.m.kind, .bool E.m.op, .int .u8 E.m.low, .int .u8 E.m.high, .int .u8 E.m.ram, .bool E.m.mode] : List Value).toArray 32)).alloc (.cells ([.int .u8 E.live.sec, .int .u8 E.live.min, .int .u8 E.live.hour, .int .u16 E.live.day, .bool E.live.halt, .bool E.live.carry] : List Value).toArray 34)).alloc (.cells ([.int .u8 E.held.sec, .int .u8 E.held.min, .int .u8 E.held.hour, .int .u16 E.held.day, .bool E.held.halt, .bool E.held.carry] : List Value).toArray 34)) u9.heap.size 32 [.int .i64 E.m.kind, .bool E.m.op, .int .u8 E.m.low, .int .u8 E.m.high, .int .u8 E.m.ram, .bool E.m.mode] := blk_past (blk_past (blk_new u9 _ _) _) _
    have V2 : Blk (((u9.alloc (.cells ([.int .i64 E.m.kind, .bool E.m.op, .int .u8 E.m.low, .int .u8 E.m.high, .int .u8 E.m.ram, .bool E.m.mode] : List Value).toArray 32)).alloc (.cells ([.int .u8 E.live.sec, .int .u8 E.live.min, .int .u8 E.live.hour, .int .u16 E.live.day, .bool E.live.halt, .bool E.live.carry] : List Value).toArray 34)).alloc (.cells ([.int .u8 E.held.sec, .int .u8 E.held.min, .int .u8 E.held.hour, .int .u16 E.held.day, .bool E.held.halt, .bool E.held.carry] : List Value).toArray 34)) (u9.heap.size + 1) 34 [.int .u8 E.live.sec, .int .u8 E.live.min, .int .u8 E.live.hour, .int .u16 E.live.day, .bool E.live.halt, .bool E.live.carry] := blk_past (by have h := blk_new (u9.alloc (.cells ([.int .i64 E.m.kind, .bool E.m.op, .int .u8 E.m.low, .int .u8 E.m.high, .int .u8 E.m.ram, .bool E.m.mode] : List Value).toArray 32)) [.int .u8 E.live.sec, .int .u8 E.live.min, .int .u8 E.live.hour, .int .u16 E.live.day, .bool E.live.halt, .bool E.live.carry] 34; rw [World.size_alloc] at h; exact h) _
    have H2 : Blk (((u9.alloc (.cells ([.int .i64 E.m.kind, .bool E.m.op, .int .u8 E.m.low, .int .u8 E.m.high, .int .u8 E.m.ram, .bool E.m.mode] : List Value).toArray 32)).alloc (.cells ([.int .u8 E.live.sec, .int .u8 E.live.min, .int .u8 E.live.hour, .int .u16 E.live.day, .bool E.live.halt, .bool E.live.carry] : List Value).toArray 34)).alloc (.cells ([.int .u8 E.held.sec, .int .u8 E.held.min, .int .u8 E.held.hour, .int .u16 E.held.day, .bool E.held.halt, .bool E.held.carry] : List Value).toArray 34)) (u9.heap.size + 1 + 1) 34 [.int .u8 E.held.sec, .int .u8 E.held.min, .int .u8 E.held.hour, .int .u16 E.held.day, .bool E.held.halt, .bool E.held.carry] := by have h := blk_new ((u9.alloc (.cells ([.int .i64 E.m.kind, .bool E.m.op, .int .u8 E.m.low, .int .u8 E.m.high, .int .u8 E.m.ram, .bool E.m.mode] : List Value).toArray 32)).alloc (.cells ([.int .u8 E.live.sec, .int .u8 E.live.min, .int .u8 E.live.hour, .int .u16 E.live.day, .bool E.live.halt, .bool E.live.carry] : List Value).toArray 34)) [.int .u8 E.held.sec, .int .u8 E.held.min, .int .u8 E.held.hour, .int .u16 E.held.day, .bool E.held.halt, .bool E.held.carry] 34; rw [World.size_alloc, World.size_alloc] at h; exact h
    have KA2 := hid (((Kept.refl u9).alloc (.cells ([.int .i64 E.m.kind, .bool E.m.op, .int .u8 E.m.low, .int .u8 E.m.high, .int .u8 E.m.ram, .bool E.m.mode] : List Value).toArray 32)).alloc (.cells ([.int .u8 E.live.sec, .int .u8 E.live.min, .int .u8 E.live.hour, .int .u16 E.live.day, .bool E.live.halt, .bool E.live.carry] : List Value).toArray 34) |>.alloc (.cells ([.int .u8 E.held.sec, .int .u8 E.held.min, .int .u8 E.held.hour, .int .u16 E.held.day, .bool E.held.halt, .bool E.held.carry] : List Value).toArray 34))
    have KU := hid (K9.out.trans KA2.out)
    have CU := hid (cart_kept C9.out KA2.out)
    have M1 : Blk (((u9.alloc (.cells ([.int .i64 E.m.kind, .bool E.m.op, .int .u8 E.m.low, .int .u8 E.m.high, .int .u8 E.m.ram, .bool E.m.mode] : List Value).toArray 32)).alloc (.cells ([.int .u8 E.live.sec, .int .u8 E.live.min, .int .u8 E.live.hour, .int .u16 E.live.day, .bool E.live.halt, .bool E.live.carry] : List Value).toArray 34)).alloc (.cells ([.int .u8 E.held.sec, .int .u8 E.held.min, .int .u8 E.held.hour, .int .u16 E.held.day, .bool E.held.halt, .bool E.held.carry] : List Value).toArray 34)) u6.heap.size 32 [.int .i64 D.m.kind, .bool D.m.op, .int .u8 D.m.low, .int .u8 D.m.high, .int .u8 D.m.ram, .bool D.m.mode] := blk_kept KA2.out M9.out
    have V1 : Blk (((u9.alloc (.cells ([.int .i64 E.m.kind, .bool E.m.op, .int .u8 E.m.low, .int .u8 E.m.high, .int .u8 E.m.ram, .bool E.m.mode] : List Value).toArray 32)).alloc (.cells ([.int .u8 E.live.sec, .int .u8 E.live.min, .int .u8 E.live.hour, .int .u16 E.live.day, .bool E.live.halt, .bool E.live.carry] : List Value).toArray 34)).alloc (.cells ([.int .u8 E.held.sec, .int .u8 E.held.min, .int .u8 E.held.hour, .int .u16 E.held.day, .bool E.held.halt, .bool E.held.carry] : List Value).toArray 34)) (u6.heap.size + 1) 34 [.int .u8 D.live.sec, .int .u8 D.live.min, .int .u8 D.live.hour, .int .u16 D.live.day, .bool D.live.halt, .bool D.live.carry] := blk_kept KA2.out V9.out
    have H1 : Blk (((u9.alloc (.cells ([.int .i64 E.m.kind, .bool E.m.op, .int .u8 E.m.low, .int .u8 E.m.high, .int .u8 E.m.ram, .bool E.m.mode] : List Value).toArray 32)).alloc (.cells ([.int .u8 E.live.sec, .int .u8 E.live.min, .int .u8 E.live.hour, .int .u16 E.live.day, .bool E.live.halt, .bool E.live.carry] : List Value).toArray 34)).alloc (.cells ([.int .u8 E.held.sec, .int .u8 E.held.min, .int .u8 E.held.hour, .int .u16 E.held.day, .bool E.held.halt, .bool E.held.carry] : List Value).toArray 34)) (u6.heap.size + 1 + 1) 34 [.int .u8 D.held.sec, .int .u8 D.held.min, .int .u8 D.held.hour, .int .u16 D.held.day, .bool D.held.halt, .bool D.held.carry] := blk_kept KA2.out H9.out
    have OU := hid (owns_kept KA2.out O9.out)
    clear KA2 M9 V9 H9 O9 C9
    go_wp2_with fail
    obtain ⟨UU, hU⟩ : ∃ W, (((u9.alloc (.cells ([.int .i64 E.m.kind, .bool E.m.op, .int .u8 E.m.low, .int .u8 E.m.high, .int .u8 E.m.ram, .bool E.m.mode] : List Value).toArray 32)).alloc (.cells ([.int .u8 E.live.sec, .int .u8 E.live.min, .int .u8 E.live.hour, .int .u16 E.live.day, .bool E.live.halt, .bool E.live.carry] : List Value).toArray 34)).alloc (.cells ([.int .u8 E.held.sec, .int .u8 E.held.min, .int .u8 E.held.hour, .int .u16 E.held.day, .bool E.held.halt, .bool E.held.carry] : List Value).toArray 34)) = W := ⟨_, rfl⟩
    rw [hU] at M1 M2 V1 V2 H1 H2 KU CU OU
    rw [show (((u9.alloc (.cells #[.int .i64 E.m.kind, .bool E.m.op, .int .u8 E.m.low, .int .u8 E.m.high, .int .u8 E.m.ram, .bool E.m.mode] 32)).alloc (.cells #[.int .u8 E.live.sec, .int .u8 E.live.min, .int .u8 E.live.hour, .int .u16 E.live.day, .bool E.live.halt, .bool E.live.carry] 34)).alloc (.cells #[.int .u8 E.held.sec, .int .u8 E.held.min, .int .u8 E.held.hour, .int .u16 E.held.day, .bool E.held.halt, .bool E.held.carry] 34)) = UU from hU]
    clear hU
    have CV := hid (fun u (g : Kept UU u) => conv_sl (sl_kept (KU.out.trans g) ZB.out))
    have CQ := hid (fun u (g : Kept UU u) => conv_own10 (owns_kept g OU.out))
    have cb0 := CV.out _ (Kept.refl UU).drew
    have cr0 := CQ.out _ (Kept.refl UU).drew
    have CHd := hid (fun u (g : Kept UU u) => khead_any E _ _ u (cart_kept CU.out g))
    simp only [hdVc] at CHd
    have FB := head_bat
    have GM1 := hid M1
    have rM1 := blk_cell M1
    have GM2 := hid M2
    have rM2 := blk_cell M2
    have GV1 := hid V1
    have rV1 := blk_cell V1
    have GV2 := hid V2
    have rV2 := blk_cell V2
    have GH1 := hid H1
    have rH1 := blk_cell H1
    have GH2 := hid H2
    have rH2 := blk_cell H2
    clear M1 M2 V1 V2 H1 H2
    have CSv := hid (fun u (g : Kept UU u) => ksave_any E _ _ u (cart_kept CU.out g))
    rw [SE] at CSv
    have LB : E.h.bat = true := by rw [LH1]; exact HB
    clear LH1 SE cr0
    have LH2 := LHh.out
    refine wp_region_held_drew (S := (fun w' => w'.cell? ⟨u6.heap.size, 0, none⟩ = some (.int .i64 D.m.kind) ∧ w'.cell? ⟨u6.heap.size, 1, none⟩ = some (.bool D.m.op) ∧ w'.cell? ⟨u6.heap.size, 2, none⟩ = some (.int .u8 D.m.low) ∧ w'.cell? ⟨u6.heap.size, 3, none⟩ = some (.int .u8 D.m.high) ∧ w'.cell? ⟨u6.heap.size, 4, none⟩ = some (.int .u8 D.m.ram) ∧ w'.cell? ⟨u6.heap.size, 5, none⟩ = some (.bool D.m.mode) ∧ w'.cell? ⟨u9.heap.size, 0, none⟩ = some (.int .i64 E.m.kind) ∧ w'.cell? ⟨u9.heap.size, 1, none⟩ = some (.bool E.m.op) ∧ w'.cell? ⟨u9.heap.size, 2, none⟩ = some (.int .u8 E.m.low) ∧ w'.cell? ⟨u9.heap.size, 3, none⟩ = some (.int .u8 E.m.high) ∧ w'.cell? ⟨u9.heap.size, 4, none⟩ = some (.int .u8 E.m.ram) ∧ w'.cell? ⟨u9.heap.size, 5, none⟩ = some (.bool E.m.mode) ∧ (convert 22 9 (.slice a2 z2.length cap2)).run Tryd.prog w' = .ok (.string (strB z2)) w')) (by kernel_rfl) (by go_keep) (fun hHeld => ?_)
    refine wpAnyH_take (i := 0) (v := ?_) rfl (by kernel_rfl) (by kernel_rfl) (by kernel_rfl) (fun _ _ _ h => h) (Or.inl ⟨by rfl, ?_⟩) (by assumption) ?_
    rotate_left
    · intro w hSw
      (try dsimp only at hSw)
      go_simp
      try with_reducible rfl
    simp only [Act.put, List.getElem_toArray, List.getElem_cons_succ, List.getElem_cons_zero, List.setIfInBounds_toArray, List.set_cons_zero, List.set_cons_succ]
    refine wpAnyH_take (i := 1) (v := ?_) rfl (by kernel_rfl) (by kernel_rfl) (by kernel_rfl) (fun _ _ _ h => h) (Or.inl ⟨by rfl, ?_⟩) (by assumption) ?_
    rotate_left
    · intro w hSw
      (try dsimp only at hSw)
      go_simp
      try with_reducible rfl
    simp only [Act.put, List.getElem_toArray, List.getElem_cons_succ, List.getElem_cons_zero, List.setIfInBounds_toArray, List.set_cons_zero, List.set_cons_succ]
    refine wpAnyH_take (i := 2) (v := ?_) rfl (by kernel_rfl) (by kernel_rfl) (by kernel_rfl) (fun _ _ _ h => h) (Or.inl ⟨by rfl, ?_⟩) (by assumption) ?_
    rotate_left
    · intro w hSw
      (try dsimp only at hSw)
      go_simp
      try with_reducible rfl
    simp only [Act.put, List.getElem_toArray, List.getElem_cons_succ, List.getElem_cons_zero, List.setIfInBounds_toArray, List.set_cons_zero, List.set_cons_succ]
    refine wpAnyH_ready (rs := [3]) (by kernel_rfl) (by simp) ?_
    refine AllReadyH.cons rfl (fun K hK => ?_) AllReadyH.nil
    go_simp
    refine (CHd.out _ (Kept.refl _).drew).mono ?_
    rintro e v1 ⟨rfl, t1⟩
    have rM1a := blk_cell (blk_kept t1 (blk_drew GM1.out))
    have rM2a := blk_cell (blk_kept t1 (blk_drew GM2.out))
    have KZ1 := hid ((Kept.refl UU).drew.trans t1)
    have cb1 := CV.out _ KZ1.out
    refine hK.out _ _ (by go_keep) (fun hHeld => ?_)
    clear hK K
    try simp only [Act.put, List.getElem_toArray, List.getElem_cons_succ, List.getElem_cons_zero, List.setIfInBounds_toArray, List.set_cons_zero, List.set_cons_succ]
    refine wpAnyH_take (i := 4) (v := ?_) rfl (by kernel_rfl) (by kernel_rfl) (by kernel_rfl) (fun _ _ _ h => h) (Or.inl ⟨by rfl, ?_⟩) (by assumption) ?_
    rotate_left
    · intro w hSw
      (try dsimp only at hSw)
      go_simp
      try with_reducible rfl
    simp only [Act.put, List.getElem_toArray, List.getElem_cons_succ, List.getElem_cons_zero, List.setIfInBounds_toArray, List.set_cons_zero, List.set_cons_succ]
    refine wpAnyH_take (i := 5) (v := ?_) rfl (by kernel_rfl) (by kernel_rfl) (by kernel_rfl) (fun _ _ _ h => h) (Or.inl ⟨by rfl, ?_⟩) (by assumption) ?_
    rotate_left
    · intro w hSw
      (try dsimp only at hSw)
      go_simp
      try with_reducible rfl
    simp only [Act.put, List.getElem_toArray, List.getElem_cons_succ, List.getElem_cons_zero, List.setIfInBounds_toArray, List.set_cons_zero, List.set_cons_succ]
    refine wpAnyH_take (i := 6) (v := ?_) rfl (by kernel_rfl) (by kernel_rfl) (by kernel_rfl) (fun _ _ _ h => h) (Or.inl ⟨by rfl, ?_⟩) (by assumption) ?_
    rotate_left
    · intro w hSw
      (try dsimp only at hSw)
      go_simp
      try with_reducible rfl
    simp only [Act.put, List.getElem_toArray, List.getElem_cons_succ, List.getElem_cons_zero, List.setIfInBounds_toArray, List.set_cons_zero, List.set_cons_succ]
    refine wpAnyH_take (i := 7) (v := ?_) rfl (by kernel_rfl) (by kernel_rfl) (by kernel_rfl) (fun _ _ _ h => h) (Or.inl ⟨by rfl, ?_⟩) (by assumption) ?_
    rotate_left
    · intro w hSw
      (try dsimp only at hSw)
      go_simp
      try with_reducible rfl
    simp only [Act.put, List.getElem_toArray, List.getElem_cons_succ, List.getElem_cons_zero, List.setIfInBounds_toArray, List.set_cons_zero, List.set_cons_succ]
    refine wpAnyH_take (i := 8) (v := ?_) rfl (by kernel_rfl) (by kernel_rfl) (by kernel_rfl) (fun _ _ _ h => h) (Or.inl ⟨by rfl, ?_⟩) (by assumption) ?_
    rotate_left
    · intro w hSw
      (try dsimp only at hSw)
      go_simp
      try with_reducible rfl
    simp only [Act.put, List.getElem_toArray, List.getElem_cons_succ, List.getElem_cons_zero, List.setIfInBounds_toArray, List.set_cons_zero, List.set_cons_succ]
    refine wpAnyH_take (i := 9) (v := ?_) rfl (by kernel_rfl) (by kernel_rfl) (by kernel_rfl) (fun _ _ _ h => h) (Or.inl ⟨by rfl, ?_⟩) (by assumption) ?_
    rotate_left
    · intro w hSw
      (try dsimp only at hSw)
      go_simp
      try with_reducible rfl
    simp only [Act.put, List.getElem_toArray, List.getElem_cons_succ, List.getElem_cons_zero, List.setIfInBounds_toArray, List.set_cons_zero, List.set_cons_succ]
    refine wpAnyH_take (i := 10) (v := ?_) rfl (by kernel_rfl) (by kernel_rfl) (by kernel_rfl) (fun _ _ _ h => h) (Or.inl ⟨by rfl, ?_⟩) (by assumption) ?_
    rotate_left
    · intro w hSw
      (try dsimp only at hSw)
      go_simp
      try with_reducible rfl
    simp only [Act.put, List.getElem_toArray, List.getElem_cons_succ, List.getElem_cons_zero, List.setIfInBounds_toArray, List.set_cons_zero, List.set_cons_succ]
    refine wpAnyH_take (i := 11) (v := ?_) rfl (by kernel_rfl) (by kernel_rfl) (by kernel_rfl) (fun _ _ _ h => h) (Or.inl ⟨by rfl, ?_⟩) (by assumption) ?_
    rotate_left
    · intro w hSw
      (try dsimp only at hSw)
      go_simp
      try with_reducible rfl
    simp only [Act.put, List.getElem_toArray, List.getElem_cons_succ, List.getElem_cons_zero, List.setIfInBounds_toArray, List.set_cons_zero, List.set_cons_succ]
    refine wpAnyH_take (i := 12) (v := ?_) rfl (by kernel_rfl) (by kernel_rfl) (by kernel_rfl) (fun _ _ _ h => h) (Or.inl ⟨by rfl, ?_⟩) (by assumption) ?_
    rotate_left
    · intro w hSw
      (try dsimp only at hSw)
      go_simp
      try with_reducible rfl
    simp only [Act.put, List.getElem_toArray, List.getElem_cons_succ, List.getElem_cons_zero, List.setIfInBounds_toArray, List.set_cons_zero, List.set_cons_succ]
    refine wpAnyH_take (i := 13) (v := ?_) rfl (by kernel_rfl) (by kernel_rfl) (by kernel_rfl) (fun _ _ _ h => h) (Or.inl ⟨by rfl, ?_⟩) (by assumption) ?_
    rotate_left
    · intro w hSw
      (try dsimp only at hSw)
      go_simp
      try with_reducible rfl
    simp only [Act.put, List.getElem_toArray, List.getElem_cons_succ, List.getElem_cons_zero, List.setIfInBounds_toArray, List.set_cons_zero, List.set_cons_succ]
    refine wpAnyH_take (i := 16) (v := ?_) rfl (by kernel_rfl) (by kernel_rfl) (by kernel_rfl) (fun _ _ _ h => h) (Or.inl ⟨by rfl, ?_⟩) (by assumption) ?_
    rotate_left
    · intro w hSw
      (try dsimp only at hSw)
      go_simp
      try with_reducible rfl
    simp only [Act.put, List.getElem_toArray, List.getElem_cons_succ, List.getElem_cons_zero, List.setIfInBounds_toArray, List.set_cons_zero, List.set_cons_succ]
    refine wpAnyH_take (i := 17) (v := ?_) rfl (by kernel_rfl) (by kernel_rfl) (by kernel_rfl) (fun _ _ _ h => h) (Or.inl ⟨by rfl, ?_⟩) (by assumption) ?_
    rotate_left
    · intro w hSw
      (try dsimp only at hSw)
      go_simp
      try with_reducible rfl
    simp only [Act.put, List.getElem_toArray, List.getElem_cons_succ, List.getElem_cons_zero, List.setIfInBounds_toArray, List.set_cons_zero, List.set_cons_succ]
    refine wpAnyH_ready (rs := [14]) (by kernel_rfl) (by simp) ?_
    refine AllReadyH.cons rfl (fun K hK => ?_) AllReadyH.nil
    go_simp
    refine (CSv.out _ KZ1.out).mono ?_
    rintro e v2 ⟨r2, rfl, o2, t2⟩
    have rM1b := blk_cell (blk_kept t2 (blk_kept t1 (blk_drew GM1.out)))
    have rM2b := blk_cell (blk_kept t2 (blk_kept t1 (blk_drew GM2.out)))
    have KZ2 := hid (KU.out.trans (KZ1.out.trans t2))
    have cb2 := CV.out _ (KZ1.out.trans t2)
    have c2 := conv_own10 o2
    refine hK.out _ _ (by go_keep) (fun hHeld => ?_)
    clear hK K
    try simp only [Act.put, List.getElem_toArray, List.getElem_cons_succ, List.getElem_cons_zero, List.setIfInBounds_toArray, List.set_cons_zero, List.set_cons_succ]
    refine wpAnyH_ready (rs := [15]) (by kernel_rfl) (by simp) ?_
    refine AllReadyH.cons rfl (fun K hK => ?_) AllReadyH.nil
    go_simp
    refine hK.out _ _ (by go_keep) (fun hHeld => ?_)
    clear hK K
    try simp only [Act.put, List.getElem_toArray, List.getElem_cons_succ, List.getElem_cons_zero, List.setIfInBounds_toArray, List.set_cons_zero, List.set_cons_succ]
    refine wpAnyH_take (i := 18) (v := ?_) rfl (by kernel_rfl) (by kernel_rfl) (by kernel_rfl) (fun _ _ _ h => h) (Or.inl ⟨by rfl, ?_⟩) (by assumption) ?_
    rotate_left
    · intro w hSw
      (try dsimp only at hSw)
      go_simp
      try with_reducible rfl
    simp only [Act.put, List.getElem_toArray, List.getElem_cons_succ, List.getElem_cons_zero, List.setIfInBounds_toArray, List.set_cons_zero, List.set_cons_succ]
    refine wpAnyH_take (i := 19) (v := ?_) rfl (by kernel_rfl) (by kernel_rfl) (by kernel_rfl) (fun _ _ _ h => h) (Or.inl ⟨by rfl, ?_⟩) (by assumption) ?_
    rotate_left
    · intro w hSw
      (try dsimp only at hSw)
      go_simp
      try with_reducible rfl
    simp only [Act.put, List.getElem_toArray, List.getElem_cons_succ, List.getElem_cons_zero, List.setIfInBounds_toArray, List.set_cons_zero, List.set_cons_succ]
    refine wpAnyH_take (i := 20) (v := ?_) rfl (by kernel_rfl) (by kernel_rfl) (by kernel_rfl) (fun _ _ _ h => h) (Or.inl ⟨by rfl, ?_⟩) (by assumption) ?_
    rotate_left
    · intro w hSw
      (try dsimp only at hSw)
      go_simp
      try with_reducible rfl
    simp only [Act.put, List.getElem_toArray, List.getElem_cons_succ, List.getElem_cons_zero, List.setIfInBounds_toArray, List.set_cons_zero, List.set_cons_succ]
    refine wpAnyH_take (i := 21) (v := ?_) rfl (by kernel_rfl) (by kernel_rfl) (by kernel_rfl) (fun _ _ _ h => h) (Or.inl ⟨by rfl, ?_⟩) (by assumption) ?_
    rotate_left
    · intro w hSw
      (try dsimp only at hSw)
      go_simp
      try with_reducible rfl
    simp only [Act.put, List.getElem_toArray, List.getElem_cons_succ, List.getElem_cons_zero, List.setIfInBounds_toArray, List.set_cons_zero, List.set_cons_succ]
    refine wpAnyH_take (i := 22) (v := ?_) rfl (by kernel_rfl) (by kernel_rfl) (by kernel_rfl) (fun _ _ _ h => h) (Or.inl ⟨by rfl, ?_⟩) (by assumption) ?_
    rotate_left
    · intro w hSw
      (try dsimp only at hSw)
      go_simp
      try with_reducible rfl
    simp only [Act.put, List.getElem_toArray, List.getElem_cons_succ, List.getElem_cons_zero, List.setIfInBounds_toArray, List.set_cons_zero, List.set_cons_succ]
    refine wpAnyH_take (i := 23) (v := ?_) rfl (by kernel_rfl) (by kernel_rfl) (by kernel_rfl) (fun _ _ _ h => h) (Or.inl ⟨by rfl, ?_⟩) (by assumption) ?_
    rotate_left
    · intro w hSw
      (try dsimp only at hSw)
      go_simp
      try with_reducible rfl
    simp only [Act.put, List.getElem_toArray, List.getElem_cons_succ, List.getElem_cons_zero, List.setIfInBounds_toArray, List.set_cons_zero, List.set_cons_succ]
    refine wpAnyH_take (i := 24) (v := ?_) rfl (by kernel_rfl) (by kernel_rfl) (by kernel_rfl) (fun _ _ _ h => h) (Or.inl ⟨by rfl, ?_⟩) (by assumption) ?_
    rotate_left
    · intro w hSw
      (try dsimp only at hSw)
      go_simp
      try with_reducible rfl
    simp only [Act.put, List.getElem_toArray, List.getElem_cons_succ, List.getElem_cons_zero, List.setIfInBounds_toArray, List.set_cons_zero, List.set_cons_succ]
    refine wpAnyH_take (i := 25) (v := ?_) rfl (by kernel_rfl) (by kernel_rfl) (by kernel_rfl) (fun _ _ _ h => h) (Or.inl ⟨by rfl, ?_⟩) (by assumption) ?_
    rotate_left
    · intro w hSw
      (try dsimp only at hSw)
      go_simp
      try with_reducible rfl
    simp only [Act.put, List.getElem_toArray, List.getElem_cons_succ, List.getElem_cons_zero, List.setIfInBounds_toArray, List.set_cons_zero, List.set_cons_succ]
    refine wpAnyH_done (by kernel_rfl) ?_ _
    go_wp2
    go_ret
    exact ⟨rfl, KZ2.out⟩
  · have EQ := (Fsm.out hE).symm
    generalize loadS D z2 = E at *
    subst EQ
    clear FE Fsm FP LH S CN NI CD
    have dE : (EE == 0) = false := by simpa using hE
    have kk : (D.h.bat = false ∧ EE = 7) ∨ (D.h.bat = true ∧ EE ≠ 7) := by
      cases hb : D.h.bat
      · exact .inl ⟨rfl, F7.out.2 hb⟩
      · exact .inr ⟨rfl, fun q => by have := F7.out.1 q; rw [hb] at this; cases this⟩
    rcases kk with ⟨hb, rfl⟩ | ⟨hb, h7⟩
    · clear F5
      have M2 : Blk (((u9.alloc (.cells ([.int .i64 D.m.kind, .bool D.m.op, .int .u8 D.m.low, .int .u8 D.m.high, .int .u8 D.m.ram, .bool D.m.mode] : List Value).toArray 32)).alloc (.cells ([.int .u8 D.live.sec, .int .u8 D.live.min, .int .u8 D.live.hour, .int .u16 D.live.day, .bool D.live.halt, .bool D.live.carry] : List Value).toArray 34)).alloc (.cells ([.int .u8 D.held.sec, .int .u8 D.held.min, .int .u8 D.held.hour, .int .u16 D.held.day, .bool D.held.halt, .bool D.held.carry] : List Value).toArray 34)) u9.heap.size 32 [.int .i64 D.m.kind, .bool D.m.op, .int .u8 D.m.low, .int .u8 D.m.high, .int .u8 D.m.ram, .bool D.m.mode] := blk_past (blk_past (blk_new u9 _ _) _) _
      have V2 : Blk (((u9.alloc (.cells ([.int .i64 D.m.kind, .bool D.m.op, .int .u8 D.m.low, .int .u8 D.m.high, .int .u8 D.m.ram, .bool D.m.mode] : List Value).toArray 32)).alloc (.cells ([.int .u8 D.live.sec, .int .u8 D.live.min, .int .u8 D.live.hour, .int .u16 D.live.day, .bool D.live.halt, .bool D.live.carry] : List Value).toArray 34)).alloc (.cells ([.int .u8 D.held.sec, .int .u8 D.held.min, .int .u8 D.held.hour, .int .u16 D.held.day, .bool D.held.halt, .bool D.held.carry] : List Value).toArray 34)) (u9.heap.size + 1) 34 [.int .u8 D.live.sec, .int .u8 D.live.min, .int .u8 D.live.hour, .int .u16 D.live.day, .bool D.live.halt, .bool D.live.carry] := blk_past (by have h := blk_new (u9.alloc (.cells ([.int .i64 D.m.kind, .bool D.m.op, .int .u8 D.m.low, .int .u8 D.m.high, .int .u8 D.m.ram, .bool D.m.mode] : List Value).toArray 32)) [.int .u8 D.live.sec, .int .u8 D.live.min, .int .u8 D.live.hour, .int .u16 D.live.day, .bool D.live.halt, .bool D.live.carry] 34; rw [World.size_alloc] at h; exact h) _
      have H2 : Blk (((u9.alloc (.cells ([.int .i64 D.m.kind, .bool D.m.op, .int .u8 D.m.low, .int .u8 D.m.high, .int .u8 D.m.ram, .bool D.m.mode] : List Value).toArray 32)).alloc (.cells ([.int .u8 D.live.sec, .int .u8 D.live.min, .int .u8 D.live.hour, .int .u16 D.live.day, .bool D.live.halt, .bool D.live.carry] : List Value).toArray 34)).alloc (.cells ([.int .u8 D.held.sec, .int .u8 D.held.min, .int .u8 D.held.hour, .int .u16 D.held.day, .bool D.held.halt, .bool D.held.carry] : List Value).toArray 34)) (u9.heap.size + 1 + 1) 34 [.int .u8 D.held.sec, .int .u8 D.held.min, .int .u8 D.held.hour, .int .u16 D.held.day, .bool D.held.halt, .bool D.held.carry] := by have h := blk_new ((u9.alloc (.cells ([.int .i64 D.m.kind, .bool D.m.op, .int .u8 D.m.low, .int .u8 D.m.high, .int .u8 D.m.ram, .bool D.m.mode] : List Value).toArray 32)).alloc (.cells ([.int .u8 D.live.sec, .int .u8 D.live.min, .int .u8 D.live.hour, .int .u16 D.live.day, .bool D.live.halt, .bool D.live.carry] : List Value).toArray 34)) [.int .u8 D.held.sec, .int .u8 D.held.min, .int .u8 D.held.hour, .int .u16 D.held.day, .bool D.held.halt, .bool D.held.carry] 34; rw [World.size_alloc, World.size_alloc] at h; exact h
      have KA2 := hid (((Kept.refl u9).alloc (.cells ([.int .i64 D.m.kind, .bool D.m.op, .int .u8 D.m.low, .int .u8 D.m.high, .int .u8 D.m.ram, .bool D.m.mode] : List Value).toArray 32)).alloc (.cells ([.int .u8 D.live.sec, .int .u8 D.live.min, .int .u8 D.live.hour, .int .u16 D.live.day, .bool D.live.halt, .bool D.live.carry] : List Value).toArray 34) |>.alloc (.cells ([.int .u8 D.held.sec, .int .u8 D.held.min, .int .u8 D.held.hour, .int .u16 D.held.day, .bool D.held.halt, .bool D.held.carry] : List Value).toArray 34))
      have KU := hid (K9.out.trans KA2.out)
      have CU := hid (cart_kept C9.out KA2.out)
      have M1 : Blk (((u9.alloc (.cells ([.int .i64 D.m.kind, .bool D.m.op, .int .u8 D.m.low, .int .u8 D.m.high, .int .u8 D.m.ram, .bool D.m.mode] : List Value).toArray 32)).alloc (.cells ([.int .u8 D.live.sec, .int .u8 D.live.min, .int .u8 D.live.hour, .int .u16 D.live.day, .bool D.live.halt, .bool D.live.carry] : List Value).toArray 34)).alloc (.cells ([.int .u8 D.held.sec, .int .u8 D.held.min, .int .u8 D.held.hour, .int .u16 D.held.day, .bool D.held.halt, .bool D.held.carry] : List Value).toArray 34)) u6.heap.size 32 [.int .i64 D.m.kind, .bool D.m.op, .int .u8 D.m.low, .int .u8 D.m.high, .int .u8 D.m.ram, .bool D.m.mode] := blk_kept KA2.out M9.out
      have V1 : Blk (((u9.alloc (.cells ([.int .i64 D.m.kind, .bool D.m.op, .int .u8 D.m.low, .int .u8 D.m.high, .int .u8 D.m.ram, .bool D.m.mode] : List Value).toArray 32)).alloc (.cells ([.int .u8 D.live.sec, .int .u8 D.live.min, .int .u8 D.live.hour, .int .u16 D.live.day, .bool D.live.halt, .bool D.live.carry] : List Value).toArray 34)).alloc (.cells ([.int .u8 D.held.sec, .int .u8 D.held.min, .int .u8 D.held.hour, .int .u16 D.held.day, .bool D.held.halt, .bool D.held.carry] : List Value).toArray 34)) (u6.heap.size + 1) 34 [.int .u8 D.live.sec, .int .u8 D.live.min, .int .u8 D.live.hour, .int .u16 D.live.day, .bool D.live.halt, .bool D.live.carry] := blk_kept KA2.out V9.out
      have H1 : Blk (((u9.alloc (.cells ([.int .i64 D.m.kind, .bool D.m.op, .int .u8 D.m.low, .int .u8 D.m.high, .int .u8 D.m.ram, .bool D.m.mode] : List Value).toArray 32)).alloc (.cells ([.int .u8 D.live.sec, .int .u8 D.live.min, .int .u8 D.live.hour, .int .u16 D.live.day, .bool D.live.halt, .bool D.live.carry] : List Value).toArray 34)).alloc (.cells ([.int .u8 D.held.sec, .int .u8 D.held.min, .int .u8 D.held.hour, .int .u16 D.held.day, .bool D.held.halt, .bool D.held.carry] : List Value).toArray 34)) (u6.heap.size + 1 + 1) 34 [.int .u8 D.held.sec, .int .u8 D.held.min, .int .u8 D.held.hour, .int .u16 D.held.day, .bool D.held.halt, .bool D.held.carry] := blk_kept KA2.out H9.out
      have OU := hid (owns_kept KA2.out O9.out)
      clear KA2 M9 V9 H9 O9 C9
      go_wp2_with fail
      obtain ⟨UU, hU⟩ : ∃ W, (((u9.alloc (.cells ([.int .i64 D.m.kind, .bool D.m.op, .int .u8 D.m.low, .int .u8 D.m.high, .int .u8 D.m.ram, .bool D.m.mode] : List Value).toArray 32)).alloc (.cells ([.int .u8 D.live.sec, .int .u8 D.live.min, .int .u8 D.live.hour, .int .u16 D.live.day, .bool D.live.halt, .bool D.live.carry] : List Value).toArray 34)).alloc (.cells ([.int .u8 D.held.sec, .int .u8 D.held.min, .int .u8 D.held.hour, .int .u16 D.held.day, .bool D.held.halt, .bool D.held.carry] : List Value).toArray 34)) = W := ⟨_, rfl⟩
      rw [hU] at M1 M2 V1 V2 H1 H2 KU CU OU
      rw [show (((u9.alloc (.cells #[.int .i64 D.m.kind, .bool D.m.op, .int .u8 D.m.low, .int .u8 D.m.high, .int .u8 D.m.ram, .bool D.m.mode] 32)).alloc (.cells #[.int .u8 D.live.sec, .int .u8 D.live.min, .int .u8 D.live.hour, .int .u16 D.live.day, .bool D.live.halt, .bool D.live.carry] 34)).alloc (.cells #[.int .u8 D.held.sec, .int .u8 D.held.min, .int .u8 D.held.hour, .int .u16 D.held.day, .bool D.held.halt, .bool D.held.carry] 34)) = UU from hU]
      clear hU
      have CV := hid (fun u (g : Kept UU u) => conv_sl (sl_kept (KU.out.trans g) ZB.out))
      have CQ := hid (fun u (g : Kept UU u) => conv_own10 (owns_kept g OU.out))
      have cb0 := CV.out _ (Kept.refl UU).drew
      have cr0 := CQ.out _ (Kept.refl UU).drew
      have CHd := hid (fun u (g : Kept UU u) => khead_any D _ _ u (cart_kept CU.out g))
      simp only [hdVc] at CHd
      have FB := head_bat
      have GM1 := hid M1
      have rM1 := blk_cell M1
      have GM2 := hid M2
      have rM2 := blk_cell M2
      have GV1 := hid V1
      have rV1 := blk_cell V1
      have GV2 := hid V2
      have rV2 := blk_cell V2
      have GH1 := hid H1
      have rH1 := blk_cell H1
      have GH2 := hid H2
      have rH2 := blk_cell H2
      clear M1 M2 V1 V2 H1 H2
      have CRm := hid (fun u (g : Kept UU u) => kram_any D _ _ u (cart_kept CU.out g))
      clear cb0
      refine wp_region_held_drew (S := (fun w' => w'.cell? ⟨u6.heap.size, 0, none⟩ = some (.int .i64 D.m.kind) ∧ w'.cell? ⟨u6.heap.size, 1, none⟩ = some (.bool D.m.op) ∧ w'.cell? ⟨u6.heap.size, 2, none⟩ = some (.int .u8 D.m.low) ∧ w'.cell? ⟨u6.heap.size, 3, none⟩ = some (.int .u8 D.m.high) ∧ w'.cell? ⟨u6.heap.size, 4, none⟩ = some (.int .u8 D.m.ram) ∧ w'.cell? ⟨u6.heap.size, 5, none⟩ = some (.bool D.m.mode) ∧ w'.cell? ⟨u9.heap.size, 0, none⟩ = some (.int .i64 D.m.kind) ∧ w'.cell? ⟨u9.heap.size, 1, none⟩ = some (.bool D.m.op) ∧ w'.cell? ⟨u9.heap.size, 2, none⟩ = some (.int .u8 D.m.low) ∧ w'.cell? ⟨u9.heap.size, 3, none⟩ = some (.int .u8 D.m.high) ∧ w'.cell? ⟨u9.heap.size, 4, none⟩ = some (.int .u8 D.m.ram) ∧ w'.cell? ⟨u9.heap.size, 5, none⟩ = some (.bool D.m.mode) ∧ w'.cell? ⟨u6.heap.size + 1, 0, none⟩ = some (.int .u8 D.live.sec) ∧ w'.cell? ⟨u6.heap.size + 1, 1, none⟩ = some (.int .u8 D.live.min) ∧ w'.cell? ⟨u6.heap.size + 1, 2, none⟩ = some (.int .u8 D.live.hour) ∧ w'.cell? ⟨u6.heap.size + 1, 3, none⟩ = some (.int .u16 D.live.day) ∧ w'.cell? ⟨u6.heap.size + 1, 4, none⟩ = some (.bool D.live.halt) ∧ w'.cell? ⟨u6.heap.size + 1, 5, none⟩ = some (.bool D.live.carry) ∧ w'.cell? ⟨u9.heap.size + 1, 0, none⟩ = some (.int .u8 D.live.sec) ∧ w'.cell? ⟨u9.heap.size + 1, 1, none⟩ = some (.int .u8 D.live.min) ∧ w'.cell? ⟨u9.heap.size + 1, 2, none⟩ = some (.int .u8 D.live.hour) ∧ w'.cell? ⟨u9.heap.size + 1, 3, none⟩ = some (.int .u16 D.live.day) ∧ w'.cell? ⟨u9.heap.size + 1, 4, none⟩ = some (.bool D.live.halt) ∧ w'.cell? ⟨u9.heap.size + 1, 5, none⟩ = some (.bool D.live.carry) ∧ w'.cell? ⟨u6.heap.size + 1 + 1, 0, none⟩ = some (.int .u8 D.held.sec) ∧ w'.cell? ⟨u6.heap.size + 1 + 1, 1, none⟩ = some (.int .u8 D.held.min) ∧ w'.cell? ⟨u6.heap.size + 1 + 1, 2, none⟩ = some (.int .u8 D.held.hour) ∧ w'.cell? ⟨u6.heap.size + 1 + 1, 3, none⟩ = some (.int .u16 D.held.day) ∧ w'.cell? ⟨u6.heap.size + 1 + 1, 4, none⟩ = some (.bool D.held.halt) ∧ w'.cell? ⟨u6.heap.size + 1 + 1, 5, none⟩ = some (.bool D.held.carry) ∧ w'.cell? ⟨u9.heap.size + 1 + 1, 0, none⟩ = some (.int .u8 D.held.sec) ∧ w'.cell? ⟨u9.heap.size + 1 + 1, 1, none⟩ = some (.int .u8 D.held.min) ∧ w'.cell? ⟨u9.heap.size + 1 + 1, 2, none⟩ = some (.int .u8 D.held.hour) ∧ w'.cell? ⟨u9.heap.size + 1 + 1, 3, none⟩ = some (.int .u16 D.held.day) ∧ w'.cell? ⟨u9.heap.size + 1 + 1, 4, none⟩ = some (.bool D.held.halt) ∧ w'.cell? ⟨u9.heap.size + 1 + 1, 5, none⟩ = some (.bool D.held.carry) ∧ (convert 22 9 r5).run Tryd.prog w' = .ok (.string (strB D.ram)) w')) (by kernel_rfl) (by go_keep) (fun hHeld => ?_)
      refine wpAnyH_take (i := 0) (v := ?_) rfl (by kernel_rfl) (by kernel_rfl) (by kernel_rfl) (fun _ _ _ h => h) (Or.inl ⟨by rfl, ?_⟩) (by assumption) ?_
      rotate_left
      · intro w hSw
        (try dsimp only at hSw)
        go_simp
        try with_reducible rfl
      simp only [Act.put, List.getElem_toArray, List.getElem_cons_succ, List.getElem_cons_zero, List.setIfInBounds_toArray, List.set_cons_zero, List.set_cons_succ]
      refine wpAnyH_take (i := 1) (v := ?_) rfl (by kernel_rfl) (by kernel_rfl) (by kernel_rfl) (fun _ _ _ h => h) (Or.inl ⟨by rfl, ?_⟩) (by assumption) ?_
      rotate_left
      · intro w hSw
        (try dsimp only at hSw)
        go_simp
        try with_reducible rfl
      simp only [Act.put, List.getElem_toArray, List.getElem_cons_succ, List.getElem_cons_zero, List.setIfInBounds_toArray, List.set_cons_zero, List.set_cons_succ]
      refine wpAnyH_take (i := 2) (v := ?_) rfl (by kernel_rfl) (by kernel_rfl) (by kernel_rfl) (fun _ _ _ h => h) (Or.inl ⟨by rfl, ?_⟩) (by assumption) ?_
      rotate_left
      · intro w hSw
        (try dsimp only at hSw)
        go_simp
        try with_reducible rfl
      simp only [Act.put, List.getElem_toArray, List.getElem_cons_succ, List.getElem_cons_zero, List.setIfInBounds_toArray, List.set_cons_zero, List.set_cons_succ]
      refine wpAnyH_take (i := 3) (v := ?_) rfl (by kernel_rfl) (by kernel_rfl) (by kernel_rfl) (fun _ _ _ h => h) (Or.inl ⟨by rfl, ?_⟩) (by assumption) ?_
      rotate_left
      · intro w hSw
        (try dsimp only at hSw)
        go_simp
        try with_reducible rfl
      simp only [Act.put, List.getElem_toArray, List.getElem_cons_succ, List.getElem_cons_zero, List.setIfInBounds_toArray, List.set_cons_zero, List.set_cons_succ]
      refine wpAnyH_take (i := 4) (v := ?_) rfl (by kernel_rfl) (by kernel_rfl) (by kernel_rfl) (fun _ _ _ h => h) (Or.inl ⟨by rfl, ?_⟩) (by assumption) ?_
      rotate_left
      · intro w hSw
        (try dsimp only at hSw)
        go_simp
        try with_reducible rfl
      simp only [Act.put, List.getElem_toArray, List.getElem_cons_succ, List.getElem_cons_zero, List.setIfInBounds_toArray, List.set_cons_zero, List.set_cons_succ]
      refine wpAnyH_ready (rs := [5]) (by kernel_rfl) (by simp) ?_
      refine AllReadyH.cons rfl (fun K hK => ?_) AllReadyH.nil
      go_simp
      refine (CHd.out _ (Kept.refl _).drew).mono ?_
      rintro e v1 ⟨rfl, t1⟩
      have rM1a := blk_cell (blk_kept t1 (blk_drew GM1.out))
      have rM2a := blk_cell (blk_kept t1 (blk_drew GM2.out))
      have rV1a := blk_cell (blk_kept t1 (blk_drew GV1.out))
      have rV2a := blk_cell (blk_kept t1 (blk_drew GV2.out))
      have rH1a := blk_cell (blk_kept t1 (blk_drew GH1.out))
      have rH2a := blk_cell (blk_kept t1 (blk_drew GH2.out))
      have KZ1 := hid ((Kept.refl UU).drew.trans t1)
      have cr1 := CQ.out _ KZ1.out
      refine hK.out _ _ (by go_keep) (fun hHeld => ?_)
      clear hK K
      try simp only [Act.put, List.getElem_toArray, List.getElem_cons_succ, List.getElem_cons_zero, List.setIfInBounds_toArray, List.set_cons_zero, List.set_cons_succ]
      refine wpAnyH_take (i := 6) (v := ?_) rfl (by kernel_rfl) (by kernel_rfl) (by kernel_rfl) (fun _ _ _ h => h) (Or.inl ⟨by rfl, ?_⟩) (by assumption) ?_
      rotate_left
      · intro w hSw
        (try dsimp only at hSw)
        go_simp
        try with_reducible rfl
      simp only [Act.put, List.getElem_toArray, List.getElem_cons_succ, List.getElem_cons_zero, List.setIfInBounds_toArray, List.set_cons_zero, List.set_cons_succ]
      refine wpAnyH_take (i := 7) (v := ?_) rfl (by kernel_rfl) (by kernel_rfl) (by kernel_rfl) (fun _ _ _ h => h) (Or.inl ⟨by rfl, ?_⟩) (by assumption) ?_
      rotate_left
      · intro w hSw
        (try dsimp only at hSw)
        go_simp
        try with_reducible rfl
      simp only [Act.put, List.getElem_toArray, List.getElem_cons_succ, List.getElem_cons_zero, List.setIfInBounds_toArray, List.set_cons_zero, List.set_cons_succ]
      refine wpAnyH_take (i := 8) (v := ?_) rfl (by kernel_rfl) (by kernel_rfl) (by kernel_rfl) (fun _ _ _ h => h) (Or.inl ⟨by rfl, ?_⟩) (by assumption) ?_
      rotate_left
      · intro w hSw
        (try dsimp only at hSw)
        go_simp
        try with_reducible rfl
      simp only [Act.put, List.getElem_toArray, List.getElem_cons_succ, List.getElem_cons_zero, List.setIfInBounds_toArray, List.set_cons_zero, List.set_cons_succ]
      refine wpAnyH_take (i := 9) (v := ?_) rfl (by kernel_rfl) (by kernel_rfl) (by kernel_rfl) (fun _ _ _ h => h) (Or.inl ⟨by rfl, ?_⟩) (by assumption) ?_
      rotate_left
      · intro w hSw
        (try dsimp only at hSw)
        go_simp
        try with_reducible rfl
      simp only [Act.put, List.getElem_toArray, List.getElem_cons_succ, List.getElem_cons_zero, List.setIfInBounds_toArray, List.set_cons_zero, List.set_cons_succ]
      refine wpAnyH_take (i := 10) (v := ?_) rfl (by kernel_rfl) (by kernel_rfl) (by kernel_rfl) (fun _ _ _ h => h) (Or.inl ⟨by rfl, ?_⟩) (by assumption) ?_
      rotate_left
      · intro w hSw
        (try dsimp only at hSw)
        go_simp
        try with_reducible rfl
      simp only [Act.put, List.getElem_toArray, List.getElem_cons_succ, List.getElem_cons_zero, List.setIfInBounds_toArray, List.set_cons_zero, List.set_cons_succ]
      refine wpAnyH_take (i := 11) (v := ?_) rfl (by kernel_rfl) (by kernel_rfl) (by kernel_rfl) (fun _ _ _ h => h) (Or.inl ⟨by rfl, ?_⟩) (by assumption) ?_
      rotate_left
      · intro w hSw
        (try dsimp only at hSw)
        go_simp
        try with_reducible rfl
      simp only [Act.put, List.getElem_toArray, List.getElem_cons_succ, List.getElem_cons_zero, List.setIfInBounds_toArray, List.set_cons_zero, List.set_cons_succ]
      refine wpAnyH_take (i := 12) (v := ?_) rfl (by kernel_rfl) (by kernel_rfl) (by kernel_rfl) (fun _ _ _ h => h) (Or.inl ⟨by rfl, ?_⟩) (by assumption) ?_
      rotate_left
      · intro w hSw
        (try dsimp only at hSw)
        go_simp
        try with_reducible rfl
      simp only [Act.put, List.getElem_toArray, List.getElem_cons_succ, List.getElem_cons_zero, List.setIfInBounds_toArray, List.set_cons_zero, List.set_cons_succ]
      refine wpAnyH_take (i := 13) (v := ?_) rfl (by kernel_rfl) (by kernel_rfl) (by kernel_rfl) (fun _ _ _ h => h) (Or.inl ⟨by rfl, ?_⟩) (by assumption) ?_
      rotate_left
      · intro w hSw
        (try dsimp only at hSw)
        go_simp
        try with_reducible rfl
      simp only [Act.put, List.getElem_toArray, List.getElem_cons_succ, List.getElem_cons_zero, List.setIfInBounds_toArray, List.set_cons_zero, List.set_cons_succ]
      refine wpAnyH_take (i := 14) (v := undef) rfl (by kernel_rfl) (by kernel_rfl) (by kernel_rfl) (fun _ _ _ h => h) (Or.inr ⟨by rfl, rfl⟩) (by assumption) ?_
      simp only [Act.put, List.getElem_toArray, List.getElem_cons_succ, List.getElem_cons_zero, List.setIfInBounds_toArray, List.set_cons_zero, List.set_cons_succ]
      refine wpAnyH_take (i := 15) (v := undef) rfl (by kernel_rfl) (by kernel_rfl) (by kernel_rfl) (fun _ _ _ h => h) (Or.inr ⟨by rfl, rfl⟩) (by assumption) ?_
      simp only [Act.put, List.getElem_toArray, List.getElem_cons_succ, List.getElem_cons_zero, List.setIfInBounds_toArray, List.set_cons_zero, List.set_cons_succ]
      refine wpAnyH_take (i := 16) (v := undef) rfl (by kernel_rfl) (by kernel_rfl) (by kernel_rfl) (fun _ _ _ h => h) (Or.inr ⟨by rfl, rfl⟩) (by assumption) ?_
      simp only [Act.put, List.getElem_toArray, List.getElem_cons_succ, List.getElem_cons_zero, List.setIfInBounds_toArray, List.set_cons_zero, List.set_cons_succ]
      refine wpAnyH_take (i := 17) (v := undef) rfl (by kernel_rfl) (by kernel_rfl) (by kernel_rfl) (fun _ _ _ h => h) (Or.inr ⟨by rfl, rfl⟩) (by assumption) ?_
      simp only [Act.put, List.getElem_toArray, List.getElem_cons_succ, List.getElem_cons_zero, List.setIfInBounds_toArray, List.set_cons_zero, List.set_cons_succ]
      refine wpAnyH_take (i := 18) (v := undef) rfl (by kernel_rfl) (by kernel_rfl) (by kernel_rfl) (fun _ _ _ h => h) (Or.inr ⟨by rfl, rfl⟩) (by assumption) ?_
      simp only [Act.put, List.getElem_toArray, List.getElem_cons_succ, List.getElem_cons_zero, List.setIfInBounds_toArray, List.set_cons_zero, List.set_cons_succ]
      refine wpAnyH_take (i := 19) (v := undef) rfl (by kernel_rfl) (by kernel_rfl) (by kernel_rfl) (fun _ _ _ h => h) (Or.inr ⟨by rfl, rfl⟩) (by assumption) ?_
      simp only [Act.put, List.getElem_toArray, List.getElem_cons_succ, List.getElem_cons_zero, List.setIfInBounds_toArray, List.set_cons_zero, List.set_cons_succ]
      refine wpAnyH_take (i := 20) (v := undef) rfl (by kernel_rfl) (by kernel_rfl) (by kernel_rfl) (fun _ _ _ h => h) (Or.inr ⟨by rfl, rfl⟩) (by assumption) ?_
      simp only [Act.put, List.getElem_toArray, List.getElem_cons_succ, List.getElem_cons_zero, List.setIfInBounds_toArray, List.set_cons_zero, List.set_cons_succ]
      refine wpAnyH_take (i := 21) (v := ?_) rfl (by kernel_rfl) (by kernel_rfl) (by kernel_rfl) (fun _ _ _ h => h) (Or.inl ⟨by rfl, ?_⟩) (by assumption) ?_
      rotate_left
      · intro w hSw
        (try dsimp only at hSw)
        go_simp
        try with_reducible rfl
      simp only [Act.put, List.getElem_toArray, List.getElem_cons_succ, List.getElem_cons_zero, List.setIfInBounds_toArray, List.set_cons_zero, List.set_cons_succ]
      refine wpAnyH_take (i := 22) (v := ?_) rfl (by kernel_rfl) (by kernel_rfl) (by kernel_rfl) (fun _ _ _ h => h) (Or.inl ⟨by rfl, ?_⟩) (by assumption) ?_
      rotate_left
      · intro w hSw
        (try dsimp only at hSw)
        go_simp
        try with_reducible rfl
      simp only [Act.put, List.getElem_toArray, List.getElem_cons_succ, List.getElem_cons_zero, List.setIfInBounds_toArray, List.set_cons_zero, List.set_cons_succ]
      refine wpAnyH_take (i := 23) (v := ?_) rfl (by kernel_rfl) (by kernel_rfl) (by kernel_rfl) (fun _ _ _ h => h) (Or.inl ⟨by rfl, ?_⟩) (by assumption) ?_
      rotate_left
      · intro w hSw
        (try dsimp only at hSw)
        go_simp
        try with_reducible rfl
      simp only [Act.put, List.getElem_toArray, List.getElem_cons_succ, List.getElem_cons_zero, List.setIfInBounds_toArray, List.set_cons_zero, List.set_cons_succ]
      refine wpAnyH_take (i := 24) (v := ?_) rfl (by kernel_rfl) (by kernel_rfl) (by kernel_rfl) (fun _ _ _ h => h) (Or.inl ⟨by rfl, ?_⟩) (by assumption) ?_
      rotate_left
      · intro w hSw
        (try dsimp only at hSw)
        go_simp
        try with_reducible rfl
      simp only [Act.put, List.getElem_toArray, List.getElem_cons_succ, List.getElem_cons_zero, List.setIfInBounds_toArray, List.set_cons_zero, List.set_cons_succ]
      refine wpAnyH_take (i := 27) (v := ?_) rfl (by kernel_rfl) (by kernel_rfl) (by kernel_rfl) (fun _ _ _ h => h) (Or.inl ⟨by rfl, ?_⟩) (by assumption) ?_
      rotate_left
      · intro w hSw
        (try dsimp only at hSw)
        go_simp
        try with_reducible rfl
      simp only [Act.put, List.getElem_toArray, List.getElem_cons_succ, List.getElem_cons_zero, List.setIfInBounds_toArray, List.set_cons_zero, List.set_cons_succ]
      refine wpAnyH_take (i := 28) (v := ?_) rfl (by kernel_rfl) (by kernel_rfl) (by kernel_rfl) (fun _ _ _ h => h) (Or.inl ⟨by rfl, ?_⟩) (by assumption) ?_
      rotate_left
      · intro w hSw
        (try dsimp only at hSw)
        go_simp
        try with_reducible rfl
      simp only [Act.put, List.getElem_toArray, List.getElem_cons_succ, List.getElem_cons_zero, List.setIfInBounds_toArray, List.set_cons_zero, List.set_cons_succ]
      refine wpAnyH_ready (rs := [25]) (by kernel_rfl) (by simp) ?_
      refine AllReadyH.cons rfl (fun K hK => ?_) AllReadyH.nil
      go_simp
      refine (CRm.out _ KZ1.out).mono ?_
      rintro e v2 ⟨r2, rfl, o2, t2⟩
      have rM1b := blk_cell (blk_kept t2 (blk_kept t1 (blk_drew GM1.out)))
      have rM2b := blk_cell (blk_kept t2 (blk_kept t1 (blk_drew GM2.out)))
      have rV1b := blk_cell (blk_kept t2 (blk_kept t1 (blk_drew GV1.out)))
      have rV2b := blk_cell (blk_kept t2 (blk_kept t1 (blk_drew GV2.out)))
      have rH1b := blk_cell (blk_kept t2 (blk_kept t1 (blk_drew GH1.out)))
      have rH2b := blk_cell (blk_kept t2 (blk_kept t1 (blk_drew GH2.out)))
      have KZ2 := hid (KU.out.trans (KZ1.out.trans t2))
      have cr2 := CQ.out _ (KZ1.out.trans t2)
      have c2 := conv_own10 o2
      refine hK.out _ _ (by go_keep) (fun hHeld => ?_)
      clear hK K
      try simp only [Act.put, List.getElem_toArray, List.getElem_cons_succ, List.getElem_cons_zero, List.setIfInBounds_toArray, List.set_cons_zero, List.set_cons_succ]
      refine wpAnyH_ready (rs := [26]) (by kernel_rfl) (by simp) ?_
      refine AllReadyH.cons rfl (fun K hK => ?_) AllReadyH.nil
      go_simp
      refine hK.out _ _ (by go_keep) (fun hHeld => ?_)
      clear hK K
      try simp only [Act.put, List.getElem_toArray, List.getElem_cons_succ, List.getElem_cons_zero, List.setIfInBounds_toArray, List.set_cons_zero, List.set_cons_succ]
      refine wpAnyH_take (i := 29) (v := ?_) rfl (by kernel_rfl) (by kernel_rfl) (by kernel_rfl) (fun _ _ _ h => h) (Or.inl ⟨by rfl, ?_⟩) (by assumption) ?_
      rotate_left
      · intro w hSw
        (try dsimp only at hSw)
        go_simp
        try with_reducible rfl
      simp only [Act.put, List.getElem_toArray, List.getElem_cons_succ, List.getElem_cons_zero, List.setIfInBounds_toArray, List.set_cons_zero, List.set_cons_succ]
      refine wpAnyH_take (i := 30) (v := ?_) rfl (by kernel_rfl) (by kernel_rfl) (by kernel_rfl) (fun _ _ _ h => h) (Or.inl ⟨by rfl, ?_⟩) (by assumption) ?_
      rotate_left
      · intro w hSw
        (try dsimp only at hSw)
        go_simp
        try with_reducible rfl
      simp only [Act.put, List.getElem_toArray, List.getElem_cons_succ, List.getElem_cons_zero, List.setIfInBounds_toArray, List.set_cons_zero, List.set_cons_succ]
      refine wpAnyH_take (i := 31) (v := ?_) rfl (by kernel_rfl) (by kernel_rfl) (by kernel_rfl) (fun _ _ _ h => h) (Or.inl ⟨by rfl, ?_⟩) (by assumption) ?_
      rotate_left
      · intro w hSw
        (try dsimp only at hSw)
        go_simp
        try with_reducible rfl
      simp only [Act.put, List.getElem_toArray, List.getElem_cons_succ, List.getElem_cons_zero, List.setIfInBounds_toArray, List.set_cons_zero, List.set_cons_succ]
      refine wpAnyH_take (i := 32) (v := ?_) rfl (by kernel_rfl) (by kernel_rfl) (by kernel_rfl) (fun _ _ _ h => h) (Or.inl ⟨by rfl, ?_⟩) (by assumption) ?_
      rotate_left
      · intro w hSw
        (try dsimp only at hSw)
        go_simp
        try with_reducible rfl
      simp only [Act.put, List.getElem_toArray, List.getElem_cons_succ, List.getElem_cons_zero, List.setIfInBounds_toArray, List.set_cons_zero, List.set_cons_succ]
      refine wpAnyH_take (i := 33) (v := ?_) rfl (by kernel_rfl) (by kernel_rfl) (by kernel_rfl) (fun _ _ _ h => h) (Or.inl ⟨by rfl, ?_⟩) (by assumption) ?_
      rotate_left
      · intro w hSw
        (try dsimp only at hSw)
        go_simp
        try with_reducible rfl
      simp only [Act.put, List.getElem_toArray, List.getElem_cons_succ, List.getElem_cons_zero, List.setIfInBounds_toArray, List.set_cons_zero, List.set_cons_succ]
      refine wpAnyH_take (i := 34) (v := ?_) rfl (by kernel_rfl) (by kernel_rfl) (by kernel_rfl) (fun _ _ _ h => h) (Or.inl ⟨by rfl, ?_⟩) (by assumption) ?_
      rotate_left
      · intro w hSw
        (try dsimp only at hSw)
        go_simp
        try with_reducible rfl
      simp only [Act.put, List.getElem_toArray, List.getElem_cons_succ, List.getElem_cons_zero, List.setIfInBounds_toArray, List.set_cons_zero, List.set_cons_succ]
      refine wpAnyH_take (i := 35) (v := ?_) rfl (by kernel_rfl) (by kernel_rfl) (by kernel_rfl) (fun _ _ _ h => h) (Or.inl ⟨by rfl, ?_⟩) (by assumption) ?_
      rotate_left
      · intro w hSw
        (try dsimp only at hSw)
        go_simp
        try with_reducible rfl
      simp only [Act.put, List.getElem_toArray, List.getElem_cons_succ, List.getElem_cons_zero, List.setIfInBounds_toArray, List.set_cons_zero, List.set_cons_succ]
      refine wpAnyH_take (i := 36) (v := ?_) rfl (by kernel_rfl) (by kernel_rfl) (by kernel_rfl) (fun _ _ _ h => h) (Or.inl ⟨by rfl, ?_⟩) (by assumption) ?_
      rotate_left
      · intro w hSw
        (try dsimp only at hSw)
        go_simp
        try with_reducible rfl
      simp only [Act.put, List.getElem_toArray, List.getElem_cons_succ, List.getElem_cons_zero, List.setIfInBounds_toArray, List.set_cons_zero, List.set_cons_succ]
      refine wpAnyH_take (i := 37) (v := ?_) rfl (by kernel_rfl) (by kernel_rfl) (by kernel_rfl) (fun _ _ _ h => h) (Or.inl ⟨by rfl, ?_⟩) (by assumption) ?_
      rotate_left
      · intro w hSw
        (try dsimp only at hSw)
        go_simp
        try with_reducible rfl
      simp only [Act.put, List.getElem_toArray, List.getElem_cons_succ, List.getElem_cons_zero, List.setIfInBounds_toArray, List.set_cons_zero, List.set_cons_succ]
      refine wpAnyH_take (i := 38) (v := ?_) rfl (by kernel_rfl) (by kernel_rfl) (by kernel_rfl) (fun _ _ _ h => h) (Or.inl ⟨by rfl, ?_⟩) (by assumption) ?_
      rotate_left
      · intro w hSw
        (try dsimp only at hSw)
        go_simp
        try with_reducible rfl
      simp only [Act.put, List.getElem_toArray, List.getElem_cons_succ, List.getElem_cons_zero, List.setIfInBounds_toArray, List.set_cons_zero, List.set_cons_succ]
      refine wpAnyH_take (i := 39) (v := ?_) rfl (by kernel_rfl) (by kernel_rfl) (by kernel_rfl) (fun _ _ _ h => h) (Or.inl ⟨by rfl, ?_⟩) (by assumption) ?_
      rotate_left
      · intro w hSw
        (try dsimp only at hSw)
        go_simp
        try with_reducible rfl
      simp only [Act.put, List.getElem_toArray, List.getElem_cons_succ, List.getElem_cons_zero, List.setIfInBounds_toArray, List.set_cons_zero, List.set_cons_succ]
      refine wpAnyH_take (i := 40) (v := ?_) rfl (by kernel_rfl) (by kernel_rfl) (by kernel_rfl) (fun _ _ _ h => h) (Or.inl ⟨by rfl, ?_⟩) (by assumption) ?_
      rotate_left
      · intro w hSw
        (try dsimp only at hSw)
        go_simp
        try with_reducible rfl
      simp only [Act.put, List.getElem_toArray, List.getElem_cons_succ, List.getElem_cons_zero, List.setIfInBounds_toArray, List.set_cons_zero, List.set_cons_succ]
      refine wpAnyH_take (i := 41) (v := ?_) rfl (by kernel_rfl) (by kernel_rfl) (by kernel_rfl) (fun _ _ _ h => h) (Or.inl ⟨by rfl, ?_⟩) (by assumption) ?_
      rotate_left
      · intro w hSw
        (try dsimp only at hSw)
        go_simp
        try with_reducible rfl
      simp only [Act.put, List.getElem_toArray, List.getElem_cons_succ, List.getElem_cons_zero, List.setIfInBounds_toArray, List.set_cons_zero, List.set_cons_succ]
      refine wpAnyH_take (i := 42) (v := ?_) rfl (by kernel_rfl) (by kernel_rfl) (by kernel_rfl) (fun _ _ _ h => h) (Or.inl ⟨by rfl, ?_⟩) (by assumption) ?_
      rotate_left
      · intro w hSw
        (try dsimp only at hSw)
        go_simp
        try with_reducible rfl
      simp only [Act.put, List.getElem_toArray, List.getElem_cons_succ, List.getElem_cons_zero, List.setIfInBounds_toArray, List.set_cons_zero, List.set_cons_succ]
      refine wpAnyH_take (i := 43) (v := ?_) rfl (by kernel_rfl) (by kernel_rfl) (by kernel_rfl) (fun _ _ _ h => h) (Or.inl ⟨by rfl, ?_⟩) (by assumption) ?_
      rotate_left
      · intro w hSw
        (try dsimp only at hSw)
        go_simp
        try with_reducible rfl
      simp only [Act.put, List.getElem_toArray, List.getElem_cons_succ, List.getElem_cons_zero, List.setIfInBounds_toArray, List.set_cons_zero, List.set_cons_succ]
      refine wpAnyH_take (i := 44) (v := ?_) rfl (by kernel_rfl) (by kernel_rfl) (by kernel_rfl) (fun _ _ _ h => h) (Or.inl ⟨by rfl, ?_⟩) (by assumption) ?_
      rotate_left
      · intro w hSw
        (try dsimp only at hSw)
        go_simp
        try with_reducible rfl
      simp only [Act.put, List.getElem_toArray, List.getElem_cons_succ, List.getElem_cons_zero, List.setIfInBounds_toArray, List.set_cons_zero, List.set_cons_succ]
      refine wpAnyH_take (i := 45) (v := ?_) rfl (by kernel_rfl) (by kernel_rfl) (by kernel_rfl) (fun _ _ _ h => h) (Or.inl ⟨by rfl, ?_⟩) (by assumption) ?_
      rotate_left
      · intro w hSw
        (try dsimp only at hSw)
        go_simp
        try with_reducible rfl
      simp only [Act.put, List.getElem_toArray, List.getElem_cons_succ, List.getElem_cons_zero, List.setIfInBounds_toArray, List.set_cons_zero, List.set_cons_succ]
      refine wpAnyH_take (i := 46) (v := ?_) rfl (by kernel_rfl) (by kernel_rfl) (by kernel_rfl) (fun _ _ _ h => h) (Or.inl ⟨by rfl, ?_⟩) (by assumption) ?_
      rotate_left
      · intro w hSw
        (try dsimp only at hSw)
        go_simp
        try with_reducible rfl
      simp only [Act.put, List.getElem_toArray, List.getElem_cons_succ, List.getElem_cons_zero, List.setIfInBounds_toArray, List.set_cons_zero, List.set_cons_succ]
      refine wpAnyH_done (by kernel_rfl) ?_ _
      go_wp2
      go_ret
      exact ⟨rfl, KZ2.out⟩
    have d7 : (EE == 7) = false := by simpa using h7
    have F5b := F5.out hb
    by_cases hl : z2.length = (saveS D).length
    · have dl : ((z2.length : Int) != ((saveS D).length : Int)) = false := by simp [hl]
      have d5 : (EE == 5) = false := by have := F5b; simp; omega
      clear hl F5b
      have M2 : Blk (((u9.alloc (.cells ([.int .i64 D.m.kind, .bool D.m.op, .int .u8 D.m.low, .int .u8 D.m.high, .int .u8 D.m.ram, .bool D.m.mode] : List Value).toArray 32)).alloc (.cells ([.int .u8 D.live.sec, .int .u8 D.live.min, .int .u8 D.live.hour, .int .u16 D.live.day, .bool D.live.halt, .bool D.live.carry] : List Value).toArray 34)).alloc (.cells ([.int .u8 D.held.sec, .int .u8 D.held.min, .int .u8 D.held.hour, .int .u16 D.held.day, .bool D.held.halt, .bool D.held.carry] : List Value).toArray 34)) u9.heap.size 32 [.int .i64 D.m.kind, .bool D.m.op, .int .u8 D.m.low, .int .u8 D.m.high, .int .u8 D.m.ram, .bool D.m.mode] := blk_past (blk_past (blk_new u9 _ _) _) _
      have V2 : Blk (((u9.alloc (.cells ([.int .i64 D.m.kind, .bool D.m.op, .int .u8 D.m.low, .int .u8 D.m.high, .int .u8 D.m.ram, .bool D.m.mode] : List Value).toArray 32)).alloc (.cells ([.int .u8 D.live.sec, .int .u8 D.live.min, .int .u8 D.live.hour, .int .u16 D.live.day, .bool D.live.halt, .bool D.live.carry] : List Value).toArray 34)).alloc (.cells ([.int .u8 D.held.sec, .int .u8 D.held.min, .int .u8 D.held.hour, .int .u16 D.held.day, .bool D.held.halt, .bool D.held.carry] : List Value).toArray 34)) (u9.heap.size + 1) 34 [.int .u8 D.live.sec, .int .u8 D.live.min, .int .u8 D.live.hour, .int .u16 D.live.day, .bool D.live.halt, .bool D.live.carry] := blk_past (by have h := blk_new (u9.alloc (.cells ([.int .i64 D.m.kind, .bool D.m.op, .int .u8 D.m.low, .int .u8 D.m.high, .int .u8 D.m.ram, .bool D.m.mode] : List Value).toArray 32)) [.int .u8 D.live.sec, .int .u8 D.live.min, .int .u8 D.live.hour, .int .u16 D.live.day, .bool D.live.halt, .bool D.live.carry] 34; rw [World.size_alloc] at h; exact h) _
      have H2 : Blk (((u9.alloc (.cells ([.int .i64 D.m.kind, .bool D.m.op, .int .u8 D.m.low, .int .u8 D.m.high, .int .u8 D.m.ram, .bool D.m.mode] : List Value).toArray 32)).alloc (.cells ([.int .u8 D.live.sec, .int .u8 D.live.min, .int .u8 D.live.hour, .int .u16 D.live.day, .bool D.live.halt, .bool D.live.carry] : List Value).toArray 34)).alloc (.cells ([.int .u8 D.held.sec, .int .u8 D.held.min, .int .u8 D.held.hour, .int .u16 D.held.day, .bool D.held.halt, .bool D.held.carry] : List Value).toArray 34)) (u9.heap.size + 1 + 1) 34 [.int .u8 D.held.sec, .int .u8 D.held.min, .int .u8 D.held.hour, .int .u16 D.held.day, .bool D.held.halt, .bool D.held.carry] := by have h := blk_new ((u9.alloc (.cells ([.int .i64 D.m.kind, .bool D.m.op, .int .u8 D.m.low, .int .u8 D.m.high, .int .u8 D.m.ram, .bool D.m.mode] : List Value).toArray 32)).alloc (.cells ([.int .u8 D.live.sec, .int .u8 D.live.min, .int .u8 D.live.hour, .int .u16 D.live.day, .bool D.live.halt, .bool D.live.carry] : List Value).toArray 34)) [.int .u8 D.held.sec, .int .u8 D.held.min, .int .u8 D.held.hour, .int .u16 D.held.day, .bool D.held.halt, .bool D.held.carry] 34; rw [World.size_alloc, World.size_alloc] at h; exact h
      have KA2 := hid (((Kept.refl u9).alloc (.cells ([.int .i64 D.m.kind, .bool D.m.op, .int .u8 D.m.low, .int .u8 D.m.high, .int .u8 D.m.ram, .bool D.m.mode] : List Value).toArray 32)).alloc (.cells ([.int .u8 D.live.sec, .int .u8 D.live.min, .int .u8 D.live.hour, .int .u16 D.live.day, .bool D.live.halt, .bool D.live.carry] : List Value).toArray 34) |>.alloc (.cells ([.int .u8 D.held.sec, .int .u8 D.held.min, .int .u8 D.held.hour, .int .u16 D.held.day, .bool D.held.halt, .bool D.held.carry] : List Value).toArray 34))
      have KU := hid (K9.out.trans KA2.out)
      have CU := hid (cart_kept C9.out KA2.out)
      have M1 : Blk (((u9.alloc (.cells ([.int .i64 D.m.kind, .bool D.m.op, .int .u8 D.m.low, .int .u8 D.m.high, .int .u8 D.m.ram, .bool D.m.mode] : List Value).toArray 32)).alloc (.cells ([.int .u8 D.live.sec, .int .u8 D.live.min, .int .u8 D.live.hour, .int .u16 D.live.day, .bool D.live.halt, .bool D.live.carry] : List Value).toArray 34)).alloc (.cells ([.int .u8 D.held.sec, .int .u8 D.held.min, .int .u8 D.held.hour, .int .u16 D.held.day, .bool D.held.halt, .bool D.held.carry] : List Value).toArray 34)) u6.heap.size 32 [.int .i64 D.m.kind, .bool D.m.op, .int .u8 D.m.low, .int .u8 D.m.high, .int .u8 D.m.ram, .bool D.m.mode] := blk_kept KA2.out M9.out
      have V1 : Blk (((u9.alloc (.cells ([.int .i64 D.m.kind, .bool D.m.op, .int .u8 D.m.low, .int .u8 D.m.high, .int .u8 D.m.ram, .bool D.m.mode] : List Value).toArray 32)).alloc (.cells ([.int .u8 D.live.sec, .int .u8 D.live.min, .int .u8 D.live.hour, .int .u16 D.live.day, .bool D.live.halt, .bool D.live.carry] : List Value).toArray 34)).alloc (.cells ([.int .u8 D.held.sec, .int .u8 D.held.min, .int .u8 D.held.hour, .int .u16 D.held.day, .bool D.held.halt, .bool D.held.carry] : List Value).toArray 34)) (u6.heap.size + 1) 34 [.int .u8 D.live.sec, .int .u8 D.live.min, .int .u8 D.live.hour, .int .u16 D.live.day, .bool D.live.halt, .bool D.live.carry] := blk_kept KA2.out V9.out
      have H1 : Blk (((u9.alloc (.cells ([.int .i64 D.m.kind, .bool D.m.op, .int .u8 D.m.low, .int .u8 D.m.high, .int .u8 D.m.ram, .bool D.m.mode] : List Value).toArray 32)).alloc (.cells ([.int .u8 D.live.sec, .int .u8 D.live.min, .int .u8 D.live.hour, .int .u16 D.live.day, .bool D.live.halt, .bool D.live.carry] : List Value).toArray 34)).alloc (.cells ([.int .u8 D.held.sec, .int .u8 D.held.min, .int .u8 D.held.hour, .int .u16 D.held.day, .bool D.held.halt, .bool D.held.carry] : List Value).toArray 34)) (u6.heap.size + 1 + 1) 34 [.int .u8 D.held.sec, .int .u8 D.held.min, .int .u8 D.held.hour, .int .u16 D.held.day, .bool D.held.halt, .bool D.held.carry] := blk_kept KA2.out H9.out
      have OU := hid (owns_kept KA2.out O9.out)
      clear KA2 M9 V9 H9 O9 C9
      go_wp2_with fail
      obtain ⟨UU, hU⟩ : ∃ W, (((u9.alloc (.cells ([.int .i64 D.m.kind, .bool D.m.op, .int .u8 D.m.low, .int .u8 D.m.high, .int .u8 D.m.ram, .bool D.m.mode] : List Value).toArray 32)).alloc (.cells ([.int .u8 D.live.sec, .int .u8 D.live.min, .int .u8 D.live.hour, .int .u16 D.live.day, .bool D.live.halt, .bool D.live.carry] : List Value).toArray 34)).alloc (.cells ([.int .u8 D.held.sec, .int .u8 D.held.min, .int .u8 D.held.hour, .int .u16 D.held.day, .bool D.held.halt, .bool D.held.carry] : List Value).toArray 34)) = W := ⟨_, rfl⟩
      rw [hU] at M1 M2 V1 V2 H1 H2 KU CU OU
      rw [show (((u9.alloc (.cells #[.int .i64 D.m.kind, .bool D.m.op, .int .u8 D.m.low, .int .u8 D.m.high, .int .u8 D.m.ram, .bool D.m.mode] 32)).alloc (.cells #[.int .u8 D.live.sec, .int .u8 D.live.min, .int .u8 D.live.hour, .int .u16 D.live.day, .bool D.live.halt, .bool D.live.carry] 34)).alloc (.cells #[.int .u8 D.held.sec, .int .u8 D.held.min, .int .u8 D.held.hour, .int .u16 D.held.day, .bool D.held.halt, .bool D.held.carry] 34)) = UU from hU]
      clear hU
      have CV := hid (fun u (g : Kept UU u) => conv_sl (sl_kept (KU.out.trans g) ZB.out))
      have CQ := hid (fun u (g : Kept UU u) => conv_own10 (owns_kept g OU.out))
      have cb0 := CV.out _ (Kept.refl UU).drew
      have cr0 := CQ.out _ (Kept.refl UU).drew
      have CHd := hid (fun u (g : Kept UU u) => khead_any D _ _ u (cart_kept CU.out g))
      simp only [hdVc] at CHd
      have FB := head_bat
      have GM1 := hid M1
      have rM1 := blk_cell M1
      have GM2 := hid M2
      have rM2 := blk_cell M2
      have GV1 := hid V1
      have rV1 := blk_cell V1
      have GV2 := hid V2
      have rV2 := blk_cell V2
      have GH1 := hid H1
      have rH1 := blk_cell H1
      have GH2 := hid H2
      have rH2 := blk_cell H2
      clear M1 M2 V1 V2 H1 H2
      have CRm := hid (fun u (g : Kept UU u) => kram_any D _ _ u (cart_kept CU.out g))
      clear cb0
      refine wp_region_held_drew (S := (fun w' => w'.cell? ⟨u6.heap.size, 0, none⟩ = some (.int .i64 D.m.kind) ∧ w'.cell? ⟨u6.heap.size, 1, none⟩ = some (.bool D.m.op) ∧ w'.cell? ⟨u6.heap.size, 2, none⟩ = some (.int .u8 D.m.low) ∧ w'.cell? ⟨u6.heap.size, 3, none⟩ = some (.int .u8 D.m.high) ∧ w'.cell? ⟨u6.heap.size, 4, none⟩ = some (.int .u8 D.m.ram) ∧ w'.cell? ⟨u6.heap.size, 5, none⟩ = some (.bool D.m.mode) ∧ w'.cell? ⟨u9.heap.size, 0, none⟩ = some (.int .i64 D.m.kind) ∧ w'.cell? ⟨u9.heap.size, 1, none⟩ = some (.bool D.m.op) ∧ w'.cell? ⟨u9.heap.size, 2, none⟩ = some (.int .u8 D.m.low) ∧ w'.cell? ⟨u9.heap.size, 3, none⟩ = some (.int .u8 D.m.high) ∧ w'.cell? ⟨u9.heap.size, 4, none⟩ = some (.int .u8 D.m.ram) ∧ w'.cell? ⟨u9.heap.size, 5, none⟩ = some (.bool D.m.mode) ∧ w'.cell? ⟨u6.heap.size + 1, 0, none⟩ = some (.int .u8 D.live.sec) ∧ w'.cell? ⟨u6.heap.size + 1, 1, none⟩ = some (.int .u8 D.live.min) ∧ w'.cell? ⟨u6.heap.size + 1, 2, none⟩ = some (.int .u8 D.live.hour) ∧ w'.cell? ⟨u6.heap.size + 1, 3, none⟩ = some (.int .u16 D.live.day) ∧ w'.cell? ⟨u6.heap.size + 1, 4, none⟩ = some (.bool D.live.halt) ∧ w'.cell? ⟨u6.heap.size + 1, 5, none⟩ = some (.bool D.live.carry) ∧ w'.cell? ⟨u9.heap.size + 1, 0, none⟩ = some (.int .u8 D.live.sec) ∧ w'.cell? ⟨u9.heap.size + 1, 1, none⟩ = some (.int .u8 D.live.min) ∧ w'.cell? ⟨u9.heap.size + 1, 2, none⟩ = some (.int .u8 D.live.hour) ∧ w'.cell? ⟨u9.heap.size + 1, 3, none⟩ = some (.int .u16 D.live.day) ∧ w'.cell? ⟨u9.heap.size + 1, 4, none⟩ = some (.bool D.live.halt) ∧ w'.cell? ⟨u9.heap.size + 1, 5, none⟩ = some (.bool D.live.carry) ∧ w'.cell? ⟨u6.heap.size + 1 + 1, 0, none⟩ = some (.int .u8 D.held.sec) ∧ w'.cell? ⟨u6.heap.size + 1 + 1, 1, none⟩ = some (.int .u8 D.held.min) ∧ w'.cell? ⟨u6.heap.size + 1 + 1, 2, none⟩ = some (.int .u8 D.held.hour) ∧ w'.cell? ⟨u6.heap.size + 1 + 1, 3, none⟩ = some (.int .u16 D.held.day) ∧ w'.cell? ⟨u6.heap.size + 1 + 1, 4, none⟩ = some (.bool D.held.halt) ∧ w'.cell? ⟨u6.heap.size + 1 + 1, 5, none⟩ = some (.bool D.held.carry) ∧ w'.cell? ⟨u9.heap.size + 1 + 1, 0, none⟩ = some (.int .u8 D.held.sec) ∧ w'.cell? ⟨u9.heap.size + 1 + 1, 1, none⟩ = some (.int .u8 D.held.min) ∧ w'.cell? ⟨u9.heap.size + 1 + 1, 2, none⟩ = some (.int .u8 D.held.hour) ∧ w'.cell? ⟨u9.heap.size + 1 + 1, 3, none⟩ = some (.int .u16 D.held.day) ∧ w'.cell? ⟨u9.heap.size + 1 + 1, 4, none⟩ = some (.bool D.held.halt) ∧ w'.cell? ⟨u9.heap.size + 1 + 1, 5, none⟩ = some (.bool D.held.carry) ∧ (convert 22 9 r5).run Tryd.prog w' = .ok (.string (strB D.ram)) w')) (by kernel_rfl) (by go_keep) (fun hHeld => ?_)
      refine wpAnyH_take (i := 0) (v := ?_) rfl (by kernel_rfl) (by kernel_rfl) (by kernel_rfl) (fun _ _ _ h => h) (Or.inl ⟨by rfl, ?_⟩) (by assumption) ?_
      rotate_left
      · intro w hSw
        (try dsimp only at hSw)
        go_simp
        try with_reducible rfl
      simp only [Act.put, List.getElem_toArray, List.getElem_cons_succ, List.getElem_cons_zero, List.setIfInBounds_toArray, List.set_cons_zero, List.set_cons_succ]
      refine wpAnyH_take (i := 1) (v := ?_) rfl (by kernel_rfl) (by kernel_rfl) (by kernel_rfl) (fun _ _ _ h => h) (Or.inl ⟨by rfl, ?_⟩) (by assumption) ?_
      rotate_left
      · intro w hSw
        (try dsimp only at hSw)
        go_simp
        try with_reducible rfl
      simp only [Act.put, List.getElem_toArray, List.getElem_cons_succ, List.getElem_cons_zero, List.setIfInBounds_toArray, List.set_cons_zero, List.set_cons_succ]
      refine wpAnyH_take (i := 2) (v := ?_) rfl (by kernel_rfl) (by kernel_rfl) (by kernel_rfl) (fun _ _ _ h => h) (Or.inl ⟨by rfl, ?_⟩) (by assumption) ?_
      rotate_left
      · intro w hSw
        (try dsimp only at hSw)
        go_simp
        try with_reducible rfl
      simp only [Act.put, List.getElem_toArray, List.getElem_cons_succ, List.getElem_cons_zero, List.setIfInBounds_toArray, List.set_cons_zero, List.set_cons_succ]
      refine wpAnyH_take (i := 3) (v := ?_) rfl (by kernel_rfl) (by kernel_rfl) (by kernel_rfl) (fun _ _ _ h => h) (Or.inl ⟨by rfl, ?_⟩) (by assumption) ?_
      rotate_left
      · intro w hSw
        (try dsimp only at hSw)
        go_simp
        try with_reducible rfl
      simp only [Act.put, List.getElem_toArray, List.getElem_cons_succ, List.getElem_cons_zero, List.setIfInBounds_toArray, List.set_cons_zero, List.set_cons_succ]
      refine wpAnyH_take (i := 4) (v := ?_) rfl (by kernel_rfl) (by kernel_rfl) (by kernel_rfl) (fun _ _ _ h => h) (Or.inl ⟨by rfl, ?_⟩) (by assumption) ?_
      rotate_left
      · intro w hSw
        (try dsimp only at hSw)
        go_simp
        try with_reducible rfl
      simp only [Act.put, List.getElem_toArray, List.getElem_cons_succ, List.getElem_cons_zero, List.setIfInBounds_toArray, List.set_cons_zero, List.set_cons_succ]
      refine wpAnyH_ready (rs := [5]) (by kernel_rfl) (by simp) ?_
      refine AllReadyH.cons rfl (fun K hK => ?_) AllReadyH.nil
      go_simp
      refine (CHd.out _ (Kept.refl _).drew).mono ?_
      rintro e v1 ⟨rfl, t1⟩
      have rM1a := blk_cell (blk_kept t1 (blk_drew GM1.out))
      have rM2a := blk_cell (blk_kept t1 (blk_drew GM2.out))
      have rV1a := blk_cell (blk_kept t1 (blk_drew GV1.out))
      have rV2a := blk_cell (blk_kept t1 (blk_drew GV2.out))
      have rH1a := blk_cell (blk_kept t1 (blk_drew GH1.out))
      have rH2a := blk_cell (blk_kept t1 (blk_drew GH2.out))
      have KZ1 := hid ((Kept.refl UU).drew.trans t1)
      have cr1 := CQ.out _ KZ1.out
      refine hK.out _ _ (by go_keep) (fun hHeld => ?_)
      clear hK K
      try simp only [Act.put, List.getElem_toArray, List.getElem_cons_succ, List.getElem_cons_zero, List.setIfInBounds_toArray, List.set_cons_zero, List.set_cons_succ]
      refine wpAnyH_take (i := 6) (v := ?_) rfl (by kernel_rfl) (by kernel_rfl) (by kernel_rfl) (fun _ _ _ h => h) (Or.inl ⟨by rfl, ?_⟩) (by assumption) ?_
      rotate_left
      · intro w hSw
        (try dsimp only at hSw)
        go_simp
        try with_reducible rfl
      simp only [Act.put, List.getElem_toArray, List.getElem_cons_succ, List.getElem_cons_zero, List.setIfInBounds_toArray, List.set_cons_zero, List.set_cons_succ]
      refine wpAnyH_take (i := 7) (v := ?_) rfl (by kernel_rfl) (by kernel_rfl) (by kernel_rfl) (fun _ _ _ h => h) (Or.inl ⟨by rfl, ?_⟩) (by assumption) ?_
      rotate_left
      · intro w hSw
        (try dsimp only at hSw)
        go_simp
        try with_reducible rfl
      simp only [Act.put, List.getElem_toArray, List.getElem_cons_succ, List.getElem_cons_zero, List.setIfInBounds_toArray, List.set_cons_zero, List.set_cons_succ]
      refine wpAnyH_take (i := 8) (v := ?_) rfl (by kernel_rfl) (by kernel_rfl) (by kernel_rfl) (fun _ _ _ h => h) (Or.inl ⟨by rfl, ?_⟩) (by assumption) ?_
      rotate_left
      · intro w hSw
        (try dsimp only at hSw)
        go_simp
        try with_reducible rfl
      simp only [Act.put, List.getElem_toArray, List.getElem_cons_succ, List.getElem_cons_zero, List.setIfInBounds_toArray, List.set_cons_zero, List.set_cons_succ]
      refine wpAnyH_take (i := 9) (v := ?_) rfl (by kernel_rfl) (by kernel_rfl) (by kernel_rfl) (fun _ _ _ h => h) (Or.inl ⟨by rfl, ?_⟩) (by assumption) ?_
      rotate_left
      · intro w hSw
        (try dsimp only at hSw)
        go_simp
        try with_reducible rfl
      simp only [Act.put, List.getElem_toArray, List.getElem_cons_succ, List.getElem_cons_zero, List.setIfInBounds_toArray, List.set_cons_zero, List.set_cons_succ]
      refine wpAnyH_take (i := 10) (v := ?_) rfl (by kernel_rfl) (by kernel_rfl) (by kernel_rfl) (fun _ _ _ h => h) (Or.inl ⟨by rfl, ?_⟩) (by assumption) ?_
      rotate_left
      · intro w hSw
        (try dsimp only at hSw)
        go_simp
        try with_reducible rfl
      simp only [Act.put, List.getElem_toArray, List.getElem_cons_succ, List.getElem_cons_zero, List.setIfInBounds_toArray, List.set_cons_zero, List.set_cons_succ]
      refine wpAnyH_take (i := 11) (v := ?_) rfl (by kernel_rfl) (by kernel_rfl) (by kernel_rfl) (fun _ _ _ h => h) (Or.inl ⟨by rfl, ?_⟩) (by assumption) ?_
      rotate_left
      · intro w hSw
        (try dsimp only at hSw)
        go_simp
        try with_reducible rfl
      simp only [Act.put, List.getElem_toArray, List.getElem_cons_succ, List.getElem_cons_zero, List.setIfInBounds_toArray, List.set_cons_zero, List.set_cons_succ]
      refine wpAnyH_take (i := 12) (v := ?_) rfl (by kernel_rfl) (by kernel_rfl) (by kernel_rfl) (fun _ _ _ h => h) (Or.inl ⟨by rfl, ?_⟩) (by assumption) ?_
      rotate_left
      · intro w hSw
        (try dsimp only at hSw)
        go_simp
        try with_reducible rfl
      simp only [Act.put, List.getElem_toArray, List.getElem_cons_succ, List.getElem_cons_zero, List.setIfInBounds_toArray, List.set_cons_zero, List.set_cons_succ]
      refine wpAnyH_take (i := 13) (v := ?_) rfl (by kernel_rfl) (by kernel_rfl) (by kernel_rfl) (fun _ _ _ h => h) (Or.inl ⟨by rfl, ?_⟩) (by assumption) ?_
      rotate_left
      · intro w hSw
        (try dsimp only at hSw)
        go_simp
        try with_reducible rfl
      simp only [Act.put, List.getElem_toArray, List.getElem_cons_succ, List.getElem_cons_zero, List.setIfInBounds_toArray, List.set_cons_zero, List.set_cons_succ]
      refine wpAnyH_take (i := 14) (v := ?_) rfl (by kernel_rfl) (by kernel_rfl) (by kernel_rfl) (fun _ _ _ h => h) (Or.inl ⟨by rfl, ?_⟩) (by assumption) ?_
      rotate_left
      · intro w hSw
        (try dsimp only at hSw)
        go_simp
        try with_reducible rfl
      simp only [Act.put, List.getElem_toArray, List.getElem_cons_succ, List.getElem_cons_zero, List.setIfInBounds_toArray, List.set_cons_zero, List.set_cons_succ]
      refine wpAnyH_take (i := 15) (v := ?_) rfl (by kernel_rfl) (by kernel_rfl) (by kernel_rfl) (fun _ _ _ h => h) (Or.inl ⟨by rfl, ?_⟩) (by assumption) ?_
      rotate_left
      · intro w hSw
        (try dsimp only at hSw)
        go_simp
        try with_reducible rfl
      simp only [Act.put, List.getElem_toArray, List.getElem_cons_succ, List.getElem_cons_zero, List.setIfInBounds_toArray, List.set_cons_zero, List.set_cons_succ]
      refine wpAnyH_take (i := 16) (v := ?_) rfl (by kernel_rfl) (by kernel_rfl) (by kernel_rfl) (fun _ _ _ h => h) (Or.inl ⟨by rfl, ?_⟩) (by assumption) ?_
      rotate_left
      · intro w hSw
        (try dsimp only at hSw)
        go_simp
        try with_reducible rfl
      simp only [Act.put, List.getElem_toArray, List.getElem_cons_succ, List.getElem_cons_zero, List.setIfInBounds_toArray, List.set_cons_zero, List.set_cons_succ]
      refine wpAnyH_take (i := 17) (v := ?_) rfl (by kernel_rfl) (by kernel_rfl) (by kernel_rfl) (fun _ _ _ h => h) (Or.inl ⟨by rfl, ?_⟩) (by assumption) ?_
      rotate_left
      · intro w hSw
        (try dsimp only at hSw)
        go_simp
        try with_reducible rfl
      simp only [Act.put, List.getElem_toArray, List.getElem_cons_succ, List.getElem_cons_zero, List.setIfInBounds_toArray, List.set_cons_zero, List.set_cons_succ]
      refine wpAnyH_take (i := 18) (v := ?_) rfl (by kernel_rfl) (by kernel_rfl) (by kernel_rfl) (fun _ _ _ h => h) (Or.inl ⟨by rfl, ?_⟩) (by assumption) ?_
      rotate_left
      · intro w hSw
        (try dsimp only at hSw)
        go_simp
        try with_reducible rfl
      simp only [Act.put, List.getElem_toArray, List.getElem_cons_succ, List.getElem_cons_zero, List.setIfInBounds_toArray, List.set_cons_zero, List.set_cons_succ]
      refine wpAnyH_take (i := 19) (v := ?_) rfl (by kernel_rfl) (by kernel_rfl) (by kernel_rfl) (fun _ _ _ h => h) (Or.inl ⟨by rfl, ?_⟩) (by assumption) ?_
      rotate_left
      · intro w hSw
        (try dsimp only at hSw)
        go_simp
        try with_reducible rfl
      simp only [Act.put, List.getElem_toArray, List.getElem_cons_succ, List.getElem_cons_zero, List.setIfInBounds_toArray, List.set_cons_zero, List.set_cons_succ]
      refine wpAnyH_take (i := 20) (v := ?_) rfl (by kernel_rfl) (by kernel_rfl) (by kernel_rfl) (fun _ _ _ h => h) (Or.inl ⟨by rfl, ?_⟩) (by assumption) ?_
      rotate_left
      · intro w hSw
        (try dsimp only at hSw)
        go_simp
        try with_reducible rfl
      simp only [Act.put, List.getElem_toArray, List.getElem_cons_succ, List.getElem_cons_zero, List.setIfInBounds_toArray, List.set_cons_zero, List.set_cons_succ]
      refine wpAnyH_take (i := 21) (v := ?_) rfl (by kernel_rfl) (by kernel_rfl) (by kernel_rfl) (fun _ _ _ h => h) (Or.inl ⟨by rfl, ?_⟩) (by assumption) ?_
      rotate_left
      · intro w hSw
        (try dsimp only at hSw)
        go_simp
        try with_reducible rfl
      simp only [Act.put, List.getElem_toArray, List.getElem_cons_succ, List.getElem_cons_zero, List.setIfInBounds_toArray, List.set_cons_zero, List.set_cons_succ]
      refine wpAnyH_take (i := 22) (v := ?_) rfl (by kernel_rfl) (by kernel_rfl) (by kernel_rfl) (fun _ _ _ h => h) (Or.inl ⟨by rfl, ?_⟩) (by assumption) ?_
      rotate_left
      · intro w hSw
        (try dsimp only at hSw)
        go_simp
        try with_reducible rfl
      simp only [Act.put, List.getElem_toArray, List.getElem_cons_succ, List.getElem_cons_zero, List.setIfInBounds_toArray, List.set_cons_zero, List.set_cons_succ]
      refine wpAnyH_take (i := 23) (v := ?_) rfl (by kernel_rfl) (by kernel_rfl) (by kernel_rfl) (fun _ _ _ h => h) (Or.inl ⟨by rfl, ?_⟩) (by assumption) ?_
      rotate_left
      · intro w hSw
        (try dsimp only at hSw)
        go_simp
        try with_reducible rfl
      simp only [Act.put, List.getElem_toArray, List.getElem_cons_succ, List.getElem_cons_zero, List.setIfInBounds_toArray, List.set_cons_zero, List.set_cons_succ]
      refine wpAnyH_take (i := 24) (v := ?_) rfl (by kernel_rfl) (by kernel_rfl) (by kernel_rfl) (fun _ _ _ h => h) (Or.inl ⟨by rfl, ?_⟩) (by assumption) ?_
      rotate_left
      · intro w hSw
        (try dsimp only at hSw)
        go_simp
        try with_reducible rfl
      simp only [Act.put, List.getElem_toArray, List.getElem_cons_succ, List.getElem_cons_zero, List.setIfInBounds_toArray, List.set_cons_zero, List.set_cons_succ]
      refine wpAnyH_take (i := 27) (v := ?_) rfl (by kernel_rfl) (by kernel_rfl) (by kernel_rfl) (fun _ _ _ h => h) (Or.inl ⟨by rfl, ?_⟩) (by assumption) ?_
      rotate_left
      · intro w hSw
        (try dsimp only at hSw)
        go_simp
        try with_reducible rfl
      simp only [Act.put, List.getElem_toArray, List.getElem_cons_succ, List.getElem_cons_zero, List.setIfInBounds_toArray, List.set_cons_zero, List.set_cons_succ]
      refine wpAnyH_take (i := 28) (v := ?_) rfl (by kernel_rfl) (by kernel_rfl) (by kernel_rfl) (fun _ _ _ h => h) (Or.inl ⟨by rfl, ?_⟩) (by assumption) ?_
      rotate_left
      · intro w hSw
        (try dsimp only at hSw)
        go_simp
        try with_reducible rfl
      simp only [Act.put, List.getElem_toArray, List.getElem_cons_succ, List.getElem_cons_zero, List.setIfInBounds_toArray, List.set_cons_zero, List.set_cons_succ]
      refine wpAnyH_ready (rs := [25]) (by kernel_rfl) (by simp) ?_
      refine AllReadyH.cons rfl (fun K hK => ?_) AllReadyH.nil
      go_simp
      refine (CRm.out _ KZ1.out).mono ?_
      rintro e v2 ⟨r2, rfl, o2, t2⟩
      have rM1b := blk_cell (blk_kept t2 (blk_kept t1 (blk_drew GM1.out)))
      have rM2b := blk_cell (blk_kept t2 (blk_kept t1 (blk_drew GM2.out)))
      have rV1b := blk_cell (blk_kept t2 (blk_kept t1 (blk_drew GV1.out)))
      have rV2b := blk_cell (blk_kept t2 (blk_kept t1 (blk_drew GV2.out)))
      have rH1b := blk_cell (blk_kept t2 (blk_kept t1 (blk_drew GH1.out)))
      have rH2b := blk_cell (blk_kept t2 (blk_kept t1 (blk_drew GH2.out)))
      have KZ2 := hid (KU.out.trans (KZ1.out.trans t2))
      have cr2 := CQ.out _ (KZ1.out.trans t2)
      have c2 := conv_own10 o2
      refine hK.out _ _ (by go_keep) (fun hHeld => ?_)
      clear hK K
      try simp only [Act.put, List.getElem_toArray, List.getElem_cons_succ, List.getElem_cons_zero, List.setIfInBounds_toArray, List.set_cons_zero, List.set_cons_succ]
      refine wpAnyH_ready (rs := [26]) (by kernel_rfl) (by simp) ?_
      refine AllReadyH.cons rfl (fun K hK => ?_) AllReadyH.nil
      go_simp
      refine hK.out _ _ (by go_keep) (fun hHeld => ?_)
      clear hK K
      try simp only [Act.put, List.getElem_toArray, List.getElem_cons_succ, List.getElem_cons_zero, List.setIfInBounds_toArray, List.set_cons_zero, List.set_cons_succ]
      refine wpAnyH_take (i := 29) (v := ?_) rfl (by kernel_rfl) (by kernel_rfl) (by kernel_rfl) (fun _ _ _ h => h) (Or.inl ⟨by rfl, ?_⟩) (by assumption) ?_
      rotate_left
      · intro w hSw
        (try dsimp only at hSw)
        go_simp
        try with_reducible rfl
      simp only [Act.put, List.getElem_toArray, List.getElem_cons_succ, List.getElem_cons_zero, List.setIfInBounds_toArray, List.set_cons_zero, List.set_cons_succ]
      refine wpAnyH_take (i := 30) (v := ?_) rfl (by kernel_rfl) (by kernel_rfl) (by kernel_rfl) (fun _ _ _ h => h) (Or.inl ⟨by rfl, ?_⟩) (by assumption) ?_
      rotate_left
      · intro w hSw
        (try dsimp only at hSw)
        go_simp
        try with_reducible rfl
      simp only [Act.put, List.getElem_toArray, List.getElem_cons_succ, List.getElem_cons_zero, List.setIfInBounds_toArray, List.set_cons_zero, List.set_cons_succ]
      refine wpAnyH_take (i := 31) (v := ?_) rfl (by kernel_rfl) (by kernel_rfl) (by kernel_rfl) (fun _ _ _ h => h) (Or.inl ⟨by rfl, ?_⟩) (by assumption) ?_
      rotate_left
      · intro w hSw
        (try dsimp only at hSw)
        go_simp
        try with_reducible rfl
      simp only [Act.put, List.getElem_toArray, List.getElem_cons_succ, List.getElem_cons_zero, List.setIfInBounds_toArray, List.set_cons_zero, List.set_cons_succ]
      refine wpAnyH_take (i := 32) (v := ?_) rfl (by kernel_rfl) (by kernel_rfl) (by kernel_rfl) (fun _ _ _ h => h) (Or.inl ⟨by rfl, ?_⟩) (by assumption) ?_
      rotate_left
      · intro w hSw
        (try dsimp only at hSw)
        go_simp
        try with_reducible rfl
      simp only [Act.put, List.getElem_toArray, List.getElem_cons_succ, List.getElem_cons_zero, List.setIfInBounds_toArray, List.set_cons_zero, List.set_cons_succ]
      refine wpAnyH_take (i := 33) (v := ?_) rfl (by kernel_rfl) (by kernel_rfl) (by kernel_rfl) (fun _ _ _ h => h) (Or.inl ⟨by rfl, ?_⟩) (by assumption) ?_
      rotate_left
      · intro w hSw
        (try dsimp only at hSw)
        go_simp
        try with_reducible rfl
      simp only [Act.put, List.getElem_toArray, List.getElem_cons_succ, List.getElem_cons_zero, List.setIfInBounds_toArray, List.set_cons_zero, List.set_cons_succ]
      refine wpAnyH_take (i := 34) (v := ?_) rfl (by kernel_rfl) (by kernel_rfl) (by kernel_rfl) (fun _ _ _ h => h) (Or.inl ⟨by rfl, ?_⟩) (by assumption) ?_
      rotate_left
      · intro w hSw
        (try dsimp only at hSw)
        go_simp
        try with_reducible rfl
      simp only [Act.put, List.getElem_toArray, List.getElem_cons_succ, List.getElem_cons_zero, List.setIfInBounds_toArray, List.set_cons_zero, List.set_cons_succ]
      refine wpAnyH_take (i := 35) (v := ?_) rfl (by kernel_rfl) (by kernel_rfl) (by kernel_rfl) (fun _ _ _ h => h) (Or.inl ⟨by rfl, ?_⟩) (by assumption) ?_
      rotate_left
      · intro w hSw
        (try dsimp only at hSw)
        go_simp
        try with_reducible rfl
      simp only [Act.put, List.getElem_toArray, List.getElem_cons_succ, List.getElem_cons_zero, List.setIfInBounds_toArray, List.set_cons_zero, List.set_cons_succ]
      refine wpAnyH_take (i := 36) (v := ?_) rfl (by kernel_rfl) (by kernel_rfl) (by kernel_rfl) (fun _ _ _ h => h) (Or.inl ⟨by rfl, ?_⟩) (by assumption) ?_
      rotate_left
      · intro w hSw
        (try dsimp only at hSw)
        go_simp
        try with_reducible rfl
      simp only [Act.put, List.getElem_toArray, List.getElem_cons_succ, List.getElem_cons_zero, List.setIfInBounds_toArray, List.set_cons_zero, List.set_cons_succ]
      refine wpAnyH_take (i := 37) (v := ?_) rfl (by kernel_rfl) (by kernel_rfl) (by kernel_rfl) (fun _ _ _ h => h) (Or.inl ⟨by rfl, ?_⟩) (by assumption) ?_
      rotate_left
      · intro w hSw
        (try dsimp only at hSw)
        go_simp
        try with_reducible rfl
      simp only [Act.put, List.getElem_toArray, List.getElem_cons_succ, List.getElem_cons_zero, List.setIfInBounds_toArray, List.set_cons_zero, List.set_cons_succ]
      refine wpAnyH_take (i := 38) (v := ?_) rfl (by kernel_rfl) (by kernel_rfl) (by kernel_rfl) (fun _ _ _ h => h) (Or.inl ⟨by rfl, ?_⟩) (by assumption) ?_
      rotate_left
      · intro w hSw
        (try dsimp only at hSw)
        go_simp
        try with_reducible rfl
      simp only [Act.put, List.getElem_toArray, List.getElem_cons_succ, List.getElem_cons_zero, List.setIfInBounds_toArray, List.set_cons_zero, List.set_cons_succ]
      refine wpAnyH_take (i := 39) (v := ?_) rfl (by kernel_rfl) (by kernel_rfl) (by kernel_rfl) (fun _ _ _ h => h) (Or.inl ⟨by rfl, ?_⟩) (by assumption) ?_
      rotate_left
      · intro w hSw
        (try dsimp only at hSw)
        go_simp
        try with_reducible rfl
      simp only [Act.put, List.getElem_toArray, List.getElem_cons_succ, List.getElem_cons_zero, List.setIfInBounds_toArray, List.set_cons_zero, List.set_cons_succ]
      refine wpAnyH_take (i := 40) (v := ?_) rfl (by kernel_rfl) (by kernel_rfl) (by kernel_rfl) (fun _ _ _ h => h) (Or.inl ⟨by rfl, ?_⟩) (by assumption) ?_
      rotate_left
      · intro w hSw
        (try dsimp only at hSw)
        go_simp
        try with_reducible rfl
      simp only [Act.put, List.getElem_toArray, List.getElem_cons_succ, List.getElem_cons_zero, List.setIfInBounds_toArray, List.set_cons_zero, List.set_cons_succ]
      refine wpAnyH_take (i := 41) (v := ?_) rfl (by kernel_rfl) (by kernel_rfl) (by kernel_rfl) (fun _ _ _ h => h) (Or.inl ⟨by rfl, ?_⟩) (by assumption) ?_
      rotate_left
      · intro w hSw
        (try dsimp only at hSw)
        go_simp
        try with_reducible rfl
      simp only [Act.put, List.getElem_toArray, List.getElem_cons_succ, List.getElem_cons_zero, List.setIfInBounds_toArray, List.set_cons_zero, List.set_cons_succ]
      refine wpAnyH_take (i := 42) (v := ?_) rfl (by kernel_rfl) (by kernel_rfl) (by kernel_rfl) (fun _ _ _ h => h) (Or.inl ⟨by rfl, ?_⟩) (by assumption) ?_
      rotate_left
      · intro w hSw
        (try dsimp only at hSw)
        go_simp
        try with_reducible rfl
      simp only [Act.put, List.getElem_toArray, List.getElem_cons_succ, List.getElem_cons_zero, List.setIfInBounds_toArray, List.set_cons_zero, List.set_cons_succ]
      refine wpAnyH_take (i := 43) (v := ?_) rfl (by kernel_rfl) (by kernel_rfl) (by kernel_rfl) (fun _ _ _ h => h) (Or.inl ⟨by rfl, ?_⟩) (by assumption) ?_
      rotate_left
      · intro w hSw
        (try dsimp only at hSw)
        go_simp
        try with_reducible rfl
      simp only [Act.put, List.getElem_toArray, List.getElem_cons_succ, List.getElem_cons_zero, List.setIfInBounds_toArray, List.set_cons_zero, List.set_cons_succ]
      refine wpAnyH_take (i := 44) (v := ?_) rfl (by kernel_rfl) (by kernel_rfl) (by kernel_rfl) (fun _ _ _ h => h) (Or.inl ⟨by rfl, ?_⟩) (by assumption) ?_
      rotate_left
      · intro w hSw
        (try dsimp only at hSw)
        go_simp
        try with_reducible rfl
      simp only [Act.put, List.getElem_toArray, List.getElem_cons_succ, List.getElem_cons_zero, List.setIfInBounds_toArray, List.set_cons_zero, List.set_cons_succ]
      refine wpAnyH_take (i := 45) (v := ?_) rfl (by kernel_rfl) (by kernel_rfl) (by kernel_rfl) (fun _ _ _ h => h) (Or.inl ⟨by rfl, ?_⟩) (by assumption) ?_
      rotate_left
      · intro w hSw
        (try dsimp only at hSw)
        go_simp
        try with_reducible rfl
      simp only [Act.put, List.getElem_toArray, List.getElem_cons_succ, List.getElem_cons_zero, List.setIfInBounds_toArray, List.set_cons_zero, List.set_cons_succ]
      refine wpAnyH_take (i := 46) (v := ?_) rfl (by kernel_rfl) (by kernel_rfl) (by kernel_rfl) (fun _ _ _ h => h) (Or.inl ⟨by rfl, ?_⟩) (by assumption) ?_
      rotate_left
      · intro w hSw
        (try dsimp only at hSw)
        go_simp
        try with_reducible rfl
      simp only [Act.put, List.getElem_toArray, List.getElem_cons_succ, List.getElem_cons_zero, List.setIfInBounds_toArray, List.set_cons_zero, List.set_cons_succ]
      refine wpAnyH_done (by kernel_rfl) ?_ _
      go_wp2
      go_ret
      exact ⟨rfl, KZ2.out⟩
    · have dl : ((z2.length : Int) != ((saveS D).length : Int)) = true := by simp; omega
      obtain rfl : EE = 5 := F5b.2 hl
      clear hl F5b
      have M2 : Blk (((u9.alloc (.cells ([.int .i64 D.m.kind, .bool D.m.op, .int .u8 D.m.low, .int .u8 D.m.high, .int .u8 D.m.ram, .bool D.m.mode] : List Value).toArray 32)).alloc (.cells ([.int .u8 D.live.sec, .int .u8 D.live.min, .int .u8 D.live.hour, .int .u16 D.live.day, .bool D.live.halt, .bool D.live.carry] : List Value).toArray 34)).alloc (.cells ([.int .u8 D.held.sec, .int .u8 D.held.min, .int .u8 D.held.hour, .int .u16 D.held.day, .bool D.held.halt, .bool D.held.carry] : List Value).toArray 34)) u9.heap.size 32 [.int .i64 D.m.kind, .bool D.m.op, .int .u8 D.m.low, .int .u8 D.m.high, .int .u8 D.m.ram, .bool D.m.mode] := blk_past (blk_past (blk_new u9 _ _) _) _
      have V2 : Blk (((u9.alloc (.cells ([.int .i64 D.m.kind, .bool D.m.op, .int .u8 D.m.low, .int .u8 D.m.high, .int .u8 D.m.ram, .bool D.m.mode] : List Value).toArray 32)).alloc (.cells ([.int .u8 D.live.sec, .int .u8 D.live.min, .int .u8 D.live.hour, .int .u16 D.live.day, .bool D.live.halt, .bool D.live.carry] : List Value).toArray 34)).alloc (.cells ([.int .u8 D.held.sec, .int .u8 D.held.min, .int .u8 D.held.hour, .int .u16 D.held.day, .bool D.held.halt, .bool D.held.carry] : List Value).toArray 34)) (u9.heap.size + 1) 34 [.int .u8 D.live.sec, .int .u8 D.live.min, .int .u8 D.live.hour, .int .u16 D.live.day, .bool D.live.halt, .bool D.live.carry] := blk_past (by have h := blk_new (u9.alloc (.cells ([.int .i64 D.m.kind, .bool D.m.op, .int .u8 D.m.low, .int .u8 D.m.high, .int .u8 D.m.ram, .bool D.m.mode] : List Value).toArray 32)) [.int .u8 D.live.sec, .int .u8 D.live.min, .int .u8 D.live.hour, .int .u16 D.live.day, .bool D.live.halt, .bool D.live.carry] 34; rw [World.size_alloc] at h; exact h) _
      have H2 : Blk (((u9.alloc (.cells ([.int .i64 D.m.kind, .bool D.m.op, .int .u8 D.m.low, .int .u8 D.m.high, .int .u8 D.m.ram, .bool D.m.mode] : List Value).toArray 32)).alloc (.cells ([.int .u8 D.live.sec, .int .u8 D.live.min, .int .u8 D.live.hour, .int .u16 D.live.day, .bool D.live.halt, .bool D.live.carry] : List Value).toArray 34)).alloc (.cells ([.int .u8 D.held.sec, .int .u8 D.held.min, .int .u8 D.held.hour, .int .u16 D.held.day, .bool D.held.halt, .bool D.held.carry] : List Value).toArray 34)) (u9.heap.size + 1 + 1) 34 [.int .u8 D.held.sec, .int .u8 D.held.min, .int .u8 D.held.hour, .int .u16 D.held.day, .bool D.held.halt, .bool D.held.carry] := by have h := blk_new ((u9.alloc (.cells ([.int .i64 D.m.kind, .bool D.m.op, .int .u8 D.m.low, .int .u8 D.m.high, .int .u8 D.m.ram, .bool D.m.mode] : List Value).toArray 32)).alloc (.cells ([.int .u8 D.live.sec, .int .u8 D.live.min, .int .u8 D.live.hour, .int .u16 D.live.day, .bool D.live.halt, .bool D.live.carry] : List Value).toArray 34)) [.int .u8 D.held.sec, .int .u8 D.held.min, .int .u8 D.held.hour, .int .u16 D.held.day, .bool D.held.halt, .bool D.held.carry] 34; rw [World.size_alloc, World.size_alloc] at h; exact h
      have KA2 := hid (((Kept.refl u9).alloc (.cells ([.int .i64 D.m.kind, .bool D.m.op, .int .u8 D.m.low, .int .u8 D.m.high, .int .u8 D.m.ram, .bool D.m.mode] : List Value).toArray 32)).alloc (.cells ([.int .u8 D.live.sec, .int .u8 D.live.min, .int .u8 D.live.hour, .int .u16 D.live.day, .bool D.live.halt, .bool D.live.carry] : List Value).toArray 34) |>.alloc (.cells ([.int .u8 D.held.sec, .int .u8 D.held.min, .int .u8 D.held.hour, .int .u16 D.held.day, .bool D.held.halt, .bool D.held.carry] : List Value).toArray 34))
      have KU := hid (K9.out.trans KA2.out)
      have CU := hid (cart_kept C9.out KA2.out)
      have M1 : Blk (((u9.alloc (.cells ([.int .i64 D.m.kind, .bool D.m.op, .int .u8 D.m.low, .int .u8 D.m.high, .int .u8 D.m.ram, .bool D.m.mode] : List Value).toArray 32)).alloc (.cells ([.int .u8 D.live.sec, .int .u8 D.live.min, .int .u8 D.live.hour, .int .u16 D.live.day, .bool D.live.halt, .bool D.live.carry] : List Value).toArray 34)).alloc (.cells ([.int .u8 D.held.sec, .int .u8 D.held.min, .int .u8 D.held.hour, .int .u16 D.held.day, .bool D.held.halt, .bool D.held.carry] : List Value).toArray 34)) u6.heap.size 32 [.int .i64 D.m.kind, .bool D.m.op, .int .u8 D.m.low, .int .u8 D.m.high, .int .u8 D.m.ram, .bool D.m.mode] := blk_kept KA2.out M9.out
      have V1 : Blk (((u9.alloc (.cells ([.int .i64 D.m.kind, .bool D.m.op, .int .u8 D.m.low, .int .u8 D.m.high, .int .u8 D.m.ram, .bool D.m.mode] : List Value).toArray 32)).alloc (.cells ([.int .u8 D.live.sec, .int .u8 D.live.min, .int .u8 D.live.hour, .int .u16 D.live.day, .bool D.live.halt, .bool D.live.carry] : List Value).toArray 34)).alloc (.cells ([.int .u8 D.held.sec, .int .u8 D.held.min, .int .u8 D.held.hour, .int .u16 D.held.day, .bool D.held.halt, .bool D.held.carry] : List Value).toArray 34)) (u6.heap.size + 1) 34 [.int .u8 D.live.sec, .int .u8 D.live.min, .int .u8 D.live.hour, .int .u16 D.live.day, .bool D.live.halt, .bool D.live.carry] := blk_kept KA2.out V9.out
      have H1 : Blk (((u9.alloc (.cells ([.int .i64 D.m.kind, .bool D.m.op, .int .u8 D.m.low, .int .u8 D.m.high, .int .u8 D.m.ram, .bool D.m.mode] : List Value).toArray 32)).alloc (.cells ([.int .u8 D.live.sec, .int .u8 D.live.min, .int .u8 D.live.hour, .int .u16 D.live.day, .bool D.live.halt, .bool D.live.carry] : List Value).toArray 34)).alloc (.cells ([.int .u8 D.held.sec, .int .u8 D.held.min, .int .u8 D.held.hour, .int .u16 D.held.day, .bool D.held.halt, .bool D.held.carry] : List Value).toArray 34)) (u6.heap.size + 1 + 1) 34 [.int .u8 D.held.sec, .int .u8 D.held.min, .int .u8 D.held.hour, .int .u16 D.held.day, .bool D.held.halt, .bool D.held.carry] := blk_kept KA2.out H9.out
      have OU := hid (owns_kept KA2.out O9.out)
      clear KA2 M9 V9 H9 O9 C9
      go_wp2_with fail
      obtain ⟨UU, hU⟩ : ∃ W, (((u9.alloc (.cells ([.int .i64 D.m.kind, .bool D.m.op, .int .u8 D.m.low, .int .u8 D.m.high, .int .u8 D.m.ram, .bool D.m.mode] : List Value).toArray 32)).alloc (.cells ([.int .u8 D.live.sec, .int .u8 D.live.min, .int .u8 D.live.hour, .int .u16 D.live.day, .bool D.live.halt, .bool D.live.carry] : List Value).toArray 34)).alloc (.cells ([.int .u8 D.held.sec, .int .u8 D.held.min, .int .u8 D.held.hour, .int .u16 D.held.day, .bool D.held.halt, .bool D.held.carry] : List Value).toArray 34)) = W := ⟨_, rfl⟩
      rw [hU] at M1 M2 V1 V2 H1 H2 KU CU OU
      rw [show (((u9.alloc (.cells #[.int .i64 D.m.kind, .bool D.m.op, .int .u8 D.m.low, .int .u8 D.m.high, .int .u8 D.m.ram, .bool D.m.mode] 32)).alloc (.cells #[.int .u8 D.live.sec, .int .u8 D.live.min, .int .u8 D.live.hour, .int .u16 D.live.day, .bool D.live.halt, .bool D.live.carry] 34)).alloc (.cells #[.int .u8 D.held.sec, .int .u8 D.held.min, .int .u8 D.held.hour, .int .u16 D.held.day, .bool D.held.halt, .bool D.held.carry] 34)) = UU from hU]
      clear hU
      have CV := hid (fun u (g : Kept UU u) => conv_sl (sl_kept (KU.out.trans g) ZB.out))
      have CQ := hid (fun u (g : Kept UU u) => conv_own10 (owns_kept g OU.out))
      have cb0 := CV.out _ (Kept.refl UU).drew
      have cr0 := CQ.out _ (Kept.refl UU).drew
      have CHd := hid (fun u (g : Kept UU u) => khead_any D _ _ u (cart_kept CU.out g))
      simp only [hdVc] at CHd
      have FB := head_bat
      have GM1 := hid M1
      have rM1 := blk_cell M1
      have GM2 := hid M2
      have rM2 := blk_cell M2
      have GV1 := hid V1
      have rV1 := blk_cell V1
      have GV2 := hid V2
      have rV2 := blk_cell V2
      have GH1 := hid H1
      have rH1 := blk_cell H1
      have GH2 := hid H2
      have rH2 := blk_cell H2
      clear M1 M2 V1 V2 H1 H2
      have CRm := hid (fun u (g : Kept UU u) => kram_any D _ _ u (cart_kept CU.out g))
      clear cb0
      refine wp_region_held_drew (S := (fun w' => w'.cell? ⟨u6.heap.size, 0, none⟩ = some (.int .i64 D.m.kind) ∧ w'.cell? ⟨u6.heap.size, 1, none⟩ = some (.bool D.m.op) ∧ w'.cell? ⟨u6.heap.size, 2, none⟩ = some (.int .u8 D.m.low) ∧ w'.cell? ⟨u6.heap.size, 3, none⟩ = some (.int .u8 D.m.high) ∧ w'.cell? ⟨u6.heap.size, 4, none⟩ = some (.int .u8 D.m.ram) ∧ w'.cell? ⟨u6.heap.size, 5, none⟩ = some (.bool D.m.mode) ∧ w'.cell? ⟨u9.heap.size, 0, none⟩ = some (.int .i64 D.m.kind) ∧ w'.cell? ⟨u9.heap.size, 1, none⟩ = some (.bool D.m.op) ∧ w'.cell? ⟨u9.heap.size, 2, none⟩ = some (.int .u8 D.m.low) ∧ w'.cell? ⟨u9.heap.size, 3, none⟩ = some (.int .u8 D.m.high) ∧ w'.cell? ⟨u9.heap.size, 4, none⟩ = some (.int .u8 D.m.ram) ∧ w'.cell? ⟨u9.heap.size, 5, none⟩ = some (.bool D.m.mode) ∧ w'.cell? ⟨u6.heap.size + 1, 0, none⟩ = some (.int .u8 D.live.sec) ∧ w'.cell? ⟨u6.heap.size + 1, 1, none⟩ = some (.int .u8 D.live.min) ∧ w'.cell? ⟨u6.heap.size + 1, 2, none⟩ = some (.int .u8 D.live.hour) ∧ w'.cell? ⟨u6.heap.size + 1, 3, none⟩ = some (.int .u16 D.live.day) ∧ w'.cell? ⟨u6.heap.size + 1, 4, none⟩ = some (.bool D.live.halt) ∧ w'.cell? ⟨u6.heap.size + 1, 5, none⟩ = some (.bool D.live.carry) ∧ w'.cell? ⟨u9.heap.size + 1, 0, none⟩ = some (.int .u8 D.live.sec) ∧ w'.cell? ⟨u9.heap.size + 1, 1, none⟩ = some (.int .u8 D.live.min) ∧ w'.cell? ⟨u9.heap.size + 1, 2, none⟩ = some (.int .u8 D.live.hour) ∧ w'.cell? ⟨u9.heap.size + 1, 3, none⟩ = some (.int .u16 D.live.day) ∧ w'.cell? ⟨u9.heap.size + 1, 4, none⟩ = some (.bool D.live.halt) ∧ w'.cell? ⟨u9.heap.size + 1, 5, none⟩ = some (.bool D.live.carry) ∧ w'.cell? ⟨u6.heap.size + 1 + 1, 0, none⟩ = some (.int .u8 D.held.sec) ∧ w'.cell? ⟨u6.heap.size + 1 + 1, 1, none⟩ = some (.int .u8 D.held.min) ∧ w'.cell? ⟨u6.heap.size + 1 + 1, 2, none⟩ = some (.int .u8 D.held.hour) ∧ w'.cell? ⟨u6.heap.size + 1 + 1, 3, none⟩ = some (.int .u16 D.held.day) ∧ w'.cell? ⟨u6.heap.size + 1 + 1, 4, none⟩ = some (.bool D.held.halt) ∧ w'.cell? ⟨u6.heap.size + 1 + 1, 5, none⟩ = some (.bool D.held.carry) ∧ w'.cell? ⟨u9.heap.size + 1 + 1, 0, none⟩ = some (.int .u8 D.held.sec) ∧ w'.cell? ⟨u9.heap.size + 1 + 1, 1, none⟩ = some (.int .u8 D.held.min) ∧ w'.cell? ⟨u9.heap.size + 1 + 1, 2, none⟩ = some (.int .u8 D.held.hour) ∧ w'.cell? ⟨u9.heap.size + 1 + 1, 3, none⟩ = some (.int .u16 D.held.day) ∧ w'.cell? ⟨u9.heap.size + 1 + 1, 4, none⟩ = some (.bool D.held.halt) ∧ w'.cell? ⟨u9.heap.size + 1 + 1, 5, none⟩ = some (.bool D.held.carry) ∧ (convert 22 9 r5).run Tryd.prog w' = .ok (.string (strB D.ram)) w')) (by kernel_rfl) (by go_keep) (fun hHeld => ?_)
      refine wpAnyH_take (i := 0) (v := ?_) rfl (by kernel_rfl) (by kernel_rfl) (by kernel_rfl) (fun _ _ _ h => h) (Or.inl ⟨by rfl, ?_⟩) (by assumption) ?_
      rotate_left
      · intro w hSw
        (try dsimp only at hSw)
        go_simp
        try with_reducible rfl
      simp only [Act.put, List.getElem_toArray, List.getElem_cons_succ, List.getElem_cons_zero, List.setIfInBounds_toArray, List.set_cons_zero, List.set_cons_succ]
      refine wpAnyH_take (i := 1) (v := ?_) rfl (by kernel_rfl) (by kernel_rfl) (by kernel_rfl) (fun _ _ _ h => h) (Or.inl ⟨by rfl, ?_⟩) (by assumption) ?_
      rotate_left
      · intro w hSw
        (try dsimp only at hSw)
        go_simp
        try with_reducible rfl
      simp only [Act.put, List.getElem_toArray, List.getElem_cons_succ, List.getElem_cons_zero, List.setIfInBounds_toArray, List.set_cons_zero, List.set_cons_succ]
      refine wpAnyH_take (i := 2) (v := ?_) rfl (by kernel_rfl) (by kernel_rfl) (by kernel_rfl) (fun _ _ _ h => h) (Or.inl ⟨by rfl, ?_⟩) (by assumption) ?_
      rotate_left
      · intro w hSw
        (try dsimp only at hSw)
        go_simp
        try with_reducible rfl
      simp only [Act.put, List.getElem_toArray, List.getElem_cons_succ, List.getElem_cons_zero, List.setIfInBounds_toArray, List.set_cons_zero, List.set_cons_succ]
      refine wpAnyH_take (i := 3) (v := ?_) rfl (by kernel_rfl) (by kernel_rfl) (by kernel_rfl) (fun _ _ _ h => h) (Or.inl ⟨by rfl, ?_⟩) (by assumption) ?_
      rotate_left
      · intro w hSw
        (try dsimp only at hSw)
        go_simp
        try with_reducible rfl
      simp only [Act.put, List.getElem_toArray, List.getElem_cons_succ, List.getElem_cons_zero, List.setIfInBounds_toArray, List.set_cons_zero, List.set_cons_succ]
      refine wpAnyH_take (i := 4) (v := ?_) rfl (by kernel_rfl) (by kernel_rfl) (by kernel_rfl) (fun _ _ _ h => h) (Or.inl ⟨by rfl, ?_⟩) (by assumption) ?_
      rotate_left
      · intro w hSw
        (try dsimp only at hSw)
        go_simp
        try with_reducible rfl
      simp only [Act.put, List.getElem_toArray, List.getElem_cons_succ, List.getElem_cons_zero, List.setIfInBounds_toArray, List.set_cons_zero, List.set_cons_succ]
      refine wpAnyH_ready (rs := [5]) (by kernel_rfl) (by simp) ?_
      refine AllReadyH.cons rfl (fun K hK => ?_) AllReadyH.nil
      go_simp
      refine (CHd.out _ (Kept.refl _).drew).mono ?_
      rintro e v1 ⟨rfl, t1⟩
      have rM1a := blk_cell (blk_kept t1 (blk_drew GM1.out))
      have rM2a := blk_cell (blk_kept t1 (blk_drew GM2.out))
      have rV1a := blk_cell (blk_kept t1 (blk_drew GV1.out))
      have rV2a := blk_cell (blk_kept t1 (blk_drew GV2.out))
      have rH1a := blk_cell (blk_kept t1 (blk_drew GH1.out))
      have rH2a := blk_cell (blk_kept t1 (blk_drew GH2.out))
      have KZ1 := hid ((Kept.refl UU).drew.trans t1)
      have cr1 := CQ.out _ KZ1.out
      refine hK.out _ _ (by go_keep) (fun hHeld => ?_)
      clear hK K
      try simp only [Act.put, List.getElem_toArray, List.getElem_cons_succ, List.getElem_cons_zero, List.setIfInBounds_toArray, List.set_cons_zero, List.set_cons_succ]
      refine wpAnyH_take (i := 6) (v := ?_) rfl (by kernel_rfl) (by kernel_rfl) (by kernel_rfl) (fun _ _ _ h => h) (Or.inl ⟨by rfl, ?_⟩) (by assumption) ?_
      rotate_left
      · intro w hSw
        (try dsimp only at hSw)
        go_simp
        try with_reducible rfl
      simp only [Act.put, List.getElem_toArray, List.getElem_cons_succ, List.getElem_cons_zero, List.setIfInBounds_toArray, List.set_cons_zero, List.set_cons_succ]
      refine wpAnyH_take (i := 7) (v := ?_) rfl (by kernel_rfl) (by kernel_rfl) (by kernel_rfl) (fun _ _ _ h => h) (Or.inl ⟨by rfl, ?_⟩) (by assumption) ?_
      rotate_left
      · intro w hSw
        (try dsimp only at hSw)
        go_simp
        try with_reducible rfl
      simp only [Act.put, List.getElem_toArray, List.getElem_cons_succ, List.getElem_cons_zero, List.setIfInBounds_toArray, List.set_cons_zero, List.set_cons_succ]
      refine wpAnyH_take (i := 8) (v := ?_) rfl (by kernel_rfl) (by kernel_rfl) (by kernel_rfl) (fun _ _ _ h => h) (Or.inl ⟨by rfl, ?_⟩) (by assumption) ?_
      rotate_left
      · intro w hSw
        (try dsimp only at hSw)
        go_simp
        try with_reducible rfl
      simp only [Act.put, List.getElem_toArray, List.getElem_cons_succ, List.getElem_cons_zero, List.setIfInBounds_toArray, List.set_cons_zero, List.set_cons_succ]
      refine wpAnyH_take (i := 9) (v := ?_) rfl (by kernel_rfl) (by kernel_rfl) (by kernel_rfl) (fun _ _ _ h => h) (Or.inl ⟨by rfl, ?_⟩) (by assumption) ?_
      rotate_left
      · intro w hSw
        (try dsimp only at hSw)
        go_simp
        try with_reducible rfl
      simp only [Act.put, List.getElem_toArray, List.getElem_cons_succ, List.getElem_cons_zero, List.setIfInBounds_toArray, List.set_cons_zero, List.set_cons_succ]
      refine wpAnyH_take (i := 10) (v := ?_) rfl (by kernel_rfl) (by kernel_rfl) (by kernel_rfl) (fun _ _ _ h => h) (Or.inl ⟨by rfl, ?_⟩) (by assumption) ?_
      rotate_left
      · intro w hSw
        (try dsimp only at hSw)
        go_simp
        try with_reducible rfl
      simp only [Act.put, List.getElem_toArray, List.getElem_cons_succ, List.getElem_cons_zero, List.setIfInBounds_toArray, List.set_cons_zero, List.set_cons_succ]
      refine wpAnyH_take (i := 11) (v := ?_) rfl (by kernel_rfl) (by kernel_rfl) (by kernel_rfl) (fun _ _ _ h => h) (Or.inl ⟨by rfl, ?_⟩) (by assumption) ?_
      rotate_left
      · intro w hSw
        (try dsimp only at hSw)
        go_simp
        try with_reducible rfl
      simp only [Act.put, List.getElem_toArray, List.getElem_cons_succ, List.getElem_cons_zero, List.setIfInBounds_toArray, List.set_cons_zero, List.set_cons_succ]
      refine wpAnyH_take (i := 12) (v := ?_) rfl (by kernel_rfl) (by kernel_rfl) (by kernel_rfl) (fun _ _ _ h => h) (Or.inl ⟨by rfl, ?_⟩) (by assumption) ?_
      rotate_left
      · intro w hSw
        (try dsimp only at hSw)
        go_simp
        try with_reducible rfl
      simp only [Act.put, List.getElem_toArray, List.getElem_cons_succ, List.getElem_cons_zero, List.setIfInBounds_toArray, List.set_cons_zero, List.set_cons_succ]
      refine wpAnyH_take (i := 13) (v := ?_) rfl (by kernel_rfl) (by kernel_rfl) (by kernel_rfl) (fun _ _ _ h => h) (Or.inl ⟨by rfl, ?_⟩) (by assumption) ?_
      rotate_left
      · intro w hSw
        (try dsimp only at hSw)
        go_simp
        try with_reducible rfl
      simp only [Act.put, List.getElem_toArray, List.getElem_cons_succ, List.getElem_cons_zero, List.setIfInBounds_toArray, List.set_cons_zero, List.set_cons_succ]
      refine wpAnyH_take (i := 14) (v := ?_) rfl (by kernel_rfl) (by kernel_rfl) (by kernel_rfl) (fun _ _ _ h => h) (Or.inl ⟨by rfl, ?_⟩) (by assumption) ?_
      rotate_left
      · intro w hSw
        (try dsimp only at hSw)
        go_simp
        try with_reducible rfl
      simp only [Act.put, List.getElem_toArray, List.getElem_cons_succ, List.getElem_cons_zero, List.setIfInBounds_toArray, List.set_cons_zero, List.set_cons_succ]
      refine wpAnyH_take (i := 15) (v := ?_) rfl (by kernel_rfl) (by kernel_rfl) (by kernel_rfl) (fun _ _ _ h => h) (Or.inl ⟨by rfl, ?_⟩) (by assumption) ?_
      rotate_left
      · intro w hSw
        (try dsimp only at hSw)
        go_simp
        try with_reducible rfl
      simp only [Act.put, List.getElem_toArray, List.getElem_cons_succ, List.getElem_cons_zero, List.setIfInBounds_toArray, List.set_cons_zero, List.set_cons_succ]
      refine wpAnyH_take (i := 16) (v := ?_) rfl (by kernel_rfl) (by kernel_rfl) (by kernel_rfl) (fun _ _ _ h => h) (Or.inl ⟨by rfl, ?_⟩) (by assumption) ?_
      rotate_left
      · intro w hSw
        (try dsimp only at hSw)
        go_simp
        try with_reducible rfl
      simp only [Act.put, List.getElem_toArray, List.getElem_cons_succ, List.getElem_cons_zero, List.setIfInBounds_toArray, List.set_cons_zero, List.set_cons_succ]
      refine wpAnyH_take (i := 17) (v := ?_) rfl (by kernel_rfl) (by kernel_rfl) (by kernel_rfl) (fun _ _ _ h => h) (Or.inl ⟨by rfl, ?_⟩) (by assumption) ?_
      rotate_left
      · intro w hSw
        (try dsimp only at hSw)
        go_simp
        try with_reducible rfl
      simp only [Act.put, List.getElem_toArray, List.getElem_cons_succ, List.getElem_cons_zero, List.setIfInBounds_toArray, List.set_cons_zero, List.set_cons_succ]
      refine wpAnyH_take (i := 18) (v := ?_) rfl (by kernel_rfl) (by kernel_rfl) (by kernel_rfl) (fun _ _ _ h => h) (Or.inl ⟨by rfl, ?_⟩) (by assumption) ?_
      rotate_left
      · intro w hSw
        (try dsimp only at hSw)
        go_simp
        try with_reducible rfl
      simp only [Act.put, List.getElem_toArray, List.getElem_cons_succ, List.getElem_cons_zero, List.setIfInBounds_toArray, List.set_cons_zero, List.set_cons_succ]
      refine wpAnyH_take (i := 19) (v := ?_) rfl (by kernel_rfl) (by kernel_rfl) (by kernel_rfl) (fun _ _ _ h => h) (Or.inl ⟨by rfl, ?_⟩) (by assumption) ?_
      rotate_left
      · intro w hSw
        (try dsimp only at hSw)
        go_simp
        try with_reducible rfl
      simp only [Act.put, List.getElem_toArray, List.getElem_cons_succ, List.getElem_cons_zero, List.setIfInBounds_toArray, List.set_cons_zero, List.set_cons_succ]
      refine wpAnyH_take (i := 20) (v := ?_) rfl (by kernel_rfl) (by kernel_rfl) (by kernel_rfl) (fun _ _ _ h => h) (Or.inl ⟨by rfl, ?_⟩) (by assumption) ?_
      rotate_left
      · intro w hSw
        (try dsimp only at hSw)
        go_simp
        try with_reducible rfl
      simp only [Act.put, List.getElem_toArray, List.getElem_cons_succ, List.getElem_cons_zero, List.setIfInBounds_toArray, List.set_cons_zero, List.set_cons_succ]
      refine wpAnyH_take (i := 21) (v := ?_) rfl (by kernel_rfl) (by kernel_rfl) (by kernel_rfl) (fun _ _ _ h => h) (Or.inl ⟨by rfl, ?_⟩) (by assumption) ?_
      rotate_left
      · intro w hSw
        (try dsimp only at hSw)
        go_simp
        try with_reducible rfl
      simp only [Act.put, List.getElem_toArray, List.getElem_cons_succ, List.getElem_cons_zero, List.setIfInBounds_toArray, List.set_cons_zero, List.set_cons_succ]
      refine wpAnyH_take (i := 22) (v := ?_) rfl (by kernel_rfl) (by kernel_rfl) (by kernel_rfl) (fun _ _ _ h => h) (Or.inl ⟨by rfl, ?_⟩) (by assumption) ?_
      rotate_left
      · intro w hSw
        (try dsimp only at hSw)
        go_simp
        try with_reducible rfl
      simp only [Act.put, List.getElem_toArray, List.getElem_cons_succ, List.getElem_cons_zero, List.setIfInBounds_toArray, List.set_cons_zero, List.set_cons_succ]
      refine wpAnyH_take (i := 23) (v := ?_) rfl (by kernel_rfl) (by kernel_rfl) (by kernel_rfl) (fun _ _ _ h => h) (Or.inl ⟨by rfl, ?_⟩) (by assumption) ?_
      rotate_left
      · intro w hSw
        (try dsimp only at hSw)
        go_simp
        try with_reducible rfl
      simp only [Act.put, List.getElem_toArray, List.getElem_cons_succ, List.getElem_cons_zero, List.setIfInBounds_toArray, List.set_cons_zero, List.set_cons_succ]
      refine wpAnyH_take (i := 24) (v := ?_) rfl (by kernel_rfl) (by kernel_rfl) (by kernel_rfl) (fun _ _ _ h => h) (Or.inl ⟨by rfl, ?_⟩) (by assumption) ?_
      rotate_left
      · intro w hSw
        (try dsimp only at hSw)
        go_simp
        try with_reducible rfl
      simp only [Act.put, List.getElem_toArray, List.getElem_cons_succ, List.getElem_cons_zero, List.setIfInBounds_toArray, List.set_cons_zero, List.set_cons_succ]
      refine wpAnyH_take (i := 27) (v := ?_) rfl (by kernel_rfl) (by kernel_rfl) (by kernel_rfl) (fun _ _ _ h => h) (Or.inl ⟨by rfl, ?_⟩) (by assumption) ?_
      rotate_left
      · intro w hSw
        (try dsimp only at hSw)
        go_simp
        try with_reducible rfl
      simp only [Act.put, List.getElem_toArray, List.getElem_cons_succ, List.getElem_cons_zero, List.setIfInBounds_toArray, List.set_cons_zero, List.set_cons_succ]
      refine wpAnyH_take (i := 28) (v := ?_) rfl (by kernel_rfl) (by kernel_rfl) (by kernel_rfl) (fun _ _ _ h => h) (Or.inl ⟨by rfl, ?_⟩) (by assumption) ?_
      rotate_left
      · intro w hSw
        (try dsimp only at hSw)
        go_simp
        try with_reducible rfl
      simp only [Act.put, List.getElem_toArray, List.getElem_cons_succ, List.getElem_cons_zero, List.setIfInBounds_toArray, List.set_cons_zero, List.set_cons_succ]
      refine wpAnyH_ready (rs := [25]) (by kernel_rfl) (by simp) ?_
      refine AllReadyH.cons rfl (fun K hK => ?_) AllReadyH.nil
      go_simp
      refine (CRm.out _ KZ1.out).mono ?_
      rintro e v2 ⟨r2, rfl, o2, t2⟩
      have rM1b := blk_cell (blk_kept t2 (blk_kept t1 (blk_drew GM1.out)))
      have rM2b := blk_cell (blk_kept t2 (blk_kept t1 (blk_drew GM2.out)))
      have rV1b := blk_cell (blk_kept t2 (blk_kept t1 (blk_drew GV1.out)))
      have rV2b := blk_cell (blk_kept t2 (blk_kept t1 (blk_drew GV2.out)))
      have rH1b := blk_cell (blk_kept t2 (blk_kept t1 (blk_drew GH1.out)))
      have rH2b := blk_cell (blk_kept t2 (blk_kept t1 (blk_drew GH2.out)))
      have KZ2 := hid (KU.out.trans (KZ1.out.trans t2))
      have cr2 := CQ.out _ (KZ1.out.trans t2)
      have c2 := conv_own10 o2
      refine hK.out _ _ (by go_keep) (fun hHeld => ?_)
      clear hK K
      try simp only [Act.put, List.getElem_toArray, List.getElem_cons_succ, List.getElem_cons_zero, List.setIfInBounds_toArray, List.set_cons_zero, List.set_cons_succ]
      refine wpAnyH_ready (rs := [26]) (by kernel_rfl) (by simp) ?_
      refine AllReadyH.cons rfl (fun K hK => ?_) AllReadyH.nil
      go_simp
      refine hK.out _ _ (by go_keep) (fun hHeld => ?_)
      clear hK K
      try simp only [Act.put, List.getElem_toArray, List.getElem_cons_succ, List.getElem_cons_zero, List.setIfInBounds_toArray, List.set_cons_zero, List.set_cons_succ]
      refine wpAnyH_take (i := 29) (v := ?_) rfl (by kernel_rfl) (by kernel_rfl) (by kernel_rfl) (fun _ _ _ h => h) (Or.inl ⟨by rfl, ?_⟩) (by assumption) ?_
      rotate_left
      · intro w hSw
        (try dsimp only at hSw)
        go_simp
        try with_reducible rfl
      simp only [Act.put, List.getElem_toArray, List.getElem_cons_succ, List.getElem_cons_zero, List.setIfInBounds_toArray, List.set_cons_zero, List.set_cons_succ]
      refine wpAnyH_take (i := 30) (v := ?_) rfl (by kernel_rfl) (by kernel_rfl) (by kernel_rfl) (fun _ _ _ h => h) (Or.inl ⟨by rfl, ?_⟩) (by assumption) ?_
      rotate_left
      · intro w hSw
        (try dsimp only at hSw)
        go_simp
        try with_reducible rfl
      simp only [Act.put, List.getElem_toArray, List.getElem_cons_succ, List.getElem_cons_zero, List.setIfInBounds_toArray, List.set_cons_zero, List.set_cons_succ]
      refine wpAnyH_take (i := 31) (v := ?_) rfl (by kernel_rfl) (by kernel_rfl) (by kernel_rfl) (fun _ _ _ h => h) (Or.inl ⟨by rfl, ?_⟩) (by assumption) ?_
      rotate_left
      · intro w hSw
        (try dsimp only at hSw)
        go_simp
        try with_reducible rfl
      simp only [Act.put, List.getElem_toArray, List.getElem_cons_succ, List.getElem_cons_zero, List.setIfInBounds_toArray, List.set_cons_zero, List.set_cons_succ]
      refine wpAnyH_take (i := 32) (v := ?_) rfl (by kernel_rfl) (by kernel_rfl) (by kernel_rfl) (fun _ _ _ h => h) (Or.inl ⟨by rfl, ?_⟩) (by assumption) ?_
      rotate_left
      · intro w hSw
        (try dsimp only at hSw)
        go_simp
        try with_reducible rfl
      simp only [Act.put, List.getElem_toArray, List.getElem_cons_succ, List.getElem_cons_zero, List.setIfInBounds_toArray, List.set_cons_zero, List.set_cons_succ]
      refine wpAnyH_take (i := 33) (v := ?_) rfl (by kernel_rfl) (by kernel_rfl) (by kernel_rfl) (fun _ _ _ h => h) (Or.inl ⟨by rfl, ?_⟩) (by assumption) ?_
      rotate_left
      · intro w hSw
        (try dsimp only at hSw)
        go_simp
        try with_reducible rfl
      simp only [Act.put, List.getElem_toArray, List.getElem_cons_succ, List.getElem_cons_zero, List.setIfInBounds_toArray, List.set_cons_zero, List.set_cons_succ]
      refine wpAnyH_take (i := 34) (v := ?_) rfl (by kernel_rfl) (by kernel_rfl) (by kernel_rfl) (fun _ _ _ h => h) (Or.inl ⟨by rfl, ?_⟩) (by assumption) ?_
      rotate_left
      · intro w hSw
        (try dsimp only at hSw)
        go_simp
        try with_reducible rfl
      simp only [Act.put, List.getElem_toArray, List.getElem_cons_succ, List.getElem_cons_zero, List.setIfInBounds_toArray, List.set_cons_zero, List.set_cons_succ]
      refine wpAnyH_take (i := 35) (v := ?_) rfl (by kernel_rfl) (by kernel_rfl) (by kernel_rfl) (fun _ _ _ h => h) (Or.inl ⟨by rfl, ?_⟩) (by assumption) ?_
      rotate_left
      · intro w hSw
        (try dsimp only at hSw)
        go_simp
        try with_reducible rfl
      simp only [Act.put, List.getElem_toArray, List.getElem_cons_succ, List.getElem_cons_zero, List.setIfInBounds_toArray, List.set_cons_zero, List.set_cons_succ]
      refine wpAnyH_take (i := 36) (v := ?_) rfl (by kernel_rfl) (by kernel_rfl) (by kernel_rfl) (fun _ _ _ h => h) (Or.inl ⟨by rfl, ?_⟩) (by assumption) ?_
      rotate_left
      · intro w hSw
        (try dsimp only at hSw)
        go_simp
        try with_reducible rfl
      simp only [Act.put, List.getElem_toArray, List.getElem_cons_succ, List.getElem_cons_zero, List.setIfInBounds_toArray, List.set_cons_zero, List.set_cons_succ]
      refine wpAnyH_take (i := 37) (v := ?_) rfl (by kernel_rfl) (by kernel_rfl) (by kernel_rfl) (fun _ _ _ h => h) (Or.inl ⟨by rfl, ?_⟩) (by assumption) ?_
      rotate_left
      · intro w hSw
        (try dsimp only at hSw)
        go_simp
        try with_reducible rfl
      simp only [Act.put, List.getElem_toArray, List.getElem_cons_succ, List.getElem_cons_zero, List.setIfInBounds_toArray, List.set_cons_zero, List.set_cons_succ]
      refine wpAnyH_take (i := 38) (v := ?_) rfl (by kernel_rfl) (by kernel_rfl) (by kernel_rfl) (fun _ _ _ h => h) (Or.inl ⟨by rfl, ?_⟩) (by assumption) ?_
      rotate_left
      · intro w hSw
        (try dsimp only at hSw)
        go_simp
        try with_reducible rfl
      simp only [Act.put, List.getElem_toArray, List.getElem_cons_succ, List.getElem_cons_zero, List.setIfInBounds_toArray, List.set_cons_zero, List.set_cons_succ]
      refine wpAnyH_take (i := 39) (v := ?_) rfl (by kernel_rfl) (by kernel_rfl) (by kernel_rfl) (fun _ _ _ h => h) (Or.inl ⟨by rfl, ?_⟩) (by assumption) ?_
      rotate_left
      · intro w hSw
        (try dsimp only at hSw)
        go_simp
        try with_reducible rfl
      simp only [Act.put, List.getElem_toArray, List.getElem_cons_succ, List.getElem_cons_zero, List.setIfInBounds_toArray, List.set_cons_zero, List.set_cons_succ]
      refine wpAnyH_take (i := 40) (v := ?_) rfl (by kernel_rfl) (by kernel_rfl) (by kernel_rfl) (fun _ _ _ h => h) (Or.inl ⟨by rfl, ?_⟩) (by assumption) ?_
      rotate_left
      · intro w hSw
        (try dsimp only at hSw)
        go_simp
        try with_reducible rfl
      simp only [Act.put, List.getElem_toArray, List.getElem_cons_succ, List.getElem_cons_zero, List.setIfInBounds_toArray, List.set_cons_zero, List.set_cons_succ]
      refine wpAnyH_take (i := 41) (v := ?_) rfl (by kernel_rfl) (by kernel_rfl) (by kernel_rfl) (fun _ _ _ h => h) (Or.inl ⟨by rfl, ?_⟩) (by assumption) ?_
      rotate_left
      · intro w hSw
        (try dsimp only at hSw)
        go_simp
        try with_reducible rfl
      simp only [Act.put, List.getElem_toArray, List.getElem_cons_succ, List.getElem_cons_zero, List.setIfInBounds_toArray, List.set_cons_zero, List.set_cons_succ]
      refine wpAnyH_take (i := 42) (v := ?_) rfl (by kernel_rfl) (by kernel_rfl) (by kernel_rfl) (fun _ _ _ h => h) (Or.inl ⟨by rfl, ?_⟩) (by assumption) ?_
      rotate_left
      · intro w hSw
        (try dsimp only at hSw)
        go_simp
        try with_reducible rfl
      simp only [Act.put, List.getElem_toArray, List.getElem_cons_succ, List.getElem_cons_zero, List.setIfInBounds_toArray, List.set_cons_zero, List.set_cons_succ]
      refine wpAnyH_take (i := 43) (v := ?_) rfl (by kernel_rfl) (by kernel_rfl) (by kernel_rfl) (fun _ _ _ h => h) (Or.inl ⟨by rfl, ?_⟩) (by assumption) ?_
      rotate_left
      · intro w hSw
        (try dsimp only at hSw)
        go_simp
        try with_reducible rfl
      simp only [Act.put, List.getElem_toArray, List.getElem_cons_succ, List.getElem_cons_zero, List.setIfInBounds_toArray, List.set_cons_zero, List.set_cons_succ]
      refine wpAnyH_take (i := 44) (v := ?_) rfl (by kernel_rfl) (by kernel_rfl) (by kernel_rfl) (fun _ _ _ h => h) (Or.inl ⟨by rfl, ?_⟩) (by assumption) ?_
      rotate_left
      · intro w hSw
        (try dsimp only at hSw)
        go_simp
        try with_reducible rfl
      simp only [Act.put, List.getElem_toArray, List.getElem_cons_succ, List.getElem_cons_zero, List.setIfInBounds_toArray, List.set_cons_zero, List.set_cons_succ]
      refine wpAnyH_take (i := 45) (v := ?_) rfl (by kernel_rfl) (by kernel_rfl) (by kernel_rfl) (fun _ _ _ h => h) (Or.inl ⟨by rfl, ?_⟩) (by assumption) ?_
      rotate_left
      · intro w hSw
        (try dsimp only at hSw)
        go_simp
        try with_reducible rfl
      simp only [Act.put, List.getElem_toArray, List.getElem_cons_succ, List.getElem_cons_zero, List.setIfInBounds_toArray, List.set_cons_zero, List.set_cons_succ]
      refine wpAnyH_take (i := 46) (v := ?_) rfl (by kernel_rfl) (by kernel_rfl) (by kernel_rfl) (fun _ _ _ h => h) (Or.inl ⟨by rfl, ?_⟩) (by assumption) ?_
      rotate_left
      · intro w hSw
        (try dsimp only at hSw)
        go_simp
        try with_reducible rfl
      simp only [Act.put, List.getElem_toArray, List.getElem_cons_succ, List.getElem_cons_zero, List.setIfInBounds_toArray, List.set_cons_zero, List.set_cons_succ]
      refine wpAnyH_done (by kernel_rfl) ?_ _
      go_wp2
      go_ret
      exact ⟨rfl, KZ2.out⟩
end Go.Proofs.YtfmddnekooojkaaDoor
