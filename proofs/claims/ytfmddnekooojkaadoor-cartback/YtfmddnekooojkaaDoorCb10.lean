/- CartBack, as a walk. -/
import Derived.Test.YtfmddnekooojkaaDoorG40
namespace Go.Proofs.YtfmddnekooojkaaDoor
open Go.RowKit
set_option linter.unusedVariables false
set_option linter.unusedSimpArgs false

set_option maxRecDepth 100000 in
set_option maxHeartbeats 8000000 in
theorem back_any (a0 : Option Addr) (cap0 : Nat) (z0 : List Int) (a1 : Option Addr) (cap1 : Nat) (s1 : List Ac) (a2 : Option Addr) (cap2 : Nat) (s2 : List Ac) (w : World) (lay : Lay7 w) (r0 : Row w a0 z0) (l0 : z0.length ≤ cap0) (m0 : cap0 ≤ maxLen) (n0 : a0 = none → cap0 = 0)
    (r1 : FRow w a1 4 (s1.map elA)) (q1 : ∀ x ∈ s1, AcIn w x) (l1 : s1.length ≤ cap1) (m1 : cap1 ≤ maxLen) (r2 : FRow w a2 4 (s2.map elA)) (q2 : ∀ x ∈ s2, AcIn w x) (l2 : s2.length ≤ cap2) (m2 : cap2 ≤ maxLen) :
    Calls Tryd.prog 4 #[.slice a0 z0.length cap0, .slice a1 s1.length cap1, .slice a2 s2.length cap2] w fun e w' => e = .returned (.bool true) ∧ Kept w w' := by
  have SH := hid (kshown_any w lay)
  have SB : Sl w a0 cap0 z0 := ⟨r0, l0, m0, n0⟩
  have CN := hid (fun u (g : Kept w u) => knew_any z0 a0 cap0 u (lay.kept g) (sl_kept g SB))
  have CD1 := hid (fun s v F u (h : CartAt u s v F) (g : Kept w u) (lf : ∀ k, F k → w.heap.size ≤ k) => kdoes_any s v F a1 cap1 s1 w u h g lf r1 q1 l1 m1)
  have CD2 := hid (fun s v F u (h : CartAt u s v F) (g : Kept w u) (lf : ∀ k, F k → w.heap.size ≤ k) => kdoes_any s v F a2 cap2 s2 w u h g lf r2 q2 l2 m2)
  have IV1 := hid (iv_does (iv_new z0) s1 q1)
  have IV2 := hid (iv_does (iv_new z0) s2 q2)
  have NI := hid (new_is z0)
  have NO : parseE z0 ≠ 0 → (newC z0).is = false := fun h => by unfold newC; rw [if_neg h]; rfl
  have NO := hid NO
  clear r0 r1 q1 r2 q2 lay SB
  generalize newC z0 = S0 at *
  generalize parseE z0 = P at *
  go_enter Tryd.func4, Tryd.ntmps4
  go_wp2_with fail
  refine SH.out.mono ?_
  rintro e u1 ⟨rfl, k1⟩
  have K1 := hid k1
  clear k1
  go_wp2_with fail
  refine (CN.out _ K1.out).mono ?_
  rintro e u2 ⟨v, F2, rfl, hv, c2, f2, k2⟩
  have C2 := hid c2
  have L2 : ∀ k, F2 k → w.heap.size ≤ k := fun k q => Nat.le_trans K1.out.size (f2 k q)
  have L2 := hid L2
  have K2 := hid (K1.out.trans k2)
  have HV := hid hv
  clear c2 f2 k2 hv
  go_wp2_with fail
  refine (CN.out _ K2.out).mono ?_
  rintro e u3 ⟨vd, F3, rfl, hd, c3, f3, k3⟩
  have T3 := hid (two_new K2.out C2.out L2.out k3 c3 f3)
  have HD := hid hd
  clear c3 f3 k3 hd K1 K2 C2 L2 CN SH
  rcases HV.out with ⟨hP, rfl⟩ | ⟨hP, p, rfl⟩
  · obtain rfl : vd = .pointer none := by
      rcases HD.out with ⟨_, q⟩ | ⟨q, _⟩
      · exact q
      · exact absurd q hP
    have dP : (P != 0) = true := by simpa using hP
    have S0F := NO.out hP
    clear HV HD
    go_wp2_with fail
    refine (CD1.out _ _ _ _ T3.out.c T3.out.kept T3.out.lowF).mono ?_
    rintro e u4 ⟨rfl, F4, c4, x4, l4⟩
    have T4 := hid (T3.out.doC c4 x4 l4)
    clear c4 x4 l4 T3
    go_wp2_with fail
    refine (CD2.out _ _ _ _ T4.out.d T4.out.kept T4.out.lowG).mono ?_
    rintro e u5 ⟨rfl, G5, c5, x5, l5⟩
    have T5 := hid (T4.out.doD c5 x5 l5)
    clear c5 x5 l5 T4
    generalize doesS s1 S0 = s at *
    generalize doesS s2 S0 = t at *
    go_wp2_with fail
    refine (ksave_any _ _ _ _ T5.out.c).mono ?_
    rintro e u6 ⟨r6, rfl, o6, k6⟩
    obtain ⟨a6, c6, rfl, s6, n6⟩ := own_sl o6 (save_in s (cart_ok T5.out.c))
    have T6 := hid (T5.out.go k6)
    have S6 := hid s6
    have OF : Off G5 a6 (saveS s) := .inr fun x hx q => by have := n6 x hx; have := cart_lt T5.out.d _ q; omega
    have OF := hid OF
    clear s6 n6 o6 k6
    go_wp2_with fail
    refine (kstate_any _ _ _ _ T6.out.d).mono ?_
    rintro e u7 ⟨rfl, k7⟩
    have T7 := T6.out.go k7
    have Z7 := cart_lt T7.d
    have M1 : Blk (((u7.alloc (.cells ([.int .i64 t.m.kind, .bool t.m.op, .int .u8 t.m.low, .int .u8 t.m.high, .int .u8 t.m.ram, .bool t.m.mode] : List Value).toArray 32)).alloc (.cells ([.int .u8 t.live.sec, .int .u8 t.live.min, .int .u8 t.live.hour, .int .u16 t.live.day, .bool t.live.halt, .bool t.live.carry] : List Value).toArray 34)).alloc (.cells ([.int .u8 t.held.sec, .int .u8 t.held.min, .int .u8 t.held.hour, .int .u16 t.held.day, .bool t.held.halt, .bool t.held.carry] : List Value).toArray 34)) u7.heap.size 32 [.int .i64 t.m.kind, .bool t.m.op, .int .u8 t.m.low, .int .u8 t.m.high, .int .u8 t.m.ram, .bool t.m.mode] := blk_past (blk_past (blk_new u7 _ _) _) _
    have V1 : Blk (((u7.alloc (.cells ([.int .i64 t.m.kind, .bool t.m.op, .int .u8 t.m.low, .int .u8 t.m.high, .int .u8 t.m.ram, .bool t.m.mode] : List Value).toArray 32)).alloc (.cells ([.int .u8 t.live.sec, .int .u8 t.live.min, .int .u8 t.live.hour, .int .u16 t.live.day, .bool t.live.halt, .bool t.live.carry] : List Value).toArray 34)).alloc (.cells ([.int .u8 t.held.sec, .int .u8 t.held.min, .int .u8 t.held.hour, .int .u16 t.held.day, .bool t.held.halt, .bool t.held.carry] : List Value).toArray 34)) (u7.heap.size + 1) 34 [.int .u8 t.live.sec, .int .u8 t.live.min, .int .u8 t.live.hour, .int .u16 t.live.day, .bool t.live.halt, .bool t.live.carry] := blk_past (by have h := blk_new (u7.alloc (.cells ([.int .i64 t.m.kind, .bool t.m.op, .int .u8 t.m.low, .int .u8 t.m.high, .int .u8 t.m.ram, .bool t.m.mode] : List Value).toArray 32)) [.int .u8 t.live.sec, .int .u8 t.live.min, .int .u8 t.live.hour, .int .u16 t.live.day, .bool t.live.halt, .bool t.live.carry] 34; rw [World.size_alloc] at h; exact h) _
    have H1 : Blk (((u7.alloc (.cells ([.int .i64 t.m.kind, .bool t.m.op, .int .u8 t.m.low, .int .u8 t.m.high, .int .u8 t.m.ram, .bool t.m.mode] : List Value).toArray 32)).alloc (.cells ([.int .u8 t.live.sec, .int .u8 t.live.min, .int .u8 t.live.hour, .int .u16 t.live.day, .bool t.live.halt, .bool t.live.carry] : List Value).toArray 34)).alloc (.cells ([.int .u8 t.held.sec, .int .u8 t.held.min, .int .u8 t.held.hour, .int .u16 t.held.day, .bool t.held.halt, .bool t.held.carry] : List Value).toArray 34)) (u7.heap.size + 1 + 1) 34 [.int .u8 t.held.sec, .int .u8 t.held.min, .int .u8 t.held.hour, .int .u16 t.held.day, .bool t.held.halt, .bool t.held.carry] := by have h := blk_new ((u7.alloc (.cells ([.int .i64 t.m.kind, .bool t.m.op, .int .u8 t.m.low, .int .u8 t.m.high, .int .u8 t.m.ram, .bool t.m.mode] : List Value).toArray 32)).alloc (.cells ([.int .u8 t.live.sec, .int .u8 t.live.min, .int .u8 t.live.hour, .int .u16 t.live.day, .bool t.live.halt, .bool t.live.carry] : List Value).toArray 34)) [.int .u8 t.held.sec, .int .u8 t.held.min, .int .u8 t.held.hour, .int .u16 t.held.day, .bool t.held.halt, .bool t.held.carry] 34; rw [World.size_alloc, World.size_alloc] at h; exact h
    have KA1 := (((Kept.refl u7).alloc (.cells ([.int .i64 t.m.kind, .bool t.m.op, .int .u8 t.m.low, .int .u8 t.m.high, .int .u8 t.m.ram, .bool t.m.mode] : List Value).toArray 32)).alloc (.cells ([.int .u8 t.live.sec, .int .u8 t.live.min, .int .u8 t.live.hour, .int .u16 t.live.day, .bool t.live.halt, .bool t.live.carry] : List Value).toArray 34) |>.alloc (.cells ([.int .u8 t.held.sec, .int .u8 t.held.min, .int .u8 t.held.hour, .int .u16 t.held.day, .bool t.held.halt, .bool t.held.carry] : List Value).toArray 34))
    have T7 := T7.go KA1
    have S7 := sl_kept (k7.trans KA1) S6.out
    clear V1 H1 KA1 k7 T6 T5 S6
    go_wp2_with fail
    obtain ⟨W7, hW7⟩ : ∃ W, (((u7.alloc (.cells ([.int .i64 t.m.kind, .bool t.m.op, .int .u8 t.m.low, .int .u8 t.m.high, .int .u8 t.m.ram, .bool t.m.mode] : List Value).toArray 32)).alloc (.cells ([.int .u8 t.live.sec, .int .u8 t.live.min, .int .u8 t.live.hour, .int .u16 t.live.day, .bool t.live.halt, .bool t.live.carry] : List Value).toArray 34)).alloc (.cells ([.int .u8 t.held.sec, .int .u8 t.held.min, .int .u8 t.held.hour, .int .u16 t.held.day, .bool t.held.halt, .bool t.held.carry] : List Value).toArray 34)) = W := ⟨_, rfl⟩
    rw [hW7] at M1 T7 S7
    try rw [show (((u7.alloc (.cells #[.int .i64 t.m.kind, .bool t.m.op, .int .u8 t.m.low, .int .u8 t.m.high, .int .u8 t.m.ram, .bool t.m.mode] 32)).alloc (.cells #[.int .u8 t.live.sec, .int .u8 t.live.min, .int .u8 t.live.hour, .int .u16 t.live.day, .bool t.live.halt, .bool t.live.carry] 34)).alloc (.cells #[.int .u8 t.held.sec, .int .u8 t.held.min, .int .u8 t.held.hour, .int .u16 t.held.day, .bool t.held.halt, .bool t.held.carry] 34)) = W7 from hW7]
    clear hW7
    refine (kload_any _ _ _ (saveS s) a6 c6 _ T7.d S7 OF.out).mono ?_
    rintro e u8 ⟨rfl, G8, c8, x8, l8⟩
    have M8 := hid (blkX x8 M1 (fun q => by have := Z7 _ q; omega))
    have S8 := hid (slX x8 S7 OF.out)
    have T8 := hid (T7.doD c8 x8 l8)
    clear c8 x8 l8 M1 S7 T7 Z7 OF
    obtain ⟨E1, E2⟩ := back_no IV1.out IV2.out (.inl S0F)
    have SL0 : (saveS s).length = 0 := by rw [E1]; rfl
    rw [E2]
    go_wp2_with fail
    refine (kstate_any _ _ _ _ T8.out.d).mono ?_
    rintro e u9 ⟨rfl, k9⟩
    have T9 := hid (T8.out.go k9)
    clear k9 S8 M8 E1 E2
    go_wp2
    go_ret
    exact ⟨rfl, ((T9.out.kept.alloc _).alloc _).alloc _⟩
  · subst hP
    obtain ⟨p2, rfl⟩ : ∃ p, vd = .pointer (some ⟨p, 0, none⟩) := by
      rcases HD.out with ⟨q, _⟩ | ⟨_, q⟩
      · exact absurd rfl q
      · exact q
    have S0T := NI.out rfl
    clear HV HD NO
    go_wp2_with fail
    refine (CD1.out _ _ _ _ T3.out.c T3.out.kept T3.out.lowF).mono ?_
    rintro e u4 ⟨rfl, F4, c4, x4, l4⟩
    have T4 := hid (T3.out.doC c4 x4 l4)
    clear c4 x4 l4 T3
    go_wp2_with fail
    refine (CD2.out _ _ _ _ T4.out.d T4.out.kept T4.out.lowG).mono ?_
    rintro e u5 ⟨rfl, G5, c5, x5, l5⟩
    have T5 := hid (T4.out.doD c5 x5 l5)
    clear c5 x5 l5 T4
    generalize doesS s1 S0 = s at *
    generalize doesS s2 S0 = t at *
    go_wp2_with fail
    refine (ksave_any _ _ _ _ T5.out.c).mono ?_
    rintro e u6 ⟨r6, rfl, o6, k6⟩
    obtain ⟨a6, c6, rfl, s6, n6⟩ := own_sl o6 (save_in s (cart_ok T5.out.c))
    have T6 := hid (T5.out.go k6)
    have S6 := hid s6
    have OF : Off G5 a6 (saveS s) := .inr fun x hx q => by have := n6 x hx; have := cart_lt T5.out.d _ q; omega
    have OF := hid OF
    clear s6 n6 o6 k6
    go_wp2_with fail
    refine (kstate_any _ _ _ _ T6.out.d).mono ?_
    rintro e u7 ⟨rfl, k7⟩
    have T7 := T6.out.go k7
    have Z7 := cart_lt T7.d
    have M1 : Blk (((u7.alloc (.cells ([.int .i64 t.m.kind, .bool t.m.op, .int .u8 t.m.low, .int .u8 t.m.high, .int .u8 t.m.ram, .bool t.m.mode] : List Value).toArray 32)).alloc (.cells ([.int .u8 t.live.sec, .int .u8 t.live.min, .int .u8 t.live.hour, .int .u16 t.live.day, .bool t.live.halt, .bool t.live.carry] : List Value).toArray 34)).alloc (.cells ([.int .u8 t.held.sec, .int .u8 t.held.min, .int .u8 t.held.hour, .int .u16 t.held.day, .bool t.held.halt, .bool t.held.carry] : List Value).toArray 34)) u7.heap.size 32 [.int .i64 t.m.kind, .bool t.m.op, .int .u8 t.m.low, .int .u8 t.m.high, .int .u8 t.m.ram, .bool t.m.mode] := blk_past (blk_past (blk_new u7 _ _) _) _
    have V1 : Blk (((u7.alloc (.cells ([.int .i64 t.m.kind, .bool t.m.op, .int .u8 t.m.low, .int .u8 t.m.high, .int .u8 t.m.ram, .bool t.m.mode] : List Value).toArray 32)).alloc (.cells ([.int .u8 t.live.sec, .int .u8 t.live.min, .int .u8 t.live.hour, .int .u16 t.live.day, .bool t.live.halt, .bool t.live.carry] : List Value).toArray 34)).alloc (.cells ([.int .u8 t.held.sec, .int .u8 t.held.min, .int .u8 t.held.hour, .int .u16 t.held.day, .bool t.held.halt, .bool t.held.carry] : List Value).toArray 34)) (u7.heap.size + 1) 34 [.int .u8 t.live.sec, .int .u8 t.live.min, .int .u8 t.live.hour, .int .u16 t.live.day, .bool t.live.halt, .bool t.live.carry] := blk_past (by have h := blk_new (u7.alloc (.cells ([.int .i64 t.m.kind, .bool t.m.op, .int .u8 t.m.low, .int .u8 t.m.high, .int .u8 t.m.ram, .bool t.m.mode] : List Value).toArray 32)) [.int .u8 t.live.sec, .int .u8 t.live.min, .int .u8 t.live.hour, .int .u16 t.live.day, .bool t.live.halt, .bool t.live.carry] 34; rw [World.size_alloc] at h; exact h) _
    have H1 : Blk (((u7.alloc (.cells ([.int .i64 t.m.kind, .bool t.m.op, .int .u8 t.m.low, .int .u8 t.m.high, .int .u8 t.m.ram, .bool t.m.mode] : List Value).toArray 32)).alloc (.cells ([.int .u8 t.live.sec, .int .u8 t.live.min, .int .u8 t.live.hour, .int .u16 t.live.day, .bool t.live.halt, .bool t.live.carry] : List Value).toArray 34)).alloc (.cells ([.int .u8 t.held.sec, .int .u8 t.held.min, .int .u8 t.held.hour, .int .u16 t.held.day, .bool t.held.halt, .bool t.held.carry] : List Value).toArray 34)) (u7.heap.size + 1 + 1) 34 [.int .u8 t.held.sec, .int .u8 t.held.min, .int .u8 t.held.hour, .int .u16 t.held.day, .bool t.held.halt, .bool t.held.carry] := by have h := blk_new ((u7.alloc (.cells ([.int .i64 t.m.kind, .bool t.m.op, .int .u8 t.m.low, .int .u8 t.m.high, .int .u8 t.m.ram, .bool t.m.mode] : List Value).toArray 32)).alloc (.cells ([.int .u8 t.live.sec, .int .u8 t.live.min, .int .u8 t.live.hour, .int .u16 t.live.day, .bool t.live.halt, .bool t.live.carry] : List Value).toArray 34)) [.int .u8 t.held.sec, .int .u8 t.held.min, .int .u8 t.held.hour, .int .u16 t.held.day, .bool t.held.halt, .bool t.held.carry] 34; rw [World.size_alloc, World.size_alloc] at h; exact h
    have KA1 := (((Kept.refl u7).alloc (.cells ([.int .i64 t.m.kind, .bool t.m.op, .int .u8 t.m.low, .int .u8 t.m.high, .int .u8 t.m.ram, .bool t.m.mode] : List Value).toArray 32)).alloc (.cells ([.int .u8 t.live.sec, .int .u8 t.live.min, .int .u8 t.live.hour, .int .u16 t.live.day, .bool t.live.halt, .bool t.live.carry] : List Value).toArray 34) |>.alloc (.cells ([.int .u8 t.held.sec, .int .u8 t.held.min, .int .u8 t.held.hour, .int .u16 t.held.day, .bool t.held.halt, .bool t.held.carry] : List Value).toArray 34))
    have T7 := T7.go KA1
    have S7 := sl_kept (k7.trans KA1) S6.out
    clear V1 H1 KA1 k7 T6 T5 S6
    go_wp2_with fail
    obtain ⟨W7, hW7⟩ : ∃ W, (((u7.alloc (.cells ([.int .i64 t.m.kind, .bool t.m.op, .int .u8 t.m.low, .int .u8 t.m.high, .int .u8 t.m.ram, .bool t.m.mode] : List Value).toArray 32)).alloc (.cells ([.int .u8 t.live.sec, .int .u8 t.live.min, .int .u8 t.live.hour, .int .u16 t.live.day, .bool t.live.halt, .bool t.live.carry] : List Value).toArray 34)).alloc (.cells ([.int .u8 t.held.sec, .int .u8 t.held.min, .int .u8 t.held.hour, .int .u16 t.held.day, .bool t.held.halt, .bool t.held.carry] : List Value).toArray 34)) = W := ⟨_, rfl⟩
    rw [hW7] at M1 T7 S7
    try rw [show (((u7.alloc (.cells #[.int .i64 t.m.kind, .bool t.m.op, .int .u8 t.m.low, .int .u8 t.m.high, .int .u8 t.m.ram, .bool t.m.mode] 32)).alloc (.cells #[.int .u8 t.live.sec, .int .u8 t.live.min, .int .u8 t.live.hour, .int .u16 t.live.day, .bool t.live.halt, .bool t.live.carry] 34)).alloc (.cells #[.int .u8 t.held.sec, .int .u8 t.held.min, .int .u8 t.held.hour, .int .u16 t.held.day, .bool t.held.halt, .bool t.held.carry] 34)) = W7 from hW7]
    clear hW7
    refine (kload_any _ _ _ (saveS s) a6 c6 _ T7.d S7 OF.out).mono ?_
    rintro e u8 ⟨rfl, G8, c8, x8, l8⟩
    have M8 := hid (blkX x8 M1 (fun q => by have := Z7 _ q; omega))
    have S8 := hid (slX x8 S7 OF.out)
    have T8 := hid (T7.doD c8 x8 l8)
    clear c8 x8 l8 M1 S7 T7 Z7 OF
    cases hb : S0.h.bat
    · obtain ⟨E1, E2⟩ := back_no IV1.out IV2.out (.inr hb)
      have SL0 : (saveS s).length = 0 := by rw [E1]; rfl
      rw [E2]
      go_wp2_with fail
      refine (kstate_any _ _ _ _ T8.out.d).mono ?_
      rintro e u9 ⟨rfl, k9⟩
      have T9 := T8.out.go k9
      have bs : s.h.bat = false := by rw [IV1.out.h]; exact hb
      generalize loadS t (saveS s) = t2 at *
      have M2 : Blk (((u9.alloc (.cells ([.int .i64 t2.m.kind, .bool t2.m.op, .int .u8 t2.m.low, .int .u8 t2.m.high, .int .u8 t2.m.ram, .bool t2.m.mode] : List Value).toArray 32)).alloc (.cells ([.int .u8 t2.live.sec, .int .u8 t2.live.min, .int .u8 t2.live.hour, .int .u16 t2.live.day, .bool t2.live.halt, .bool t2.live.carry] : List Value).toArray 34)).alloc (.cells ([.int .u8 t2.held.sec, .int .u8 t2.held.min, .int .u8 t2.held.hour, .int .u16 t2.held.day, .bool t2.held.halt, .bool t2.held.carry] : List Value).toArray 34)) u9.heap.size 32 [.int .i64 t2.m.kind, .bool t2.m.op, .int .u8 t2.m.low, .int .u8 t2.m.high, .int .u8 t2.m.ram, .bool t2.m.mode] := blk_past (blk_past (blk_new u9 _ _) _) _
      have V2 : Blk (((u9.alloc (.cells ([.int .i64 t2.m.kind, .bool t2.m.op, .int .u8 t2.m.low, .int .u8 t2.m.high, .int .u8 t2.m.ram, .bool t2.m.mode] : List Value).toArray 32)).alloc (.cells ([.int .u8 t2.live.sec, .int .u8 t2.live.min, .int .u8 t2.live.hour, .int .u16 t2.live.day, .bool t2.live.halt, .bool t2.live.carry] : List Value).toArray 34)).alloc (.cells ([.int .u8 t2.held.sec, .int .u8 t2.held.min, .int .u8 t2.held.hour, .int .u16 t2.held.day, .bool t2.held.halt, .bool t2.held.carry] : List Value).toArray 34)) (u9.heap.size + 1) 34 [.int .u8 t2.live.sec, .int .u8 t2.live.min, .int .u8 t2.live.hour, .int .u16 t2.live.day, .bool t2.live.halt, .bool t2.live.carry] := blk_past (by have h := blk_new (u9.alloc (.cells ([.int .i64 t2.m.kind, .bool t2.m.op, .int .u8 t2.m.low, .int .u8 t2.m.high, .int .u8 t2.m.ram, .bool t2.m.mode] : List Value).toArray 32)) [.int .u8 t2.live.sec, .int .u8 t2.live.min, .int .u8 t2.live.hour, .int .u16 t2.live.day, .bool t2.live.halt, .bool t2.live.carry] 34; rw [World.size_alloc] at h; exact h) _
      have H2 : Blk (((u9.alloc (.cells ([.int .i64 t2.m.kind, .bool t2.m.op, .int .u8 t2.m.low, .int .u8 t2.m.high, .int .u8 t2.m.ram, .bool t2.m.mode] : List Value).toArray 32)).alloc (.cells ([.int .u8 t2.live.sec, .int .u8 t2.live.min, .int .u8 t2.live.hour, .int .u16 t2.live.day, .bool t2.live.halt, .bool t2.live.carry] : List Value).toArray 34)).alloc (.cells ([.int .u8 t2.held.sec, .int .u8 t2.held.min, .int .u8 t2.held.hour, .int .u16 t2.held.day, .bool t2.held.halt, .bool t2.held.carry] : List Value).toArray 34)) (u9.heap.size + 1 + 1) 34 [.int .u8 t2.held.sec, .int .u8 t2.held.min, .int .u8 t2.held.hour, .int .u16 t2.held.day, .bool t2.held.halt, .bool t2.held.carry] := by have h := blk_new ((u9.alloc (.cells ([.int .i64 t2.m.kind, .bool t2.m.op, .int .u8 t2.m.low, .int .u8 t2.m.high, .int .u8 t2.m.ram, .bool t2.m.mode] : List Value).toArray 32)).alloc (.cells ([.int .u8 t2.live.sec, .int .u8 t2.live.min, .int .u8 t2.live.hour, .int .u16 t2.live.day, .bool t2.live.halt, .bool t2.live.carry] : List Value).toArray 34)) [.int .u8 t2.held.sec, .int .u8 t2.held.min, .int .u8 t2.held.hour, .int .u16 t2.held.day, .bool t2.held.halt, .bool t2.held.carry] 34; rw [World.size_alloc, World.size_alloc] at h; exact h
      have KA2 := (((Kept.refl u9).alloc (.cells ([.int .i64 t2.m.kind, .bool t2.m.op, .int .u8 t2.m.low, .int .u8 t2.m.high, .int .u8 t2.m.ram, .bool t2.m.mode] : List Value).toArray 32)).alloc (.cells ([.int .u8 t2.live.sec, .int .u8 t2.live.min, .int .u8 t2.live.hour, .int .u16 t2.live.day, .bool t2.live.halt, .bool t2.live.carry] : List Value).toArray 34) |>.alloc (.cells ([.int .u8 t2.held.sec, .int .u8 t2.held.min, .int .u8 t2.held.hour, .int .u16 t2.held.day, .bool t2.held.halt, .bool t2.held.carry] : List Value).toArray 34))
      have T9 := T9.go KA2
      clear k9 S8 M8 E1 E2 M2 V2 H2 KA2 T8
      go_wp2_with fail
      obtain ⟨W9, hW9⟩ : ∃ W, (((u9.alloc (.cells ([.int .i64 t2.m.kind, .bool t2.m.op, .int .u8 t2.m.low, .int .u8 t2.m.high, .int .u8 t2.m.ram, .bool t2.m.mode] : List Value).toArray 32)).alloc (.cells ([.int .u8 t2.live.sec, .int .u8 t2.live.min, .int .u8 t2.live.hour, .int .u16 t2.live.day, .bool t2.live.halt, .bool t2.live.carry] : List Value).toArray 34)).alloc (.cells ([.int .u8 t2.held.sec, .int .u8 t2.held.min, .int .u8 t2.held.hour, .int .u16 t2.held.day, .bool t2.held.halt, .bool t2.held.carry] : List Value).toArray 34)) = W := ⟨_, rfl⟩
      rw [hW9] at T9
      try rw [show (((u9.alloc (.cells #[.int .i64 t2.m.kind, .bool t2.m.op, .int .u8 t2.m.low, .int .u8 t2.m.high, .int .u8 t2.m.ram, .bool t2.m.mode] 32)).alloc (.cells #[.int .u8 t2.live.sec, .int .u8 t2.live.min, .int .u8 t2.live.hour, .int .u16 t2.live.day, .bool t2.live.halt, .bool t2.live.carry] 34)).alloc (.cells #[.int .u8 t2.held.sec, .int .u8 t2.held.min, .int .u8 t2.held.hour, .int .u16 t2.held.day, .bool t2.held.halt, .bool t2.held.carry] 34)) = W9 from hW9]
      clear hW9
      have CHd := khead_any s _ _ _ T9.c
      simp only [hdVc] at CHd
      refine CHd.mono ?_
      rintro e u10 ⟨rfl, k10⟩
      have T10 := hid (T9.go k10)
      clear k10 T9
      have FB := head_bat
      go_wp2
      go_ret
      exact ⟨rfl, T10.out.kept⟩
    · obtain ⟨E1, Em, El, Eh, Er, Es⟩ := back_yes IV1.out IV2.out (cart_ok T8.out.c) S0T hb
      have bs : s.h.bat = true := by rw [IV1.out.h]; exact hb
      rw [E1]
      go_wp2_with fail
      have CS9 := kstate_any _ _ _ _ T8.out.d
      rw [Em, El, Eh] at CS9
      refine CS9.mono ?_
      rintro e u9 ⟨rfl, k9⟩
      have T9 := T8.out.go k9
      have CM0 := hid (fun u vv G (h : CartAt u (loadS t (saveS s)) vv G) => kram_any _ vv G u h)
      have CV0 := hid (fun u vv G (h : CartAt u (loadS t (saveS s)) vv G) => ksave_any _ vv G u h)
      rw [Er] at CM0
      rw [Es] at CV0
      generalize loadS t (saveS s) = t2 at *
      have M2 : Blk (((u9.alloc (.cells ([.int .i64 t.m.kind, .bool t.m.op, .int .u8 t.m.low, .int .u8 t.m.high, .int .u8 t.m.ram, .bool t.m.mode] : List Value).toArray 32)).alloc (.cells ([.int .u8 s.live.sec, .int .u8 s.live.min, .int .u8 s.live.hour, .int .u16 s.live.day, .bool s.live.halt, .bool s.live.carry] : List Value).toArray 34)).alloc (.cells ([.int .u8 s.held.sec, .int .u8 s.held.min, .int .u8 s.held.hour, .int .u16 s.held.day, .bool s.held.halt, .bool s.held.carry] : List Value).toArray 34)) u9.heap.size 32 [.int .i64 t.m.kind, .bool t.m.op, .int .u8 t.m.low, .int .u8 t.m.high, .int .u8 t.m.ram, .bool t.m.mode] := blk_past (blk_past (blk_new u9 _ _) _) _
      have V2 : Blk (((u9.alloc (.cells ([.int .i64 t.m.kind, .bool t.m.op, .int .u8 t.m.low, .int .u8 t.m.high, .int .u8 t.m.ram, .bool t.m.mode] : List Value).toArray 32)).alloc (.cells ([.int .u8 s.live.sec, .int .u8 s.live.min, .int .u8 s.live.hour, .int .u16 s.live.day, .bool s.live.halt, .bool s.live.carry] : List Value).toArray 34)).alloc (.cells ([.int .u8 s.held.sec, .int .u8 s.held.min, .int .u8 s.held.hour, .int .u16 s.held.day, .bool s.held.halt, .bool s.held.carry] : List Value).toArray 34)) (u9.heap.size + 1) 34 [.int .u8 s.live.sec, .int .u8 s.live.min, .int .u8 s.live.hour, .int .u16 s.live.day, .bool s.live.halt, .bool s.live.carry] := blk_past (by have h := blk_new (u9.alloc (.cells ([.int .i64 t.m.kind, .bool t.m.op, .int .u8 t.m.low, .int .u8 t.m.high, .int .u8 t.m.ram, .bool t.m.mode] : List Value).toArray 32)) [.int .u8 s.live.sec, .int .u8 s.live.min, .int .u8 s.live.hour, .int .u16 s.live.day, .bool s.live.halt, .bool s.live.carry] 34; rw [World.size_alloc] at h; exact h) _
      have H2 : Blk (((u9.alloc (.cells ([.int .i64 t.m.kind, .bool t.m.op, .int .u8 t.m.low, .int .u8 t.m.high, .int .u8 t.m.ram, .bool t.m.mode] : List Value).toArray 32)).alloc (.cells ([.int .u8 s.live.sec, .int .u8 s.live.min, .int .u8 s.live.hour, .int .u16 s.live.day, .bool s.live.halt, .bool s.live.carry] : List Value).toArray 34)).alloc (.cells ([.int .u8 s.held.sec, .int .u8 s.held.min, .int .u8 s.held.hour, .int .u16 s.held.day, .bool s.held.halt, .bool s.held.carry] : List Value).toArray 34)) (u9.heap.size + 1 + 1) 34 [.int .u8 s.held.sec, .int .u8 s.held.min, .int .u8 s.held.hour, .int .u16 s.held.day, .bool s.held.halt, .bool s.held.carry] := by have h := blk_new ((u9.alloc (.cells ([.int .i64 t.m.kind, .bool t.m.op, .int .u8 t.m.low, .int .u8 t.m.high, .int .u8 t.m.ram, .bool t.m.mode] : List Value).toArray 32)).alloc (.cells ([.int .u8 s.live.sec, .int .u8 s.live.min, .int .u8 s.live.hour, .int .u16 s.live.day, .bool s.live.halt, .bool s.live.carry] : List Value).toArray 34)) [.int .u8 s.held.sec, .int .u8 s.held.min, .int .u8 s.held.hour, .int .u16 s.held.day, .bool s.held.halt, .bool s.held.carry] 34; rw [World.size_alloc, World.size_alloc] at h; exact h
      have KA2 := (((Kept.refl u9).alloc (.cells ([.int .i64 t.m.kind, .bool t.m.op, .int .u8 t.m.low, .int .u8 t.m.high, .int .u8 t.m.ram, .bool t.m.mode] : List Value).toArray 32)).alloc (.cells ([.int .u8 s.live.sec, .int .u8 s.live.min, .int .u8 s.live.hour, .int .u16 s.live.day, .bool s.live.halt, .bool s.live.carry] : List Value).toArray 34) |>.alloc (.cells ([.int .u8 s.held.sec, .int .u8 s.held.min, .int .u8 s.held.hour, .int .u16 s.held.day, .bool s.held.halt, .bool s.held.carry] : List Value).toArray 34))
      have T9 := T9.go KA2
      have M19 := blk_kept (k9.trans KA2) M8.out
      have S9 := sl_kept (k9.trans KA2) S8.out
      clear k9 S8 M8 KA2 T8 E1 Em El Eh Er Es CS9
      go_wp2_with fail
      obtain ⟨W9, hW9⟩ : ∃ W, (((u9.alloc (.cells ([.int .i64 t.m.kind, .bool t.m.op, .int .u8 t.m.low, .int .u8 t.m.high, .int .u8 t.m.ram, .bool t.m.mode] : List Value).toArray 32)).alloc (.cells ([.int .u8 s.live.sec, .int .u8 s.live.min, .int .u8 s.live.hour, .int .u16 s.live.day, .bool s.live.halt, .bool s.live.carry] : List Value).toArray 34)).alloc (.cells ([.int .u8 s.held.sec, .int .u8 s.held.min, .int .u8 s.held.hour, .int .u16 s.held.day, .bool s.held.halt, .bool s.held.carry] : List Value).toArray 34)) = W := ⟨_, rfl⟩
      rw [hW9] at T9 M19 S9 M2 V2 H2
      try rw [show (((u9.alloc (.cells #[.int .i64 t.m.kind, .bool t.m.op, .int .u8 t.m.low, .int .u8 t.m.high, .int .u8 t.m.ram, .bool t.m.mode] 32)).alloc (.cells #[.int .u8 s.live.sec, .int .u8 s.live.min, .int .u8 s.live.hour, .int .u16 s.live.day, .bool s.live.halt, .bool s.live.carry] 34)).alloc (.cells #[.int .u8 s.held.sec, .int .u8 s.held.min, .int .u8 s.held.hour, .int .u16 s.held.day, .bool s.held.halt, .bool s.held.carry] 34)) = W9 from hW9]
      clear hW9
      have CHd := khead_any s _ _ _ T9.c
      simp only [hdVc] at CHd
      refine CHd.mono ?_
      rintro e u10 ⟨rfl, k10⟩
      have T10 := T9.go k10
      have N1 := hid (blk_kept k10 M19)
      have N2 := hid (blk_kept k10 M2)
      have N3 := hid (blk_kept k10 V2)
      have N4 := hid (blk_kept k10 H2)
      have S10 := hid (sl_kept k10 S9)
      have FB := head_bat
      clear k10 T9 M19 M2 V2 H2 S9 CHd
      go_wp2_with fail
      refine (kstate_any _ _ _ _ T10.c).mono ?_
      rintro e u11 ⟨rfl, k11⟩
      have T11 := T10.go k11
      have M3 : Blk (((u11.alloc (.cells ([.int .i64 s.m.kind, .bool s.m.op, .int .u8 s.m.low, .int .u8 s.m.high, .int .u8 s.m.ram, .bool s.m.mode] : List Value).toArray 32)).alloc (.cells ([.int .u8 s.live.sec, .int .u8 s.live.min, .int .u8 s.live.hour, .int .u16 s.live.day, .bool s.live.halt, .bool s.live.carry] : List Value).toArray 34)).alloc (.cells ([.int .u8 s.held.sec, .int .u8 s.held.min, .int .u8 s.held.hour, .int .u16 s.held.day, .bool s.held.halt, .bool s.held.carry] : List Value).toArray 34)) u11.heap.size 32 [.int .i64 s.m.kind, .bool s.m.op, .int .u8 s.m.low, .int .u8 s.m.high, .int .u8 s.m.ram, .bool s.m.mode] := blk_past (blk_past (blk_new u11 _ _) _) _
      have V3 : Blk (((u11.alloc (.cells ([.int .i64 s.m.kind, .bool s.m.op, .int .u8 s.m.low, .int .u8 s.m.high, .int .u8 s.m.ram, .bool s.m.mode] : List Value).toArray 32)).alloc (.cells ([.int .u8 s.live.sec, .int .u8 s.live.min, .int .u8 s.live.hour, .int .u16 s.live.day, .bool s.live.halt, .bool s.live.carry] : List Value).toArray 34)).alloc (.cells ([.int .u8 s.held.sec, .int .u8 s.held.min, .int .u8 s.held.hour, .int .u16 s.held.day, .bool s.held.halt, .bool s.held.carry] : List Value).toArray 34)) (u11.heap.size + 1) 34 [.int .u8 s.live.sec, .int .u8 s.live.min, .int .u8 s.live.hour, .int .u16 s.live.day, .bool s.live.halt, .bool s.live.carry] := blk_past (by have h := blk_new (u11.alloc (.cells ([.int .i64 s.m.kind, .bool s.m.op, .int .u8 s.m.low, .int .u8 s.m.high, .int .u8 s.m.ram, .bool s.m.mode] : List Value).toArray 32)) [.int .u8 s.live.sec, .int .u8 s.live.min, .int .u8 s.live.hour, .int .u16 s.live.day, .bool s.live.halt, .bool s.live.carry] 34; rw [World.size_alloc] at h; exact h) _
      have H3 : Blk (((u11.alloc (.cells ([.int .i64 s.m.kind, .bool s.m.op, .int .u8 s.m.low, .int .u8 s.m.high, .int .u8 s.m.ram, .bool s.m.mode] : List Value).toArray 32)).alloc (.cells ([.int .u8 s.live.sec, .int .u8 s.live.min, .int .u8 s.live.hour, .int .u16 s.live.day, .bool s.live.halt, .bool s.live.carry] : List Value).toArray 34)).alloc (.cells ([.int .u8 s.held.sec, .int .u8 s.held.min, .int .u8 s.held.hour, .int .u16 s.held.day, .bool s.held.halt, .bool s.held.carry] : List Value).toArray 34)) (u11.heap.size + 1 + 1) 34 [.int .u8 s.held.sec, .int .u8 s.held.min, .int .u8 s.held.hour, .int .u16 s.held.day, .bool s.held.halt, .bool s.held.carry] := by have h := blk_new ((u11.alloc (.cells ([.int .i64 s.m.kind, .bool s.m.op, .int .u8 s.m.low, .int .u8 s.m.high, .int .u8 s.m.ram, .bool s.m.mode] : List Value).toArray 32)).alloc (.cells ([.int .u8 s.live.sec, .int .u8 s.live.min, .int .u8 s.live.hour, .int .u16 s.live.day, .bool s.live.halt, .bool s.live.carry] : List Value).toArray 34)) [.int .u8 s.held.sec, .int .u8 s.held.min, .int .u8 s.held.hour, .int .u16 s.held.day, .bool s.held.halt, .bool s.held.carry] 34; rw [World.size_alloc, World.size_alloc] at h; exact h
      have KA3 := (((Kept.refl u11).alloc (.cells ([.int .i64 s.m.kind, .bool s.m.op, .int .u8 s.m.low, .int .u8 s.m.high, .int .u8 s.m.ram, .bool s.m.mode] : List Value).toArray 32)).alloc (.cells ([.int .u8 s.live.sec, .int .u8 s.live.min, .int .u8 s.live.hour, .int .u16 s.live.day, .bool s.live.halt, .bool s.live.carry] : List Value).toArray 34) |>.alloc (.cells ([.int .u8 s.held.sec, .int .u8 s.held.min, .int .u8 s.held.hour, .int .u16 s.held.day, .bool s.held.halt, .bool s.held.carry] : List Value).toArray 34))
      have T11 := T11.go KA3
      have B1 := blk_kept (k11.trans KA3) N1.out
      have B2 := blk_kept (k11.trans KA3) N2.out
      have B3 := blk_kept (k11.trans KA3) N3.out
      have B4 := blk_kept (k11.trans KA3) N4.out
      have S11 := sl_kept (k11.trans KA3) S10.out
      clear k11 KA3 T10 N1 N2 N3 N4 S10 M3
      go_wp2_with fail
      obtain ⟨UU, hUU⟩ : ∃ W, (((u11.alloc (.cells ([.int .i64 s.m.kind, .bool s.m.op, .int .u8 s.m.low, .int .u8 s.m.high, .int .u8 s.m.ram, .bool s.m.mode] : List Value).toArray 32)).alloc (.cells ([.int .u8 s.live.sec, .int .u8 s.live.min, .int .u8 s.live.hour, .int .u16 s.live.day, .bool s.live.halt, .bool s.live.carry] : List Value).toArray 34)).alloc (.cells ([.int .u8 s.held.sec, .int .u8 s.held.min, .int .u8 s.held.hour, .int .u16 s.held.day, .bool s.held.halt, .bool s.held.carry] : List Value).toArray 34)) = W := ⟨_, rfl⟩
      rw [hUU] at T11 B1 B2 B3 B4 V3 H3 S11
      try rw [show (((u11.alloc (.cells #[.int .i64 s.m.kind, .bool s.m.op, .int .u8 s.m.low, .int .u8 s.m.high, .int .u8 s.m.ram, .bool s.m.mode] 32)).alloc (.cells #[.int .u8 s.live.sec, .int .u8 s.live.min, .int .u8 s.live.hour, .int .u16 s.live.day, .bool s.live.halt, .bool s.live.carry] 34)).alloc (.cells #[.int .u8 s.held.sec, .int .u8 s.held.min, .int .u8 s.held.hour, .int .u16 s.held.day, .bool s.held.halt, .bool s.held.carry] 34)) = UU from hUU]
      clear hUU
      have KU := hid T11.kept
      have CV := hid (fun u (g : Kept UU u) => conv_sl (sl_kept g S11))
      have cb0 := CV.out _ (Kept.refl UU).drew
      have CRd := hid (fun u (g : Kept UU u) => CM0.out u _ _ (T11.go g).d)
      have CRc := hid (fun u (g : Kept UU u) => kram_any s _ _ u (T11.go g).c)
      have CSd := hid (fun u (g : Kept UU u) => CV0.out u _ _ (T11.go g).d)
      have GB1 := hid B1
      have rB1 := blk_cell B1
      have GB2 := hid B2
      have rB2 := blk_cell B2
      have GB3 := hid B3
      have rB3 := blk_cell B3
      have GB4 := hid B4
      have rB4 := blk_cell B4
      have GV3 := hid V3
      have rV3 := blk_cell V3
      have GH3 := hid H3
      have rH3 := blk_cell H3
      clear B1 B2 B3 B4 V3 H3 T11 S11 CM0 CV0 IV1 IV2 CD1 CD2 NI
      refine wp_region_held_drew (S := (fun w' => w'.cell? ⟨u7.heap.size, 0, none⟩ = some (.int .i64 t.m.kind) ∧ w'.cell? ⟨u7.heap.size, 1, none⟩ = some (.bool t.m.op) ∧ w'.cell? ⟨u7.heap.size, 2, none⟩ = some (.int .u8 t.m.low) ∧ w'.cell? ⟨u7.heap.size, 3, none⟩ = some (.int .u8 t.m.high) ∧ w'.cell? ⟨u7.heap.size, 4, none⟩ = some (.int .u8 t.m.ram) ∧ w'.cell? ⟨u7.heap.size, 5, none⟩ = some (.bool t.m.mode) ∧ w'.cell? ⟨u9.heap.size, 0, none⟩ = some (.int .i64 t.m.kind) ∧ w'.cell? ⟨u9.heap.size, 1, none⟩ = some (.bool t.m.op) ∧ w'.cell? ⟨u9.heap.size, 2, none⟩ = some (.int .u8 t.m.low) ∧ w'.cell? ⟨u9.heap.size, 3, none⟩ = some (.int .u8 t.m.high) ∧ w'.cell? ⟨u9.heap.size, 4, none⟩ = some (.int .u8 t.m.ram) ∧ w'.cell? ⟨u9.heap.size, 5, none⟩ = some (.bool t.m.mode) ∧ w'.cell? ⟨u9.heap.size + 1, 0, none⟩ = some (.int .u8 s.live.sec) ∧ w'.cell? ⟨u9.heap.size + 1, 1, none⟩ = some (.int .u8 s.live.min) ∧ w'.cell? ⟨u9.heap.size + 1, 2, none⟩ = some (.int .u8 s.live.hour) ∧ w'.cell? ⟨u9.heap.size + 1, 3, none⟩ = some (.int .u16 s.live.day) ∧ w'.cell? ⟨u9.heap.size + 1, 4, none⟩ = some (.bool s.live.halt) ∧ w'.cell? ⟨u9.heap.size + 1, 5, none⟩ = some (.bool s.live.carry) ∧ w'.cell? ⟨u9.heap.size + 1 + 1, 0, none⟩ = some (.int .u8 s.held.sec) ∧ w'.cell? ⟨u9.heap.size + 1 + 1, 1, none⟩ = some (.int .u8 s.held.min) ∧ w'.cell? ⟨u9.heap.size + 1 + 1, 2, none⟩ = some (.int .u8 s.held.hour) ∧ w'.cell? ⟨u9.heap.size + 1 + 1, 3, none⟩ = some (.int .u16 s.held.day) ∧ w'.cell? ⟨u9.heap.size + 1 + 1, 4, none⟩ = some (.bool s.held.halt) ∧ w'.cell? ⟨u9.heap.size + 1 + 1, 5, none⟩ = some (.bool s.held.carry) ∧ w'.cell? ⟨u11.heap.size + 1, 0, none⟩ = some (.int .u8 s.live.sec) ∧ w'.cell? ⟨u11.heap.size + 1, 1, none⟩ = some (.int .u8 s.live.min) ∧ w'.cell? ⟨u11.heap.size + 1, 2, none⟩ = some (.int .u8 s.live.hour) ∧ w'.cell? ⟨u11.heap.size + 1, 3, none⟩ = some (.int .u16 s.live.day) ∧ w'.cell? ⟨u11.heap.size + 1, 4, none⟩ = some (.bool s.live.halt) ∧ w'.cell? ⟨u11.heap.size + 1, 5, none⟩ = some (.bool s.live.carry) ∧ w'.cell? ⟨u11.heap.size + 1 + 1, 0, none⟩ = some (.int .u8 s.held.sec) ∧ w'.cell? ⟨u11.heap.size + 1 + 1, 1, none⟩ = some (.int .u8 s.held.min) ∧ w'.cell? ⟨u11.heap.size + 1 + 1, 2, none⟩ = some (.int .u8 s.held.hour) ∧ w'.cell? ⟨u11.heap.size + 1 + 1, 3, none⟩ = some (.int .u16 s.held.day) ∧ w'.cell? ⟨u11.heap.size + 1 + 1, 4, none⟩ = some (.bool s.held.halt) ∧ w'.cell? ⟨u11.heap.size + 1 + 1, 5, none⟩ = some (.bool s.held.carry) ∧ (convert 22 9 (.slice a6 (saveS s).length c6)).run Tryd.prog w' = .ok (.string (strB (saveS s))) w')) (by kernel_rfl) (by go_keep) (fun hHeld => ?_)
      refine wpAnyH_take (i := 0) (v := ?_) rfl (by kernel_rfl) (by kernel_rfl) (by kernel_rfl) (fun _ _ _ h => h) (Or.inl ⟨by rfl, ?_⟩) (by assumption) ?_
      rotate_left
      · intro w hSw
        (try dsimp only at hSw)
        go_simp
        try with_reducible rfl
      simp only [Act.put, List.getElem_toArray, List.getElem_cons_succ, List.getElem_cons_zero, List.setIfInBounds_toArray, List.set_cons_zero, List.set_cons_succ]
      refine wpAnyH_take (i := 1) (v := ?_) rfl (by kernel_rfl) (by kernel_rfl) (by kernel_rfl) (fun _ _ _ h => h) (Or.inl ⟨by rfl, ?_⟩) (by assumption) ?_
      rotate_left
      · intro w hSw
        (try dsimp only at hSw)
        go_simp
        try with_reducible rfl
      simp only [Act.put, List.getElem_toArray, List.getElem_cons_succ, List.getElem_cons_zero, List.setIfInBounds_toArray, List.set_cons_zero, List.set_cons_succ]
      refine wpAnyH_take (i := 2) (v := ?_) rfl (by kernel_rfl) (by kernel_rfl) (by kernel_rfl) (fun _ _ _ h => h) (Or.inl ⟨by rfl, ?_⟩) (by assumption) ?_
      rotate_left
      · intro w hSw
        (try dsimp only at hSw)
        go_simp
        try with_reducible rfl
      simp only [Act.put, List.getElem_toArray, List.getElem_cons_succ, List.getElem_cons_zero, List.setIfInBounds_toArray, List.set_cons_zero, List.set_cons_succ]
      refine wpAnyH_take (i := 3) (v := ?_) rfl (by kernel_rfl) (by kernel_rfl) (by kernel_rfl) (fun _ _ _ h => h) (Or.inl ⟨by rfl, ?_⟩) (by assumption) ?_
      rotate_left
      · intro w hSw
        (try dsimp only at hSw)
        go_simp
        try with_reducible rfl
      simp only [Act.put, List.getElem_toArray, List.getElem_cons_succ, List.getElem_cons_zero, List.setIfInBounds_toArray, List.set_cons_zero, List.set_cons_succ]
      refine wpAnyH_take (i := 4) (v := ?_) rfl (by kernel_rfl) (by kernel_rfl) (by kernel_rfl) (fun _ _ _ h => h) (Or.inl ⟨by rfl, ?_⟩) (by assumption) ?_
      rotate_left
      · intro w hSw
        (try dsimp only at hSw)
        go_simp
        try with_reducible rfl
      simp only [Act.put, List.getElem_toArray, List.getElem_cons_succ, List.getElem_cons_zero, List.setIfInBounds_toArray, List.set_cons_zero, List.set_cons_succ]
      refine wpAnyH_take (i := 5) (v := ?_) rfl (by kernel_rfl) (by kernel_rfl) (by kernel_rfl) (fun _ _ _ h => h) (Or.inl ⟨by rfl, ?_⟩) (by assumption) ?_
      rotate_left
      · intro w hSw
        (try dsimp only at hSw)
        go_simp
        try with_reducible rfl
      simp only [Act.put, List.getElem_toArray, List.getElem_cons_succ, List.getElem_cons_zero, List.setIfInBounds_toArray, List.set_cons_zero, List.set_cons_succ]
      refine wpAnyH_take (i := 6) (v := ?_) rfl (by kernel_rfl) (by kernel_rfl) (by kernel_rfl) (fun _ _ _ h => h) (Or.inl ⟨by rfl, ?_⟩) (by assumption) ?_
      rotate_left
      · intro w hSw
        (try dsimp only at hSw)
        go_simp
        try with_reducible rfl
      simp only [Act.put, List.getElem_toArray, List.getElem_cons_succ, List.getElem_cons_zero, List.setIfInBounds_toArray, List.set_cons_zero, List.set_cons_succ]
      refine wpAnyH_take (i := 7) (v := ?_) rfl (by kernel_rfl) (by kernel_rfl) (by kernel_rfl) (fun _ _ _ h => h) (Or.inl ⟨by rfl, ?_⟩) (by assumption) ?_
      rotate_left
      · intro w hSw
        (try dsimp only at hSw)
        go_simp
        try with_reducible rfl
      simp only [Act.put, List.getElem_toArray, List.getElem_cons_succ, List.getElem_cons_zero, List.setIfInBounds_toArray, List.set_cons_zero, List.set_cons_succ]
      refine wpAnyH_take (i := 8) (v := ?_) rfl (by kernel_rfl) (by kernel_rfl) (by kernel_rfl) (fun _ _ _ h => h) (Or.inl ⟨by rfl, ?_⟩) (by assumption) ?_
      rotate_left
      · intro w hSw
        (try dsimp only at hSw)
        go_simp
        try with_reducible rfl
      simp only [Act.put, List.getElem_toArray, List.getElem_cons_succ, List.getElem_cons_zero, List.setIfInBounds_toArray, List.set_cons_zero, List.set_cons_succ]
      refine wpAnyH_take (i := 9) (v := ?_) rfl (by kernel_rfl) (by kernel_rfl) (by kernel_rfl) (fun _ _ _ h => h) (Or.inl ⟨by rfl, ?_⟩) (by assumption) ?_
      rotate_left
      · intro w hSw
        (try dsimp only at hSw)
        go_simp
        try with_reducible rfl
      simp only [Act.put, List.getElem_toArray, List.getElem_cons_succ, List.getElem_cons_zero, List.setIfInBounds_toArray, List.set_cons_zero, List.set_cons_succ]
      refine wpAnyH_take (i := 10) (v := ?_) rfl (by kernel_rfl) (by kernel_rfl) (by kernel_rfl) (fun _ _ _ h => h) (Or.inl ⟨by rfl, ?_⟩) (by assumption) ?_
      rotate_left
      · intro w hSw
        (try dsimp only at hSw)
        go_simp
        try with_reducible rfl
      simp only [Act.put, List.getElem_toArray, List.getElem_cons_succ, List.getElem_cons_zero, List.setIfInBounds_toArray, List.set_cons_zero, List.set_cons_succ]
      refine wpAnyH_take (i := 11) (v := ?_) rfl (by kernel_rfl) (by kernel_rfl) (by kernel_rfl) (fun _ _ _ h => h) (Or.inl ⟨by rfl, ?_⟩) (by assumption) ?_
      rotate_left
      · intro w hSw
        (try dsimp only at hSw)
        go_simp
        try with_reducible rfl
      simp only [Act.put, List.getElem_toArray, List.getElem_cons_succ, List.getElem_cons_zero, List.setIfInBounds_toArray, List.set_cons_zero, List.set_cons_succ]
      refine wpAnyH_take (i := 12) (v := ?_) rfl (by kernel_rfl) (by kernel_rfl) (by kernel_rfl) (fun _ _ _ h => h) (Or.inl ⟨by rfl, ?_⟩) (by assumption) ?_
      rotate_left
      · intro w hSw
        (try dsimp only at hSw)
        go_simp
        try with_reducible rfl
      simp only [Act.put, List.getElem_toArray, List.getElem_cons_succ, List.getElem_cons_zero, List.setIfInBounds_toArray, List.set_cons_zero, List.set_cons_succ]
      refine wpAnyH_take (i := 13) (v := ?_) rfl (by kernel_rfl) (by kernel_rfl) (by kernel_rfl) (fun _ _ _ h => h) (Or.inl ⟨by rfl, ?_⟩) (by assumption) ?_
      rotate_left
      · intro w hSw
        (try dsimp only at hSw)
        go_simp
        try with_reducible rfl
      simp only [Act.put, List.getElem_toArray, List.getElem_cons_succ, List.getElem_cons_zero, List.setIfInBounds_toArray, List.set_cons_zero, List.set_cons_succ]
      refine wpAnyH_take (i := 14) (v := ?_) rfl (by kernel_rfl) (by kernel_rfl) (by kernel_rfl) (fun _ _ _ h => h) (Or.inl ⟨by rfl, ?_⟩) (by assumption) ?_
      rotate_left
      · intro w hSw
        (try dsimp only at hSw)
        go_simp
        try with_reducible rfl
      simp only [Act.put, List.getElem_toArray, List.getElem_cons_succ, List.getElem_cons_zero, List.setIfInBounds_toArray, List.set_cons_zero, List.set_cons_succ]
      refine wpAnyH_take (i := 15) (v := ?_) rfl (by kernel_rfl) (by kernel_rfl) (by kernel_rfl) (fun _ _ _ h => h) (Or.inl ⟨by rfl, ?_⟩) (by assumption) ?_
      rotate_left
      · intro w hSw
        (try dsimp only at hSw)
        go_simp
        try with_reducible rfl
      simp only [Act.put, List.getElem_toArray, List.getElem_cons_succ, List.getElem_cons_zero, List.setIfInBounds_toArray, List.set_cons_zero, List.set_cons_succ]
      refine wpAnyH_take (i := 16) (v := ?_) rfl (by kernel_rfl) (by kernel_rfl) (by kernel_rfl) (fun _ _ _ h => h) (Or.inl ⟨by rfl, ?_⟩) (by assumption) ?_
      rotate_left
      · intro w hSw
        (try dsimp only at hSw)
        go_simp
        try with_reducible rfl
      simp only [Act.put, List.getElem_toArray, List.getElem_cons_succ, List.getElem_cons_zero, List.setIfInBounds_toArray, List.set_cons_zero, List.set_cons_succ]
      refine wpAnyH_take (i := 17) (v := ?_) rfl (by kernel_rfl) (by kernel_rfl) (by kernel_rfl) (fun _ _ _ h => h) (Or.inl ⟨by rfl, ?_⟩) (by assumption) ?_
      rotate_left
      · intro w hSw
        (try dsimp only at hSw)
        go_simp
        try with_reducible rfl
      simp only [Act.put, List.getElem_toArray, List.getElem_cons_succ, List.getElem_cons_zero, List.setIfInBounds_toArray, List.set_cons_zero, List.set_cons_succ]
      refine wpAnyH_take (i := 18) (v := ?_) rfl (by kernel_rfl) (by kernel_rfl) (by kernel_rfl) (fun _ _ _ h => h) (Or.inl ⟨by rfl, ?_⟩) (by assumption) ?_
      rotate_left
      · intro w hSw
        (try dsimp only at hSw)
        go_simp
        try with_reducible rfl
      simp only [Act.put, List.getElem_toArray, List.getElem_cons_succ, List.getElem_cons_zero, List.setIfInBounds_toArray, List.set_cons_zero, List.set_cons_succ]
      refine wpAnyH_take (i := 19) (v := ?_) rfl (by kernel_rfl) (by kernel_rfl) (by kernel_rfl) (fun _ _ _ h => h) (Or.inl ⟨by rfl, ?_⟩) (by assumption) ?_
      rotate_left
      · intro w hSw
        (try dsimp only at hSw)
        go_simp
        try with_reducible rfl
      simp only [Act.put, List.getElem_toArray, List.getElem_cons_succ, List.getElem_cons_zero, List.setIfInBounds_toArray, List.set_cons_zero, List.set_cons_succ]
      refine wpAnyH_take (i := 20) (v := ?_) rfl (by kernel_rfl) (by kernel_rfl) (by kernel_rfl) (fun _ _ _ h => h) (Or.inl ⟨by rfl, ?_⟩) (by assumption) ?_
      rotate_left
      · intro w hSw
        (try dsimp only at hSw)
        go_simp
        try with_reducible rfl
      simp only [Act.put, List.getElem_toArray, List.getElem_cons_succ, List.getElem_cons_zero, List.setIfInBounds_toArray, List.set_cons_zero, List.set_cons_succ]
      refine wpAnyH_take (i := 21) (v := ?_) rfl (by kernel_rfl) (by kernel_rfl) (by kernel_rfl) (fun _ _ _ h => h) (Or.inl ⟨by rfl, ?_⟩) (by assumption) ?_
      rotate_left
      · intro w hSw
        (try dsimp only at hSw)
        go_simp
        try with_reducible rfl
      simp only [Act.put, List.getElem_toArray, List.getElem_cons_succ, List.getElem_cons_zero, List.setIfInBounds_toArray, List.set_cons_zero, List.set_cons_succ]
      refine wpAnyH_take (i := 24) (v := ?_) rfl (by kernel_rfl) (by kernel_rfl) (by kernel_rfl) (fun _ _ _ h => h) (Or.inl ⟨by rfl, ?_⟩) (by assumption) ?_
      rotate_left
      · intro w hSw
        (try dsimp only at hSw)
        go_simp
        try with_reducible rfl
      simp only [Act.put, List.getElem_toArray, List.getElem_cons_succ, List.getElem_cons_zero, List.setIfInBounds_toArray, List.set_cons_zero, List.set_cons_succ]
      refine wpAnyH_ready (rs := [22]) (by kernel_rfl) (by simp) ?_
      refine AllReadyH.cons rfl (fun K hK => ?_) AllReadyH.nil
      go_simp
      refine (CRd.out _ ((Kept.refl UU).drew)).mono ?_
      rintro e v1 ⟨q1, rfl, o1, t1⟩
      have KZ1 := ((Kept.refl UU).drew).trans t1
      have rB11 := blk_cell (blk_kept KZ1 GB1.out)
      have rB21 := blk_cell (blk_kept KZ1 GB2.out)
      have rB31 := blk_cell (blk_kept KZ1 GB3.out)
      have rB41 := blk_cell (blk_kept KZ1 GB4.out)
      have rV31 := blk_cell (blk_kept KZ1 GV3.out)
      have rH31 := blk_cell (blk_kept KZ1 GH3.out)
      have cb1 := CV.out _ KZ1
      have cc1 := conv_own10 o1
      refine hK.out _ _ (by go_keep) (fun hHeld => ?_)
      clear hK K
      try simp only [Act.put, List.getElem_toArray, List.getElem_cons_succ, List.getElem_cons_zero, List.setIfInBounds_toArray, List.set_cons_zero, List.set_cons_succ]
      refine wpAnyH_ready (rs := [23, 25]) (by kernel_rfl) (by simp) ?_
      refine AllReadyH.cons rfl (fun K hK => ?_) (AllReadyH.cons rfl (fun K hK => ?_) AllReadyH.nil)
      · go_simp
        refine hK.out _ _ (by go_keep) (fun hHeld => ?_)
        clear hK K
        try simp only [Act.put, List.getElem_toArray, List.getElem_cons_succ, List.getElem_cons_zero, List.setIfInBounds_toArray, List.set_cons_zero, List.set_cons_succ]
        refine wpAnyH_ready (rs := [25]) (by kernel_rfl) (by simp) ?_
        refine AllReadyH.cons rfl (fun K hK => ?_) AllReadyH.nil
        go_simp
        refine (CRc.out _ (KZ1)).mono ?_
        rintro e v2 ⟨q2, rfl, o2, t2⟩
        have KZ2 := (KZ1).trans t2
        have rB12 := blk_cell (blk_kept KZ2 GB1.out)
        have rB22 := blk_cell (blk_kept KZ2 GB2.out)
        have rB32 := blk_cell (blk_kept KZ2 GB3.out)
        have rB42 := blk_cell (blk_kept KZ2 GB4.out)
        have rV32 := blk_cell (blk_kept KZ2 GV3.out)
        have rH32 := blk_cell (blk_kept KZ2 GH3.out)
        have cb2 := CV.out _ KZ2
        have cc2 := conv_own10 o2
        refine hK.out _ _ (by go_keep) (fun hHeld => ?_)
        clear hK K
        try simp only [Act.put, List.getElem_toArray, List.getElem_cons_succ, List.getElem_cons_zero, List.setIfInBounds_toArray, List.set_cons_zero, List.set_cons_succ]
        refine wpAnyH_ready (rs := [26]) (by kernel_rfl) (by simp) ?_
        refine AllReadyH.cons rfl (fun K hK => ?_) AllReadyH.nil
        go_simp
        refine hK.out _ _ (by go_keep) (fun hHeld => ?_)
        clear hK K
        try simp only [Act.put, List.getElem_toArray, List.getElem_cons_succ, List.getElem_cons_zero, List.setIfInBounds_toArray, List.set_cons_zero, List.set_cons_succ]
        refine wpAnyH_take (i := 27) (v := ?_) rfl (by kernel_rfl) (by kernel_rfl) (by kernel_rfl) (fun _ _ _ h => h) (Or.inl ⟨by rfl, ?_⟩) (by assumption) ?_
        rotate_left
        · intro w hSw
          (try dsimp only at hSw)
          go_simp
          try with_reducible rfl
        simp only [Act.put, List.getElem_toArray, List.getElem_cons_succ, List.getElem_cons_zero, List.setIfInBounds_toArray, List.set_cons_zero, List.set_cons_succ]
        refine wpAnyH_take (i := 28) (v := ?_) rfl (by kernel_rfl) (by kernel_rfl) (by kernel_rfl) (fun _ _ _ h => h) (Or.inl ⟨by rfl, ?_⟩) (by assumption) ?_
        rotate_left
        · intro w hSw
          (try dsimp only at hSw)
          go_simp
          try with_reducible rfl
        simp only [Act.put, List.getElem_toArray, List.getElem_cons_succ, List.getElem_cons_zero, List.setIfInBounds_toArray, List.set_cons_zero, List.set_cons_succ]
        refine wpAnyH_take (i := 29) (v := ?_) rfl (by kernel_rfl) (by kernel_rfl) (by kernel_rfl) (fun _ _ _ h => h) (Or.inl ⟨by rfl, ?_⟩) (by assumption) ?_
        rotate_left
        · intro w hSw
          (try dsimp only at hSw)
          go_simp
          try with_reducible rfl
        simp only [Act.put, List.getElem_toArray, List.getElem_cons_succ, List.getElem_cons_zero, List.setIfInBounds_toArray, List.set_cons_zero, List.set_cons_succ]
        refine wpAnyH_take (i := 30) (v := ?_) rfl (by kernel_rfl) (by kernel_rfl) (by kernel_rfl) (fun _ _ _ h => h) (Or.inl ⟨by rfl, ?_⟩) (by assumption) ?_
        rotate_left
        · intro w hSw
          (try dsimp only at hSw)
          go_simp
          try with_reducible rfl
        simp only [Act.put, List.getElem_toArray, List.getElem_cons_succ, List.getElem_cons_zero, List.setIfInBounds_toArray, List.set_cons_zero, List.set_cons_succ]
        refine wpAnyH_take (i := 33) (v := ?_) rfl (by kernel_rfl) (by kernel_rfl) (by kernel_rfl) (fun _ _ _ h => h) (Or.inl ⟨by rfl, ?_⟩) (by assumption) ?_
        rotate_left
        · intro w hSw
          (try dsimp only at hSw)
          go_simp
          try with_reducible rfl
        simp only [Act.put, List.getElem_toArray, List.getElem_cons_succ, List.getElem_cons_zero, List.setIfInBounds_toArray, List.set_cons_zero, List.set_cons_succ]
        refine wpAnyH_take (i := 34) (v := ?_) rfl (by kernel_rfl) (by kernel_rfl) (by kernel_rfl) (fun _ _ _ h => h) (Or.inl ⟨by rfl, ?_⟩) (by assumption) ?_
        rotate_left
        · intro w hSw
          (try dsimp only at hSw)
          go_simp
          try with_reducible rfl
        simp only [Act.put, List.getElem_toArray, List.getElem_cons_succ, List.getElem_cons_zero, List.setIfInBounds_toArray, List.set_cons_zero, List.set_cons_succ]
        refine wpAnyH_ready (rs := [31]) (by kernel_rfl) (by simp) ?_
        refine AllReadyH.cons rfl (fun K hK => ?_) AllReadyH.nil
        go_simp
        refine (CSd.out _ (KZ2)).mono ?_
        rintro e v3 ⟨q3, rfl, o3, t3⟩
        have KZ3 := (KZ2).trans t3
        have rB13 := blk_cell (blk_kept KZ3 GB1.out)
        have rB23 := blk_cell (blk_kept KZ3 GB2.out)
        have rB33 := blk_cell (blk_kept KZ3 GB3.out)
        have rB43 := blk_cell (blk_kept KZ3 GB4.out)
        have rV33 := blk_cell (blk_kept KZ3 GV3.out)
        have rH33 := blk_cell (blk_kept KZ3 GH3.out)
        have cb3 := CV.out _ KZ3
        have cc3 := conv_own10 o3
        refine hK.out _ _ (by go_keep) (fun hHeld => ?_)
        clear hK K
        try simp only [Act.put, List.getElem_toArray, List.getElem_cons_succ, List.getElem_cons_zero, List.setIfInBounds_toArray, List.set_cons_zero, List.set_cons_succ]
        refine wpAnyH_ready (rs := [32]) (by kernel_rfl) (by simp) ?_
        refine AllReadyH.cons rfl (fun K hK => ?_) AllReadyH.nil
        go_simp
        refine hK.out _ _ (by go_keep) (fun hHeld => ?_)
        clear hK K
        try simp only [Act.put, List.getElem_toArray, List.getElem_cons_succ, List.getElem_cons_zero, List.setIfInBounds_toArray, List.set_cons_zero, List.set_cons_succ]
        refine wpAnyH_take (i := 35) (v := ?_) rfl (by kernel_rfl) (by kernel_rfl) (by kernel_rfl) (fun _ _ _ h => h) (Or.inl ⟨by rfl, ?_⟩) (by assumption) ?_
        rotate_left
        · intro w hSw
          (try dsimp only at hSw)
          go_simp
          try with_reducible rfl
        simp only [Act.put, List.getElem_toArray, List.getElem_cons_succ, List.getElem_cons_zero, List.setIfInBounds_toArray, List.set_cons_zero, List.set_cons_succ]
        refine wpAnyH_take (i := 36) (v := ?_) rfl (by kernel_rfl) (by kernel_rfl) (by kernel_rfl) (fun _ _ _ h => h) (Or.inl ⟨by rfl, ?_⟩) (by assumption) ?_
        rotate_left
        · intro w hSw
          (try dsimp only at hSw)
          go_simp
          try with_reducible rfl
        simp only [Act.put, List.getElem_toArray, List.getElem_cons_succ, List.getElem_cons_zero, List.setIfInBounds_toArray, List.set_cons_zero, List.set_cons_succ]
        refine wpAnyH_take (i := 37) (v := ?_) rfl (by kernel_rfl) (by kernel_rfl) (by kernel_rfl) (fun _ _ _ h => h) (Or.inl ⟨by rfl, ?_⟩) (by assumption) ?_
        rotate_left
        · intro w hSw
          (try dsimp only at hSw)
          go_simp
          try with_reducible rfl
        simp only [Act.put, List.getElem_toArray, List.getElem_cons_succ, List.getElem_cons_zero, List.setIfInBounds_toArray, List.set_cons_zero, List.set_cons_succ]
        refine wpAnyH_done (by kernel_rfl) ?_ _
        go_wp2
        go_ret
        exact ⟨rfl, KU.out.trans KZ3⟩
      · go_simp
        refine (CRc.out _ (KZ1)).mono ?_
        rintro e v2 ⟨q2, rfl, o2, t2⟩
        have KZ2 := (KZ1).trans t2
        have rB12 := blk_cell (blk_kept KZ2 GB1.out)
        have rB22 := blk_cell (blk_kept KZ2 GB2.out)
        have rB32 := blk_cell (blk_kept KZ2 GB3.out)
        have rB42 := blk_cell (blk_kept KZ2 GB4.out)
        have rV32 := blk_cell (blk_kept KZ2 GV3.out)
        have rH32 := blk_cell (blk_kept KZ2 GH3.out)
        have cb2 := CV.out _ KZ2
        have cc2 := conv_own10 o2
        have cd2 := conv_own10 (owns_kept t2 o1)
        refine hK.out _ _ (by go_keep) (fun hHeld => ?_)
        clear hK K
        try simp only [Act.put, List.getElem_toArray, List.getElem_cons_succ, List.getElem_cons_zero, List.setIfInBounds_toArray, List.set_cons_zero, List.set_cons_succ]
        refine wpAnyH_ready (rs := [23, 26]) (by kernel_rfl) (by simp) ?_
        refine AllReadyH.cons rfl (fun K hK => ?_) (AllReadyH.cons rfl (fun K hK => ?_) AllReadyH.nil)
        · go_simp
          refine hK.out _ _ (by go_keep) (fun hHeld => ?_)
          clear hK K
          try simp only [Act.put, List.getElem_toArray, List.getElem_cons_succ, List.getElem_cons_zero, List.setIfInBounds_toArray, List.set_cons_zero, List.set_cons_succ]
          refine wpAnyH_ready (rs := [26]) (by kernel_rfl) (by simp) ?_
          refine AllReadyH.cons rfl (fun K hK => ?_) AllReadyH.nil
          go_simp
          refine hK.out _ _ (by go_keep) (fun hHeld => ?_)
          clear hK K
          try simp only [Act.put, List.getElem_toArray, List.getElem_cons_succ, List.getElem_cons_zero, List.setIfInBounds_toArray, List.set_cons_zero, List.set_cons_succ]
          refine wpAnyH_take (i := 27) (v := ?_) rfl (by kernel_rfl) (by kernel_rfl) (by kernel_rfl) (fun _ _ _ h => h) (Or.inl ⟨by rfl, ?_⟩) (by assumption) ?_
          rotate_left
          · intro w hSw
            (try dsimp only at hSw)
            go_simp
            try with_reducible rfl
          simp only [Act.put, List.getElem_toArray, List.getElem_cons_succ, List.getElem_cons_zero, List.setIfInBounds_toArray, List.set_cons_zero, List.set_cons_succ]
          refine wpAnyH_take (i := 28) (v := ?_) rfl (by kernel_rfl) (by kernel_rfl) (by kernel_rfl) (fun _ _ _ h => h) (Or.inl ⟨by rfl, ?_⟩) (by assumption) ?_
          rotate_left
          · intro w hSw
            (try dsimp only at hSw)
            go_simp
            try with_reducible rfl
          simp only [Act.put, List.getElem_toArray, List.getElem_cons_succ, List.getElem_cons_zero, List.setIfInBounds_toArray, List.set_cons_zero, List.set_cons_succ]
          refine wpAnyH_take (i := 29) (v := ?_) rfl (by kernel_rfl) (by kernel_rfl) (by kernel_rfl) (fun _ _ _ h => h) (Or.inl ⟨by rfl, ?_⟩) (by assumption) ?_
          rotate_left
          · intro w hSw
            (try dsimp only at hSw)
            go_simp
            try with_reducible rfl
          simp only [Act.put, List.getElem_toArray, List.getElem_cons_succ, List.getElem_cons_zero, List.setIfInBounds_toArray, List.set_cons_zero, List.set_cons_succ]
          refine wpAnyH_take (i := 30) (v := ?_) rfl (by kernel_rfl) (by kernel_rfl) (by kernel_rfl) (fun _ _ _ h => h) (Or.inl ⟨by rfl, ?_⟩) (by assumption) ?_
          rotate_left
          · intro w hSw
            (try dsimp only at hSw)
            go_simp
            try with_reducible rfl
          simp only [Act.put, List.getElem_toArray, List.getElem_cons_succ, List.getElem_cons_zero, List.setIfInBounds_toArray, List.set_cons_zero, List.set_cons_succ]
          refine wpAnyH_take (i := 33) (v := ?_) rfl (by kernel_rfl) (by kernel_rfl) (by kernel_rfl) (fun _ _ _ h => h) (Or.inl ⟨by rfl, ?_⟩) (by assumption) ?_
          rotate_left
          · intro w hSw
            (try dsimp only at hSw)
            go_simp
            try with_reducible rfl
          simp only [Act.put, List.getElem_toArray, List.getElem_cons_succ, List.getElem_cons_zero, List.setIfInBounds_toArray, List.set_cons_zero, List.set_cons_succ]
          refine wpAnyH_take (i := 34) (v := ?_) rfl (by kernel_rfl) (by kernel_rfl) (by kernel_rfl) (fun _ _ _ h => h) (Or.inl ⟨by rfl, ?_⟩) (by assumption) ?_
          rotate_left
          · intro w hSw
            (try dsimp only at hSw)
            go_simp
            try with_reducible rfl
          simp only [Act.put, List.getElem_toArray, List.getElem_cons_succ, List.getElem_cons_zero, List.setIfInBounds_toArray, List.set_cons_zero, List.set_cons_succ]
          refine wpAnyH_ready (rs := [31]) (by kernel_rfl) (by simp) ?_
          refine AllReadyH.cons rfl (fun K hK => ?_) AllReadyH.nil
          go_simp
          refine (CSd.out _ (KZ2)).mono ?_
          rintro e v3 ⟨q3, rfl, o3, t3⟩
          have KZ3 := (KZ2).trans t3
          have rB13 := blk_cell (blk_kept KZ3 GB1.out)
          have rB23 := blk_cell (blk_kept KZ3 GB2.out)
          have rB33 := blk_cell (blk_kept KZ3 GB3.out)
          have rB43 := blk_cell (blk_kept KZ3 GB4.out)
          have rV33 := blk_cell (blk_kept KZ3 GV3.out)
          have rH33 := blk_cell (blk_kept KZ3 GH3.out)
          have cb3 := CV.out _ KZ3
          have cc3 := conv_own10 o3
          refine hK.out _ _ (by go_keep) (fun hHeld => ?_)
          clear hK K
          try simp only [Act.put, List.getElem_toArray, List.getElem_cons_succ, List.getElem_cons_zero, List.setIfInBounds_toArray, List.set_cons_zero, List.set_cons_succ]
          refine wpAnyH_ready (rs := [32]) (by kernel_rfl) (by simp) ?_
          refine AllReadyH.cons rfl (fun K hK => ?_) AllReadyH.nil
          go_simp
          refine hK.out _ _ (by go_keep) (fun hHeld => ?_)
          clear hK K
          try simp only [Act.put, List.getElem_toArray, List.getElem_cons_succ, List.getElem_cons_zero, List.setIfInBounds_toArray, List.set_cons_zero, List.set_cons_succ]
          refine wpAnyH_take (i := 35) (v := ?_) rfl (by kernel_rfl) (by kernel_rfl) (by kernel_rfl) (fun _ _ _ h => h) (Or.inl ⟨by rfl, ?_⟩) (by assumption) ?_
          rotate_left
          · intro w hSw
            (try dsimp only at hSw)
            go_simp
            try with_reducible rfl
          simp only [Act.put, List.getElem_toArray, List.getElem_cons_succ, List.getElem_cons_zero, List.setIfInBounds_toArray, List.set_cons_zero, List.set_cons_succ]
          refine wpAnyH_take (i := 36) (v := ?_) rfl (by kernel_rfl) (by kernel_rfl) (by kernel_rfl) (fun _ _ _ h => h) (Or.inl ⟨by rfl, ?_⟩) (by assumption) ?_
          rotate_left
          · intro w hSw
            (try dsimp only at hSw)
            go_simp
            try with_reducible rfl
          simp only [Act.put, List.getElem_toArray, List.getElem_cons_succ, List.getElem_cons_zero, List.setIfInBounds_toArray, List.set_cons_zero, List.set_cons_succ]
          refine wpAnyH_take (i := 37) (v := ?_) rfl (by kernel_rfl) (by kernel_rfl) (by kernel_rfl) (fun _ _ _ h => h) (Or.inl ⟨by rfl, ?_⟩) (by assumption) ?_
          rotate_left
          · intro w hSw
            (try dsimp only at hSw)
            go_simp
            try with_reducible rfl
          simp only [Act.put, List.getElem_toArray, List.getElem_cons_succ, List.getElem_cons_zero, List.setIfInBounds_toArray, List.set_cons_zero, List.set_cons_succ]
          refine wpAnyH_done (by kernel_rfl) ?_ _
          go_wp2
          go_ret
          exact ⟨rfl, KU.out.trans KZ3⟩
        · go_simp
          refine hK.out _ _ (by go_keep) (fun hHeld => ?_)
          clear hK K
          try simp only [Act.put, List.getElem_toArray, List.getElem_cons_succ, List.getElem_cons_zero, List.setIfInBounds_toArray, List.set_cons_zero, List.set_cons_succ]
          refine wpAnyH_ready (rs := [23]) (by kernel_rfl) (by simp) ?_
          refine AllReadyH.cons rfl (fun K hK => ?_) AllReadyH.nil
          go_simp
          refine hK.out _ _ (by go_keep) (fun hHeld => ?_)
          clear hK K
          try simp only [Act.put, List.getElem_toArray, List.getElem_cons_succ, List.getElem_cons_zero, List.setIfInBounds_toArray, List.set_cons_zero, List.set_cons_succ]
          refine wpAnyH_take (i := 27) (v := ?_) rfl (by kernel_rfl) (by kernel_rfl) (by kernel_rfl) (fun _ _ _ h => h) (Or.inl ⟨by rfl, ?_⟩) (by assumption) ?_
          rotate_left
          · intro w hSw
            (try dsimp only at hSw)
            go_simp
            try with_reducible rfl
          simp only [Act.put, List.getElem_toArray, List.getElem_cons_succ, List.getElem_cons_zero, List.setIfInBounds_toArray, List.set_cons_zero, List.set_cons_succ]
          refine wpAnyH_take (i := 28) (v := ?_) rfl (by kernel_rfl) (by kernel_rfl) (by kernel_rfl) (fun _ _ _ h => h) (Or.inl ⟨by rfl, ?_⟩) (by assumption) ?_
          rotate_left
          · intro w hSw
            (try dsimp only at hSw)
            go_simp
            try with_reducible rfl
          simp only [Act.put, List.getElem_toArray, List.getElem_cons_succ, List.getElem_cons_zero, List.setIfInBounds_toArray, List.set_cons_zero, List.set_cons_succ]
          refine wpAnyH_take (i := 29) (v := ?_) rfl (by kernel_rfl) (by kernel_rfl) (by kernel_rfl) (fun _ _ _ h => h) (Or.inl ⟨by rfl, ?_⟩) (by assumption) ?_
          rotate_left
          · intro w hSw
            (try dsimp only at hSw)
            go_simp
            try with_reducible rfl
          simp only [Act.put, List.getElem_toArray, List.getElem_cons_succ, List.getElem_cons_zero, List.setIfInBounds_toArray, List.set_cons_zero, List.set_cons_succ]
          refine wpAnyH_take (i := 30) (v := ?_) rfl (by kernel_rfl) (by kernel_rfl) (by kernel_rfl) (fun _ _ _ h => h) (Or.inl ⟨by rfl, ?_⟩) (by assumption) ?_
          rotate_left
          · intro w hSw
            (try dsimp only at hSw)
            go_simp
            try with_reducible rfl
          simp only [Act.put, List.getElem_toArray, List.getElem_cons_succ, List.getElem_cons_zero, List.setIfInBounds_toArray, List.set_cons_zero, List.set_cons_succ]
          refine wpAnyH_take (i := 33) (v := ?_) rfl (by kernel_rfl) (by kernel_rfl) (by kernel_rfl) (fun _ _ _ h => h) (Or.inl ⟨by rfl, ?_⟩) (by assumption) ?_
          rotate_left
          · intro w hSw
            (try dsimp only at hSw)
            go_simp
            try with_reducible rfl
          simp only [Act.put, List.getElem_toArray, List.getElem_cons_succ, List.getElem_cons_zero, List.setIfInBounds_toArray, List.set_cons_zero, List.set_cons_succ]
          refine wpAnyH_take (i := 34) (v := ?_) rfl (by kernel_rfl) (by kernel_rfl) (by kernel_rfl) (fun _ _ _ h => h) (Or.inl ⟨by rfl, ?_⟩) (by assumption) ?_
          rotate_left
          · intro w hSw
            (try dsimp only at hSw)
            go_simp
            try with_reducible rfl
          simp only [Act.put, List.getElem_toArray, List.getElem_cons_succ, List.getElem_cons_zero, List.setIfInBounds_toArray, List.set_cons_zero, List.set_cons_succ]
          refine wpAnyH_ready (rs := [31]) (by kernel_rfl) (by simp) ?_
          refine AllReadyH.cons rfl (fun K hK => ?_) AllReadyH.nil
          go_simp
          refine (CSd.out _ (KZ2)).mono ?_
          rintro e v3 ⟨q3, rfl, o3, t3⟩
          have KZ3 := (KZ2).trans t3
          have rB13 := blk_cell (blk_kept KZ3 GB1.out)
          have rB23 := blk_cell (blk_kept KZ3 GB2.out)
          have rB33 := blk_cell (blk_kept KZ3 GB3.out)
          have rB43 := blk_cell (blk_kept KZ3 GB4.out)
          have rV33 := blk_cell (blk_kept KZ3 GV3.out)
          have rH33 := blk_cell (blk_kept KZ3 GH3.out)
          have cb3 := CV.out _ KZ3
          have cc3 := conv_own10 o3
          refine hK.out _ _ (by go_keep) (fun hHeld => ?_)
          clear hK K
          try simp only [Act.put, List.getElem_toArray, List.getElem_cons_succ, List.getElem_cons_zero, List.setIfInBounds_toArray, List.set_cons_zero, List.set_cons_succ]
          refine wpAnyH_ready (rs := [32]) (by kernel_rfl) (by simp) ?_
          refine AllReadyH.cons rfl (fun K hK => ?_) AllReadyH.nil
          go_simp
          refine hK.out _ _ (by go_keep) (fun hHeld => ?_)
          clear hK K
          try simp only [Act.put, List.getElem_toArray, List.getElem_cons_succ, List.getElem_cons_zero, List.setIfInBounds_toArray, List.set_cons_zero, List.set_cons_succ]
          refine wpAnyH_take (i := 35) (v := ?_) rfl (by kernel_rfl) (by kernel_rfl) (by kernel_rfl) (fun _ _ _ h => h) (Or.inl ⟨by rfl, ?_⟩) (by assumption) ?_
          rotate_left
          · intro w hSw
            (try dsimp only at hSw)
            go_simp
            try with_reducible rfl
          simp only [Act.put, List.getElem_toArray, List.getElem_cons_succ, List.getElem_cons_zero, List.setIfInBounds_toArray, List.set_cons_zero, List.set_cons_succ]
          refine wpAnyH_take (i := 36) (v := ?_) rfl (by kernel_rfl) (by kernel_rfl) (by kernel_rfl) (fun _ _ _ h => h) (Or.inl ⟨by rfl, ?_⟩) (by assumption) ?_
          rotate_left
          · intro w hSw
            (try dsimp only at hSw)
            go_simp
            try with_reducible rfl
          simp only [Act.put, List.getElem_toArray, List.getElem_cons_succ, List.getElem_cons_zero, List.setIfInBounds_toArray, List.set_cons_zero, List.set_cons_succ]
          refine wpAnyH_take (i := 37) (v := ?_) rfl (by kernel_rfl) (by kernel_rfl) (by kernel_rfl) (fun _ _ _ h => h) (Or.inl ⟨by rfl, ?_⟩) (by assumption) ?_
          rotate_left
          · intro w hSw
            (try dsimp only at hSw)
            go_simp
            try with_reducible rfl
          simp only [Act.put, List.getElem_toArray, List.getElem_cons_succ, List.getElem_cons_zero, List.setIfInBounds_toArray, List.set_cons_zero, List.set_cons_succ]
          refine wpAnyH_done (by kernel_rfl) ?_ _
          go_wp2
          go_ret
          exact ⟨rfl, KU.out.trans KZ3⟩
end Go.Proofs.YtfmddnekooojkaaDoor
