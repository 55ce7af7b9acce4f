/- CartShut, as a walk. -/
import Derived.Test.YtfmddnekooojkaaDoorG40
namespace Go.Proofs.YtfmddnekooojkaaDoor
open Go.RowKit
set_option linter.unusedVariables false
set_option linter.unusedSimpArgs false

set_option maxRecDepth 100000 in
set_option maxHeartbeats 8000000 in
theorem shut_any (a0 : Option Addr) (cap0 : Nat) (z0 : List Int) (a1 : Option Addr) (cap1 : Nat) (s1 : List Ac) (a2 a3 : Int) (w : World) (lay : Lay7 w) (r0 : Row w a0 z0) (l0 : z0.length ≤ cap0) (m0 : cap0 ≤ maxLen) (n0 : a0 = none → cap0 = 0) (r1 : FRow w a1 4 (s1.map elA)) (q1 : ∀ x ∈ s1, AcIn w x) (l1 : s1.length ≤ cap1) (m1 : cap1 ≤ maxLen) (p0 : 0 ≤ a2) (p1 : a2 ≤ 65535) (x0 : 0 ≤ a3) (x1 : a3 ≤ 255) :
    Calls Tryd.prog 6 #[.slice a0 z0.length cap0, .slice a1 s1.length cap1, .int .u16 a2, .int .u8 a3] w fun e w' => e = .returned (.bool true) ∧ Kept w w' := by
  have S := hid (kshown_any w lay)
  have SB : Sl w a0 cap0 z0 := ⟨r0, l0, m0, n0⟩
  have CN := hid (fun u (g : Kept w u) => knew_any z0 a0 cap0 u (lay.kept g) (sl_kept g SB))
  have t1 : Int.tmod a2 16384 = a2 % 16384 := Int.tmod_eq_emod_of_nonneg p0
  have t2 : Int.tmod a2 8192 = a2 % 8192 := Int.tmod_eq_emod_of_nonneg p0
  have w1 : IntKind.u16.wrap (a2 % 16384) = a2 % 16384 := by rw [IntKind.wrap_u16]; omega
  have w2 : IntKind.u16.wrap (a2 % 8192) = a2 % 8192 := by rw [IntKind.wrap_u16]; omega
  have w3 : IntKind.u16.wrap (40960 + a2 % 8192) = 40960 + a2 % 8192 := by rw [IntKind.wrap_u16]; omega
  have w4 : IntKind.u16.wrap (32768 + a2 % 8192) = 32768 + a2 % 8192 := by rw [IntKind.wrap_u16]; omega
  have w5 : IntKind.u16.wrap (49152 + a2 % 16384) = 49152 + a2 % 16384 := by rw [IntKind.wrap_u16]; omega
  have NM := hid (new_mode z0)
  have NK := hid (new_kind z0)
  have NI := hid (new_is z0)
  have CD := hid (fun s v F u (h : CartAt u s v F) (g : Kept w u) (lf : ∀ k, F k → w.heap.size ≤ k) => kdoes_any s v F a1 cap1 s1 w u h g lf r1 q1 l1 m1)
  clear r0 r1 q1 lay
  generalize newC z0 = S0 at *
  generalize parseE z0 = P at *
  go_enter Tryd.func6, Tryd.ntmps6
  go_wp2_with fail
  refine S.out.mono ?_
  rintro e u1 ⟨rfl, k1⟩
  have K1 := hid k1
  clear k1
  go_wp2_with fail
  refine (CN.out _ K1.out).mono ?_
  rintro e u2 ⟨v, F2, rfl, hv, hc, hF, k2⟩
  have K2 := hid (K1.out.trans k2)
  have C2 := hid hc
  have L2 : ∀ k, F2 k → w.heap.size ≤ k := fun k q => Nat.le_trans K1.out.size (hF k q)
  clear k2 hc hF
  rcases hv with ⟨hP, rfl⟩ | ⟨hP, p, rfl⟩
  · have dP : (P != 0) = true := by simpa using hP
    go_wp2
    go_ret
    exact ⟨rfl, K2.out⟩
  subst hP
  have IS := NI.out rfl
  go_wp2_with fail
  refine (kread_any _ _ _ (a2 % 16384) _ C2.out (by omega) (by omega)).mono ?_
  rintro e u3 ⟨rfl, k3⟩
  have K3 := hid (K2.out.trans k3)
  have C3 := hid (cart_kept C2.out k3)
  clear k3
  go_wp2_with fail
  refine (CD.out _ _ _ _ C3.out K3.out L2).mono ?_
  rintro e u4 ⟨rfl, F4, hc, kx, hG⟩
  have L4 : ∀ k, F4 k → w.heap.size ≤ k := fun k q => by
    rcases hG k q with q | q
    · exact L2 k q
    · exact Nat.le_trans K3.out.size q
  have C4 := hid hc
  have K4 := hid (kx.kept K3.out L2)
  clear hc kx hG
  have DI : (doesS s1 S0).is = true := (doesN_is _ _ _).trans IS
  have DG : (doesS s1 S0).img = S0.img := doesN_img _ _ _
  have DK : KindI (doesS s1 S0).m := by have h := NK.out; unfold KindI at h ⊢; rw [show (doesS s1 S0).m.kind = S0.m.kind from doesN_kind _ _ _]; exact h
  generalize doesS s1 S0 = D at *
  go_wp2_with fail
  refine (kstate_any _ _ _ _ C4.out).mono ?_
  rintro e u5 ⟨rfl, k5⟩
  have K5 := hid (K4.out.trans k5)
  have C5 := hid (cart_kept C4.out k5)
  have MB : Blk (((u5.alloc (.cells ([.int .i64 D.m.kind, .bool D.m.op, .int .u8 D.m.low, .int .u8 D.m.high, .int .u8 D.m.ram, .bool D.m.mode] : List Value).toArray 32)).alloc (.cells ([.int .u8 D.live.sec, .int .u8 D.live.min, .int .u8 D.live.hour, .int .u16 D.live.day, .bool D.live.halt, .bool D.live.carry] : List Value).toArray 34)).alloc (.cells ([.int .u8 D.held.sec, .int .u8 D.held.min, .int .u8 D.held.hour, .int .u16 D.held.day, .bool D.held.halt, .bool D.held.carry] : List Value).toArray 34)) u5.heap.size 32 [.int .i64 D.m.kind, .bool D.m.op, .int .u8 D.m.low, .int .u8 D.m.high, .int .u8 D.m.ram, .bool D.m.mode] := blk_past (blk_past (blk_new u5 _ _) _) _
  have KA := hid (((Kept.refl u5).alloc (.cells ([.int .i64 D.m.kind, .bool D.m.op, .int .u8 D.m.low, .int .u8 D.m.high, .int .u8 D.m.ram, .bool D.m.mode] : List Value).toArray 32)).alloc (.cells ([.int .u8 D.live.sec, .int .u8 D.live.min, .int .u8 D.live.hour, .int .u16 D.live.day, .bool D.live.halt, .bool D.live.carry] : List Value).toArray 34) |>.alloc (.cells ([.int .u8 D.held.sec, .int .u8 D.held.min, .int .u8 D.held.hour, .int .u16 D.held.day, .bool D.held.halt, .bool D.held.carry] : List Value).toArray 34))
  clear k5
  go_wp2_with fail
  refine (kram_any _ _ _ _ (cart_kept C5.out KA.out)).mono ?_
  rintro e u6 ⟨r6, rfl, o6, k6⟩
  have K6 := hid ((K5.out.trans KA.out).trans k6)
  have C6 := hid (cart_kept (cart_kept C5.out KA.out) k6)
  have M6 := hid (blk_kept k6 MB)
  have L6 := L4
  have c6 := conv_own10 o6
  clear k6 o6 MB
  go_wp2_with fail
  refine (kwrite_any _ _ _ (40960 + a2 % 8192) a3 _ C6.out (by omega) (by omega) (by omega) (by omega)).mono ?_
  rintro e u7 ⟨rfl, F7, hc, kx, hG⟩
  have L7 : ∀ k, F7 k → w.heap.size ≤ k := fun k q => by
    rcases hG k q with q | q
    · exact L6 k q
    · exact Nat.le_trans K6.out.size q
  have C7 := hid hc
  have K7 := hid (kx.kept K6.out L6)
  have M7 := hid (blkX kx M6.out (fun q => by have h1 := cart_lt C5.out _ q; omega))
  have q7 := blk_cell M7.out
  clear hc kx hG
  have SR := hid (shut_ram D (40960 + a2 % 8192) a3 DK)
  have WI : (writeS D (40960 + a2 % 8192) a3).is = true := (writeS_is _ _ _).trans DI
  have WG : (writeS D (40960 + a2 % 8192) a3).img = S0.img := (write_img _ _ _).trans DG
  have WL : (writeS D (40960 + a2 % 8192) a3).ram.length = D.ram.length := write_rlen _ _ _
  generalize hE : writeS D (40960 + a2 % 8192) a3 = E at *
  have LS : (strB D.ram).size = D.ram.length := by simp [strB, ByteArray.size]
  clear CD S SB CN NI c6
  have kk : D.m.kind = 0 ∨ (D.m.kind ≠ 0 ∧ D.m.op = true) ∨ (D.m.kind ≠ 0 ∧ D.m.op = false) := by cases D.m.op <;> simp <;> omega
  rcases kk with k0 | ⟨k0, ko⟩ | ⟨k0, ko⟩
  · have b0 : (D.m.kind != 0) = false := by simpa using k0
    go_wp2_with fail
    refine (kwrite_any _ _ _ (32768 + a2 % 8192) a3 _ C7.out (by omega) (by omega) (by omega) (by omega)).mono ?_
    rintro e u8 ⟨rfl, F8, hc, kx, hG⟩
    have L8 : ∀ k, F8 k → w.heap.size ≤ k := fun k q => by
      rcases hG k q with q | q
      · exact L7 k q
      · exact Nat.le_trans K7.out.size q
    have C8 := hid hc
    have K8 := hid (kx.kept K7.out L7)
    clear hc kx hG
    have WI2 : (writeS E (32768 + a2 % 8192) a3).is = true := (writeS_is _ _ _).trans WI
    have WG2 : (writeS E (32768 + a2 % 8192) a3).img = S0.img := (write_img _ _ _).trans WG
    have WL2 : (writeS E (32768 + a2 % 8192) a3).ram.length = D.ram.length := (write_rlen _ _ _).trans WL
    clear WI WG WL
    have WI := WI2
    have WG := WG2
    have WL := WL2
    clear WI2 WG2 WL2
    generalize writeS E (32768 + a2 % 8192) a3 = E2 at *
    go_wp2_with fail
    refine (kwrite_any _ _ _ (49152 + a2 % 16384) a3 _ C8.out (by omega) (by omega) (by omega) (by omega)).mono ?_
    rintro e u9 ⟨rfl, F9, hc, kx, hG⟩
    have L9 : ∀ k, F9 k → w.heap.size ≤ k := fun k q => by
      rcases hG k q with q | q
      · exact L8 k q
      · exact Nat.le_trans K8.out.size q
    have C9 := hid hc
    have K9 := hid (kx.kept K8.out L8)
    clear hc kx hG
    have WI2 : (writeS E2 (49152 + a2 % 16384) a3).is = true := (writeS_is _ _ _).trans WI
    have WG2 : (writeS E2 (49152 + a2 % 16384) a3).img = S0.img := (write_img _ _ _).trans WG
    have WL2 : (writeS E2 (49152 + a2 % 16384) a3).ram.length = D.ram.length := (write_rlen _ _ _).trans WL
    clear WI WG WL
    have WI := WI2
    have WG := WG2
    have WL := WL2
    clear WI2 WG2 WL2
    generalize writeS E2 (49152 + a2 % 16384) a3 = E3 at *
    go_wp2_with fail
    refine (kwrite_any _ _ _ 24576 0 _ C9.out (by omega) (by omega) (by omega) (by omega)).mono ?_
    rintro e u10 ⟨rfl, F10, hc, kx, hG⟩
    have L10 : ∀ k, F10 k → w.heap.size ≤ k := fun k q => by
      rcases hG k q with q | q
      · exact L9 k q
      · exact Nat.le_trans K9.out.size q
    have C10 := hid hc
    have K10 := hid (kx.kept K9.out L9)
    clear hc kx hG
    have MO := hid (write_mode E3 WI)
    have WI2 : (writeS E3 24576 0).is = true := (writeS_is _ _ _).trans WI
    have WG2 : (writeS E3 24576 0).img = S0.img := (write_img _ _ _).trans WG
    have WL2 : (writeS E3 24576 0).ram.length = D.ram.length := (write_rlen _ _ _).trans WL
    clear WI WG WL
    have WI := WI2
    have WG := WG2
    have WL := WL2
    clear WI2 WG2 WL2
    generalize writeS E3 24576 0 = E4 at *
    have RL := read_low S0 E4 (a2 % 16384) IS WI WG NM.out MO.out (by omega)
    have RG := read_gap E4 (32768 + a2 % 8192) (by omega) (by omega)
    have CA := hid (fun u (g : Kept u10 u) => kread_any E4 _ _ (a2 % 16384) u (cart_kept C10.out g) (by omega) (by omega))
    have CB := hid (fun u (g : Kept u10 u) => kread_any E4 _ _ (32768 + a2 % 8192) u (cart_kept C10.out g) (by omega) (by omega))
    have CC := hid (fun u (g : Kept u10 u) => kram_any E4 _ _ u (cart_kept C10.out g))
    rw [RL] at CA
    rw [RG] at CB
    have RB := hid (cart_ok C10.out).ram
    clear RL RG
    go_wp2_with fail
    refine (CA.out _ (Kept.refl _)).mono ?_
    rintro e ua ⟨rfl, ka⟩
    go_wp2_with fail
    refine (CB.out _ ka).mono ?_
    rintro e ub ⟨rfl, kb⟩
    go_wp2_with fail
    refine (CC.out _ (ka.trans kb)).mono ?_
    rintro e uc ⟨rc, rfl, oc, kc⟩
    obtain ⟨ac, cc, rfl, _, _⟩ := own_sl oc RB.out
    have KZ := hid (K10.out.trans ((ka.trans kb).trans kc))
    clear ka kb kc oc
    go_wp2
    go_ret
    exact ⟨rfl, KZ.out⟩
  · have b0 : (D.m.kind != 0) = true := by simpa using k0
    go_wp2_with fail
    refine (kwrite_any _ _ _ (32768 + a2 % 8192) a3 _ C7.out (by omega) (by omega) (by omega) (by omega)).mono ?_
    rintro e u8 ⟨rfl, F8, hc, kx, hG⟩
    have L8 : ∀ k, F8 k → w.heap.size ≤ k := fun k q => by
      rcases hG k q with q | q
      · exact L7 k q
      · exact Nat.le_trans K7.out.size q
    have C8 := hid hc
    have K8 := hid (kx.kept K7.out L7)
    clear hc kx hG
    have WI2 : (writeS E (32768 + a2 % 8192) a3).is = true := (writeS_is _ _ _).trans WI
    have WG2 : (writeS E (32768 + a2 % 8192) a3).img = S0.img := (write_img _ _ _).trans WG
    have WL2 : (writeS E (32768 + a2 % 8192) a3).ram.length = D.ram.length := (write_rlen _ _ _).trans WL
    clear WI WG WL
    have WI := WI2
    have WG := WG2
    have WL := WL2
    clear WI2 WG2 WL2
    generalize writeS E (32768 + a2 % 8192) a3 = E2 at *
    go_wp2_with fail
    refine (kwrite_any _ _ _ (49152 + a2 % 16384) a3 _ C8.out (by omega) (by omega) (by omega) (by omega)).mono ?_
    rintro e u9 ⟨rfl, F9, hc, kx, hG⟩
    have L9 : ∀ k, F9 k → w.heap.size ≤ k := fun k q => by
      rcases hG k q with q | q
      · exact L8 k q
      · exact Nat.le_trans K8.out.size q
    have C9 := hid hc
    have K9 := hid (kx.kept K8.out L8)
    clear hc kx hG
    have WI2 : (writeS E2 (49152 + a2 % 16384) a3).is = true := (writeS_is _ _ _).trans WI
    have WG2 : (writeS E2 (49152 + a2 % 16384) a3).img = S0.img := (write_img _ _ _).trans WG
    have WL2 : (writeS E2 (49152 + a2 % 16384) a3).ram.length = D.ram.length := (write_rlen _ _ _).trans WL
    clear WI WG WL
    have WI := WI2
    have WG := WG2
    have WL := WL2
    clear WI2 WG2 WL2
    generalize writeS E2 (49152 + a2 % 16384) a3 = E3 at *
    go_wp2_with fail
    refine (kwrite_any _ _ _ 24576 0 _ C9.out (by omega) (by omega) (by omega) (by omega)).mono ?_
    rintro e u10 ⟨rfl, F10, hc, kx, hG⟩
    have L10 : ∀ k, F10 k → w.heap.size ≤ k := fun k q => by
      rcases hG k q with q | q
      · exact L9 k q
      · exact Nat.le_trans K9.out.size q
    have C10 := hid hc
    have K10 := hid (kx.kept K9.out L9)
    clear hc kx hG
    have MO := hid (write_mode E3 WI)
    have WI2 : (writeS E3 24576 0).is = true := (writeS_is _ _ _).trans WI
    have WG2 : (writeS E3 24576 0).img = S0.img := (write_img _ _ _).trans WG
    have WL2 : (writeS E3 24576 0).ram.length = D.ram.length := (write_rlen _ _ _).trans WL
    clear WI WG WL
    have WI := WI2
    have WG := WG2
    have WL := WL2
    clear WI2 WG2 WL2
    generalize writeS E3 24576 0 = E4 at *
    have RL := read_low S0 E4 (a2 % 16384) IS WI WG NM.out MO.out (by omega)
    have RG := read_gap E4 (32768 + a2 % 8192) (by omega) (by omega)
    have CA := hid (fun u (g : Kept u10 u) => kread_any E4 _ _ (a2 % 16384) u (cart_kept C10.out g) (by omega) (by omega))
    have CB := hid (fun u (g : Kept u10 u) => kread_any E4 _ _ (32768 + a2 % 8192) u (cart_kept C10.out g) (by omega) (by omega))
    have CC := hid (fun u (g : Kept u10 u) => kram_any E4 _ _ u (cart_kept C10.out g))
    rw [RL] at CA
    rw [RG] at CB
    have RB := hid (cart_ok C10.out).ram
    clear RL RG
    go_wp2_with fail
    refine (CA.out _ (Kept.refl _)).mono ?_
    rintro e ua ⟨rfl, ka⟩
    go_wp2_with fail
    refine (CB.out _ ka).mono ?_
    rintro e ub ⟨rfl, kb⟩
    go_wp2_with fail
    refine (CC.out _ (ka.trans kb)).mono ?_
    rintro e uc ⟨rc, rfl, oc, kc⟩
    obtain ⟨ac, cc, rfl, _, _⟩ := own_sl oc RB.out
    have KZ := hid (K10.out.trans ((ka.trans kb).trans kc))
    clear ka kb kc oc
    go_wp2
    go_ret
    exact ⟨rfl, KZ.out⟩
  · have b0 : (D.m.kind != 0) = true := by simpa using k0
    have ER := SR.out k0 ko (by omega)
    go_wp2_with fail
    refine (kram_any _ _ _ _ C7.out).mono ?_
    rintro e u8 ⟨r8, rfl, o8, k8⟩
    have K8 := hid (K7.out.trans k8)
    have C8 := hid (cart_kept C7.out k8)
    have L8 := L7
    have c8 := conv_own10 o8
    rw [ER] at c8
    have F8 := F7
    clear k8 o8
    go_wp2_with fail
    refine (kwrite_any _ _ _ (32768 + a2 % 8192) a3 _ C8.out (by omega) (by omega) (by omega) (by omega)).mono ?_
    rintro e u9 ⟨rfl, F9, hc, kx, hG⟩
    have L9 : ∀ k, F9 k → w.heap.size ≤ k := fun k q => by
      rcases hG k q with q | q
      · exact L8 k q
      · exact Nat.le_trans K8.out.size q
    have C9 := hid hc
    have K9 := hid (kx.kept K8.out L8)
    clear hc kx hG
    have WI2 : (writeS E (32768 + a2 % 8192) a3).is = true := (writeS_is _ _ _).trans WI
    have WG2 : (writeS E (32768 + a2 % 8192) a3).img = S0.img := (write_img _ _ _).trans WG
    have WL2 : (writeS E (32768 + a2 % 8192) a3).ram.length = D.ram.length := (write_rlen _ _ _).trans WL
    clear WI WG WL
    have WI := WI2
    have WG := WG2
    have WL := WL2
    clear WI2 WG2 WL2
    generalize writeS E (32768 + a2 % 8192) a3 = E2 at *
    go_wp2_with fail
    refine (kwrite_any _ _ _ (49152 + a2 % 16384) a3 _ C9.out (by omega) (by omega) (by omega) (by omega)).mono ?_
    rintro e u10 ⟨rfl, F10, hc, kx, hG⟩
    have L10 : ∀ k, F10 k → w.heap.size ≤ k := fun k q => by
      rcases hG k q with q | q
      · exact L9 k q
      · exact Nat.le_trans K9.out.size q
    have C10 := hid hc
    have K10 := hid (kx.kept K9.out L9)
    clear hc kx hG
    have WI2 : (writeS E2 (49152 + a2 % 16384) a3).is = true := (writeS_is _ _ _).trans WI
    have WG2 : (writeS E2 (49152 + a2 % 16384) a3).img = S0.img := (write_img _ _ _).trans WG
    have WL2 : (writeS E2 (49152 + a2 % 16384) a3).ram.length = D.ram.length := (write_rlen _ _ _).trans WL
    clear WI WG WL
    have WI := WI2
    have WG := WG2
    have WL := WL2
    clear WI2 WG2 WL2
    generalize writeS E2 (49152 + a2 % 16384) a3 = E3 at *
    go_wp2_with fail
    refine (kwrite_any _ _ _ 24576 0 _ C10.out (by omega) (by omega) (by omega) (by omega)).mono ?_
    rintro e u11 ⟨rfl, F11, hc, kx, hG⟩
    have L11 : ∀ k, F11 k → w.heap.size ≤ k := fun k q => by
      rcases hG k q with q | q
      · exact L10 k q
      · exact Nat.le_trans K10.out.size q
    have C11 := hid hc
    have K11 := hid (kx.kept K10.out L10)
    clear hc kx hG
    have MO := hid (write_mode E3 WI)
    have WI2 : (writeS E3 24576 0).is = true := (writeS_is _ _ _).trans WI
    have WG2 : (writeS E3 24576 0).img = S0.img := (write_img _ _ _).trans WG
    have WL2 : (writeS E3 24576 0).ram.length = D.ram.length := (write_rlen _ _ _).trans WL
    clear WI WG WL
    have WI := WI2
    have WG := WG2
    have WL := WL2
    clear WI2 WG2 WL2
    generalize writeS E3 24576 0 = E4 at *
    have RL := read_low S0 E4 (a2 % 16384) IS WI WG NM.out MO.out (by omega)
    have RG := read_gap E4 (32768 + a2 % 8192) (by omega) (by omega)
    have CA := hid (fun u (g : Kept u11 u) => kread_any E4 _ _ (a2 % 16384) u (cart_kept C11.out g) (by omega) (by omega))
    have CB := hid (fun u (g : Kept u11 u) => kread_any E4 _ _ (32768 + a2 % 8192) u (cart_kept C11.out g) (by omega) (by omega))
    have CC := hid (fun u (g : Kept u11 u) => kram_any E4 _ _ u (cart_kept C11.out g))
    rw [RL] at CA
    rw [RG] at CB
    have RB := hid (cart_ok C11.out).ram
    clear RL RG
    go_wp2_with fail
    refine (CA.out _ (Kept.refl _)).mono ?_
    rintro e ua ⟨rfl, ka⟩
    go_wp2_with fail
    refine (CB.out _ ka).mono ?_
    rintro e ub ⟨rfl, kb⟩
    go_wp2_with fail
    refine (CC.out _ (ka.trans kb)).mono ?_
    rintro e uc ⟨rc, rfl, oc, kc⟩
    obtain ⟨ac, cc, rfl, _, _⟩ := own_sl oc RB.out
    have KZ := hid (K11.out.trans ((ka.trans kb).trans kc))
    clear ka kb kc oc
    go_wp2
    go_ret
    exact ⟨rfl, KZ.out⟩
end Go.Proofs.YtfmddnekooojkaaDoor
