/- Layer 20's law Back. -/
import Derived.Test.YtfndpikcodjajaaDoorSw20
namespace Go.Proofs.YtfndpikcodjajaaDoor
open Go.RowKit
set_option linter.unusedVariables false
set_option linter.unusedSimpArgs false

theorem get_put (M : List Int) (hM : M.length = 16671) (a v : Int) (a0 : 0 ≤ a) (a1 : a ≤ 65535) : getP (putP M a v) a = if keepR (regP a) = true then v else 255 := by
  unfold getP putP
  split
  · rename_i h
    rw [List.getD_eq_getElem?_getD, List.getElem?_set_self (by rw [hM]; exact pl_lt a a0 a1 h)]
    rfl
  · rfl
theorem get_like (M : List Int) (a o : Int) (hr : regP a = regP o) (hx : atP20 a = atP20 o) : getP M o = getP M a := by unfold getP plN; rw [hr, hx]
theorem on_apart {r s : Int} {i j : Nat} (hr : keepR r = true) (hs : keepR s = true) (hi : i < nNat r) (hj : j < nNat s) (h : oNat r + i = oNat s + j) : r = s ∧ i = j := by
  rcases keep_cases hr with rfl | rfl | rfl | rfl <;> rcases keep_cases hs with rfl | rfl | rfl | rfl
  · rw [show oNat 1 = 0 from rfl] at h
    rw [show nNat 1 = 8192 from rfl] at hi
    exact ⟨rfl, by omega⟩
  · rw [show oNat 1 = 0 from rfl] at h
    rw [show nNat 1 = 8192 from rfl] at hi
    rw [show oNat 3 = 8192 from rfl] at h
    rw [show nNat 3 = 8192 from rfl] at hj
    omega
  · rw [show oNat 1 = 0 from rfl] at h
    rw [show nNat 1 = 8192 from rfl] at hi
    rw [show oNat 4 = 16384 from rfl] at h
    rw [show nNat 4 = 160 from rfl] at hj
    omega
  · rw [show oNat 1 = 0 from rfl] at h
    rw [show nNat 1 = 8192 from rfl] at hi
    rw [show oNat 7 = 16544 from rfl] at h
    rw [show nNat 7 = 127 from rfl] at hj
    omega
  · rw [show oNat 3 = 8192 from rfl] at h
    rw [show nNat 3 = 8192 from rfl] at hi
    rw [show oNat 1 = 0 from rfl] at h
    rw [show nNat 1 = 8192 from rfl] at hj
    omega
  · rw [show oNat 3 = 8192 from rfl] at h
    rw [show nNat 3 = 8192 from rfl] at hi
    exact ⟨rfl, by omega⟩
  · rw [show oNat 3 = 8192 from rfl] at h
    rw [show nNat 3 = 8192 from rfl] at hi
    rw [show oNat 4 = 16384 from rfl] at h
    rw [show nNat 4 = 160 from rfl] at hj
    omega
  · rw [show oNat 3 = 8192 from rfl] at h
    rw [show nNat 3 = 8192 from rfl] at hi
    rw [show oNat 7 = 16544 from rfl] at h
    rw [show nNat 7 = 127 from rfl] at hj
    omega
  · rw [show oNat 4 = 16384 from rfl] at h
    rw [show nNat 4 = 160 from rfl] at hi
    rw [show oNat 1 = 0 from rfl] at h
    rw [show nNat 1 = 8192 from rfl] at hj
    omega
  · rw [show oNat 4 = 16384 from rfl] at h
    rw [show nNat 4 = 160 from rfl] at hi
    rw [show oNat 3 = 8192 from rfl] at h
    rw [show nNat 3 = 8192 from rfl] at hj
    omega
  · rw [show oNat 4 = 16384 from rfl] at h
    rw [show nNat 4 = 160 from rfl] at hi
    exact ⟨rfl, by omega⟩
  · rw [show oNat 4 = 16384 from rfl] at h
    rw [show nNat 4 = 160 from rfl] at hi
    rw [show oNat 7 = 16544 from rfl] at h
    rw [show nNat 7 = 127 from rfl] at hj
    omega
  · rw [show oNat 7 = 16544 from rfl] at h
    rw [show nNat 7 = 127 from rfl] at hi
    rw [show oNat 1 = 0 from rfl] at h
    rw [show nNat 1 = 8192 from rfl] at hj
    omega
  · rw [show oNat 7 = 16544 from rfl] at h
    rw [show nNat 7 = 127 from rfl] at hi
    rw [show oNat 3 = 8192 from rfl] at h
    rw [show nNat 3 = 8192 from rfl] at hj
    omega
  · rw [show oNat 7 = 16544 from rfl] at h
    rw [show nNat 7 = 127 from rfl] at hi
    rw [show oNat 4 = 16384 from rfl] at h
    rw [show nNat 4 = 160 from rfl] at hj
    omega
  · rw [show oNat 7 = 16544 from rfl] at h
    rw [show nNat 7 = 127 from rfl] at hi
    exact ⟨rfl, by omega⟩
theorem get_other (M : List Int) (a v o : Int) (a0 : 0 ≤ a) (a1 : a ≤ 65535) (o0 : 0 ≤ o) (o1 : o ≤ 65535) (h : ¬ (regP a = regP o ∧ atP20 a = atP20 o)) : getP (putP M a v) o = getP M o := by
  unfold getP putP
  split
  · rename_i ho
    split
    · rename_i ha
      have : plN a ≠ plN o := fun e => h (by
        have q := on_apart ha ho (at_lt a a0 a1 ha) (at_lt o o0 o1 ho) e
        have x := (at_in a a0 a1).1
        have y := (at_in o o0 o1).1
        exact ⟨q.1, by omega⟩)
      rw [List.getD_eq_getElem?_getD, List.getElem?_set_ne this]
      rfl
    · rfl
  · rfl
theorem get_twin (M : List Int) (a o : Int) (hr : regP a = 3) (x : Int) (hx : atP20 a = x) (ho : regP o = 3 ∧ atP20 o = x) : getP M o = getP M a := get_like M a o (by rw [hr, ho.1]) (by rw [hx, ho.2])
theorem at_low (x : Int) (x0 : 0 ≤ x) (x1 : x < 7680) : regP (49152 + x) = 3 ∧ atP20 (49152 + x) = x := by
  have e : rwK (49152 + x) = 3 := by
    rcases rw_cases (49152 + x) (by omega) (by omega) with ⟨e, p0, p1⟩ | ⟨e, p0, p1⟩ | ⟨e, p0, p1⟩ | ⟨e, p0, p1⟩ | ⟨e, p0, p1⟩ | ⟨e, p0, p1⟩ | ⟨e, p0, p1⟩ | ⟨e, p0, p1⟩ | ⟨e, p0, p1⟩ | ⟨e, p0, p1⟩
    all_goals first | exact e | omega
  unfold regP atP20
  rw [e]
  exact ⟨rfl, by show 49152 + x - 49152 = x; omega⟩
theorem at_high (x : Int) (x0 : 0 ≤ x) (x1 : x < 7680) : regP (57344 + x) = 3 ∧ atP20 (57344 + x) = x := by
  have e : rwK (57344 + x) = 4 := by
    rcases rw_cases (57344 + x) (by omega) (by omega) with ⟨e, p0, p1⟩ | ⟨e, p0, p1⟩ | ⟨e, p0, p1⟩ | ⟨e, p0, p1⟩ | ⟨e, p0, p1⟩ | ⟨e, p0, p1⟩ | ⟨e, p0, p1⟩ | ⟨e, p0, p1⟩ | ⟨e, p0, p1⟩ | ⟨e, p0, p1⟩
    all_goals first | exact e | omega
  unfold regP atP20
  rw [e]
  exact ⟨rfl, by show 57344 + x - 57344 = x; omega⟩
set_option maxRecDepth 100000 in
set_option maxHeartbeats 4000000 in
theorem back_1_same_no (a v o q r x s y g : Int) (M1 M2 : List Int) (w : World) (lay : Lay20 w) (o0 : 0 ≤ o) (o1 : o ≤ 65535) (q0 : 0 ≤ q) (q1 : q ≤ 255) (hM1 : putP M0 o q = M1)
    (R1 : ∀ u, Lay20 u → Calls Tryd.prog 10 #[.int .u16 a] u fun e w' => e = .returned (.tuple #[.int .i64 r, .int .i64 x]) ∧ Kept u w')
    (R2 : ∀ u, Lay20 u → Calls Tryd.prog 10 #[.int .u16 o] u fun e w' => e = .returned (.tuple #[.int .i64 s, .int .i64 y]) ∧ Kept u w')
    (GW : ∀ (b : Nat) u, MemAt u b M1 → Lay20 u → Calls Tryd.prog 20 #[.pointer (some ⟨b, 0, none⟩), .int .u16 o] u fun e w' => e = .returned (.int .u8 g) ∧ Kept u w')
    (PA : ∀ (b : Nat) u, MemAt u b M1 → Lay20 u → Calls Tryd.prog 22 #[.pointer (some ⟨b, 0, none⟩), .int .u16 a, .int .u8 v] u fun e w' => e = .returned (.tuple #[]) ∧ (MemAt w' b M2 ∧ KeptX (fun j => j = b) u w'))
    (GA : ∀ (b : Nat) u, MemAt u b M2 → Lay20 u → Calls Tryd.prog 20 #[.pointer (some ⟨b, 0, none⟩), .int .u16 a] u fun e w' => e = .returned (.int .u8 v) ∧ Kept u w') (GO : ∀ (b : Nat) u, MemAt u b M2 → Lay20 u → Calls Tryd.prog 20 #[.pointer (some ⟨b, 0, none⟩), .int .u16 o] u fun e w' => e = .returned (.int .u8 v) ∧ Kept u w') (hr : r = 1) (hs : s = r) (hy : x = y) :
    Calls Tryd.prog 7 #[.int .u16 a, .int .u8 v, .int .u16 o, .int .u8 q] w fun e w' => e = .returned (.bool true) ∧ Kept w w' := by
  have LY : Hid (∀ u, Kept w u → Lay20 u) := fun u k => lay20_kept lay k
  have SH := hid (kshown20 w lay)
  clear lay
  have R1 := hid R1
  have R2 := hid R2
  have GW := hid GW
  have PA := hid PA
  have GA := hid GA
  have GO := hid GO
  subst hr
  subst hs
  subst hy
  go_enter Tryd.func7, Tryd.ntmps7
  go_wp2_with fail
  refine SH.out.mono ?_
  rintro e u0 ⟨rfl, k0⟩
  have K0 := hid k0
  clear k0 SH
  go_wp2_with fail
  refine (pnew20 _ (LY.out _ K0.out)).mono ?_
  rintro e u1 ⟨rfl, m1, k1⟩
  have K1 := hid (K0.out.trans k1)
  have M1 := hid m1
  have NB : Hid (w.heap.size ≤ u0.heap.size) := K0.out.size
  clear k1 m1
  go_wp2_with fail
  refine (pput20 _ M0 o q _ M1.out (LY.out _ K1.out) o0 o1 ⟨q0, q1⟩).mono ?_
  rw [hM1]
  rintro e u2 ⟨rfl, m2, k2⟩
  have K2 := hid (k2.kept K1.out (fun j h => by rw [h]; exact NB.out))
  have M2_ := hid m2
  clear k2 m2 M1
  go_wp2_with fail
  refine (GW.out _ _ M2_.out (LY.out _ K2.out)).mono ?_
  rintro e u3 ⟨rfl, k3⟩
  have K3 := hid (K2.out.trans k3)
  have M3 := hid (mem_kept M2_.out k3)
  clear k3 M2_
  go_wp2_with fail
  refine (PA.out _ _ M3.out (LY.out _ K3.out)).mono ?_
  rintro e u4 ⟨rfl, m4, k4⟩
  have K4 := hid (k4.kept K3.out (fun j h => by rw [h]; exact NB.out))
  have M4 := hid m4
  clear k4 m4 M3 NB PA GW
  go_wp2_with fail
  refine (R1.out _ (LY.out _ K4.out)).mono ?_
  rintro e u5 ⟨rfl, k5⟩
  have K5 := hid (K4.out.trans k5)
  have M5 := hid (mem_kept M4.out k5)
  clear k5 M4 R1
  go_wp2_with fail
  refine (R2.out _ (LY.out _ K5.out)).mono ?_
  rintro e u6 ⟨rfl, k6⟩
  have K6 := hid (K5.out.trans k6)
  have M6 := hid (mem_kept M5.out k6)
  clear k6 M5 R2
  go_wp2_with fail
  refine (GA.out _ _ M6.out (LY.out _ K6.out)).mono ?_
  rintro e u7 ⟨rfl, k7⟩
  have K7 := hid (K6.out.trans k7)
  have M7 := hid (mem_kept M6.out k7)
  clear k7
  go_wp2_with fail
  refine (GO.out _ _ M7.out (LY.out _ K7.out)).mono ?_
  rintro e u8 ⟨rfl, k8⟩
  have K8 := hid (K7.out.trans k8)
  have M8 := hid (mem_kept M7.out k8)
  clear k8
  go_wp2_with fail
  refine (GA.out _ _ M8.out (LY.out _ K8.out)).mono ?_
  rintro e u9 ⟨rfl, k9⟩
  have K9 := hid (K8.out.trans k9)
  have M9 := hid (mem_kept M8.out k9)
  clear k9
  go_wp2
  go_ret
  exact ⟨rfl, K9.out⟩
set_option maxRecDepth 100000 in
set_option maxHeartbeats 4000000 in
theorem back_1_reg_no (a v o q r x s y g : Int) (M1 M2 : List Int) (w : World) (lay : Lay20 w) (o0 : 0 ≤ o) (o1 : o ≤ 65535) (q0 : 0 ≤ q) (q1 : q ≤ 255) (hM1 : putP M0 o q = M1)
    (R1 : ∀ u, Lay20 u → Calls Tryd.prog 10 #[.int .u16 a] u fun e w' => e = .returned (.tuple #[.int .i64 r, .int .i64 x]) ∧ Kept u w')
    (R2 : ∀ u, Lay20 u → Calls Tryd.prog 10 #[.int .u16 o] u fun e w' => e = .returned (.tuple #[.int .i64 s, .int .i64 y]) ∧ Kept u w')
    (GW : ∀ (b : Nat) u, MemAt u b M1 → Lay20 u → Calls Tryd.prog 20 #[.pointer (some ⟨b, 0, none⟩), .int .u16 o] u fun e w' => e = .returned (.int .u8 g) ∧ Kept u w')
    (PA : ∀ (b : Nat) u, MemAt u b M1 → Lay20 u → Calls Tryd.prog 22 #[.pointer (some ⟨b, 0, none⟩), .int .u16 a, .int .u8 v] u fun e w' => e = .returned (.tuple #[]) ∧ (MemAt w' b M2 ∧ KeptX (fun j => j = b) u w'))
    (GA : ∀ (b : Nat) u, MemAt u b M2 → Lay20 u → Calls Tryd.prog 20 #[.pointer (some ⟨b, 0, none⟩), .int .u16 a] u fun e w' => e = .returned (.int .u8 v) ∧ Kept u w') (GO : ∀ (b : Nat) u, MemAt u b M2 → Lay20 u → Calls Tryd.prog 20 #[.pointer (some ⟨b, 0, none⟩), .int .u16 o] u fun e w' => e = .returned (.int .u8 g) ∧ Kept u w') (hr : r = 1) (hs : r ≠ s) :
    Calls Tryd.prog 7 #[.int .u16 a, .int .u8 v, .int .u16 o, .int .u8 q] w fun e w' => e = .returned (.bool true) ∧ Kept w w' := by
  have LY : Hid (∀ u, Kept w u → Lay20 u) := fun u k => lay20_kept lay k
  have SH := hid (kshown20 w lay)
  clear lay
  have R1 := hid R1
  have R2 := hid R2
  have GW := hid GW
  have PA := hid PA
  have GA := hid GA
  have GO := hid GO
  subst hr
  have d1 : ((1 : Int) != s) = true := by simpa using hs
  have d2 : ((1 : Int) == s) = false := by simpa using hs
  clear hs
  go_enter Tryd.func7, Tryd.ntmps7
  go_wp2_with fail
  refine SH.out.mono ?_
  rintro e u0 ⟨rfl, k0⟩
  have K0 := hid k0
  clear k0 SH
  go_wp2_with fail
  refine (pnew20 _ (LY.out _ K0.out)).mono ?_
  rintro e u1 ⟨rfl, m1, k1⟩
  have K1 := hid (K0.out.trans k1)
  have M1 := hid m1
  have NB : Hid (w.heap.size ≤ u0.heap.size) := K0.out.size
  clear k1 m1
  go_wp2_with fail
  refine (pput20 _ M0 o q _ M1.out (LY.out _ K1.out) o0 o1 ⟨q0, q1⟩).mono ?_
  rw [hM1]
  rintro e u2 ⟨rfl, m2, k2⟩
  have K2 := hid (k2.kept K1.out (fun j h => by rw [h]; exact NB.out))
  have M2_ := hid m2
  clear k2 m2 M1
  go_wp2_with fail
  refine (GW.out _ _ M2_.out (LY.out _ K2.out)).mono ?_
  rintro e u3 ⟨rfl, k3⟩
  have K3 := hid (K2.out.trans k3)
  have M3 := hid (mem_kept M2_.out k3)
  clear k3 M2_
  go_wp2_with fail
  refine (PA.out _ _ M3.out (LY.out _ K3.out)).mono ?_
  rintro e u4 ⟨rfl, m4, k4⟩
  have K4 := hid (k4.kept K3.out (fun j h => by rw [h]; exact NB.out))
  have M4 := hid m4
  clear k4 m4 M3 NB PA GW
  go_wp2_with fail
  refine (R1.out _ (LY.out _ K4.out)).mono ?_
  rintro e u5 ⟨rfl, k5⟩
  have K5 := hid (K4.out.trans k5)
  have M5 := hid (mem_kept M4.out k5)
  clear k5 M4 R1
  go_wp2_with fail
  refine (R2.out _ (LY.out _ K5.out)).mono ?_
  rintro e u6 ⟨rfl, k6⟩
  have K6 := hid (K5.out.trans k6)
  have M6 := hid (mem_kept M5.out k6)
  clear k6 M5 R2
  go_wp2_with fail
  refine (GA.out _ _ M6.out (LY.out _ K6.out)).mono ?_
  rintro e u7 ⟨rfl, k7⟩
  have K7 := hid (K6.out.trans k7)
  have M7 := hid (mem_kept M6.out k7)
  clear k7
  go_wp2_with fail
  refine (GO.out _ _ M7.out (LY.out _ K7.out)).mono ?_
  rintro e u8 ⟨rfl, k8⟩
  have K8 := hid (K7.out.trans k8)
  have M8 := hid (mem_kept M7.out k8)
  clear k8
  go_wp2
  go_ret
  exact ⟨rfl, K8.out⟩
set_option maxRecDepth 100000 in
set_option maxHeartbeats 4000000 in
theorem back_1_at_no (a v o q r x s y g : Int) (M1 M2 : List Int) (w : World) (lay : Lay20 w) (o0 : 0 ≤ o) (o1 : o ≤ 65535) (q0 : 0 ≤ q) (q1 : q ≤ 255) (hM1 : putP M0 o q = M1)
    (R1 : ∀ u, Lay20 u → Calls Tryd.prog 10 #[.int .u16 a] u fun e w' => e = .returned (.tuple #[.int .i64 r, .int .i64 x]) ∧ Kept u w')
    (R2 : ∀ u, Lay20 u → Calls Tryd.prog 10 #[.int .u16 o] u fun e w' => e = .returned (.tuple #[.int .i64 s, .int .i64 y]) ∧ Kept u w')
    (GW : ∀ (b : Nat) u, MemAt u b M1 → Lay20 u → Calls Tryd.prog 20 #[.pointer (some ⟨b, 0, none⟩), .int .u16 o] u fun e w' => e = .returned (.int .u8 g) ∧ Kept u w')
    (PA : ∀ (b : Nat) u, MemAt u b M1 → Lay20 u → Calls Tryd.prog 22 #[.pointer (some ⟨b, 0, none⟩), .int .u16 a, .int .u8 v] u fun e w' => e = .returned (.tuple #[]) ∧ (MemAt w' b M2 ∧ KeptX (fun j => j = b) u w'))
    (GA : ∀ (b : Nat) u, MemAt u b M2 → Lay20 u → Calls Tryd.prog 20 #[.pointer (some ⟨b, 0, none⟩), .int .u16 a] u fun e w' => e = .returned (.int .u8 v) ∧ Kept u w') (GO : ∀ (b : Nat) u, MemAt u b M2 → Lay20 u → Calls Tryd.prog 20 #[.pointer (some ⟨b, 0, none⟩), .int .u16 o] u fun e w' => e = .returned (.int .u8 g) ∧ Kept u w') (hr : r = 1) (hs : s = r) (hy : x ≠ y) :
    Calls Tryd.prog 7 #[.int .u16 a, .int .u8 v, .int .u16 o, .int .u8 q] w fun e w' => e = .returned (.bool true) ∧ Kept w w' := by
  have LY : Hid (∀ u, Kept w u → Lay20 u) := fun u k => lay20_kept lay k
  have SH := hid (kshown20 w lay)
  clear lay
  have R1 := hid R1
  have R2 := hid R2
  have GW := hid GW
  have PA := hid PA
  have GA := hid GA
  have GO := hid GO
  subst hr
  subst hs
  have d1 : (x != y) = true := by simpa using hy
  have d2 : (x == y) = false := by simpa using hy
  clear hy
  go_enter Tryd.func7, Tryd.ntmps7
  go_wp2_with fail
  refine SH.out.mono ?_
  rintro e u0 ⟨rfl, k0⟩
  have K0 := hid k0
  clear k0 SH
  go_wp2_with fail
  refine (pnew20 _ (LY.out _ K0.out)).mono ?_
  rintro e u1 ⟨rfl, m1, k1⟩
  have K1 := hid (K0.out.trans k1)
  have M1 := hid m1
  have NB : Hid (w.heap.size ≤ u0.heap.size) := K0.out.size
  clear k1 m1
  go_wp2_with fail
  refine (pput20 _ M0 o q _ M1.out (LY.out _ K1.out) o0 o1 ⟨q0, q1⟩).mono ?_
  rw [hM1]
  rintro e u2 ⟨rfl, m2, k2⟩
  have K2 := hid (k2.kept K1.out (fun j h => by rw [h]; exact NB.out))
  have M2_ := hid m2
  clear k2 m2 M1
  go_wp2_with fail
  refine (GW.out _ _ M2_.out (LY.out _ K2.out)).mono ?_
  rintro e u3 ⟨rfl, k3⟩
  have K3 := hid (K2.out.trans k3)
  have M3 := hid (mem_kept M2_.out k3)
  clear k3 M2_
  go_wp2_with fail
  refine (PA.out _ _ M3.out (LY.out _ K3.out)).mono ?_
  rintro e u4 ⟨rfl, m4, k4⟩
  have K4 := hid (k4.kept K3.out (fun j h => by rw [h]; exact NB.out))
  have M4 := hid m4
  clear k4 m4 M3 NB PA GW
  go_wp2_with fail
  refine (R1.out _ (LY.out _ K4.out)).mono ?_
  rintro e u5 ⟨rfl, k5⟩
  have K5 := hid (K4.out.trans k5)
  have M5 := hid (mem_kept M4.out k5)
  clear k5 M4 R1
  go_wp2_with fail
  refine (R2.out _ (LY.out _ K5.out)).mono ?_
  rintro e u6 ⟨rfl, k6⟩
  have K6 := hid (K5.out.trans k6)
  have M6 := hid (mem_kept M5.out k6)
  clear k6 M5 R2
  go_wp2_with fail
  refine (GA.out _ _ M6.out (LY.out _ K6.out)).mono ?_
  rintro e u7 ⟨rfl, k7⟩
  have K7 := hid (K6.out.trans k7)
  have M7 := hid (mem_kept M6.out k7)
  clear k7
  go_wp2_with fail
  refine (GO.out _ _ M7.out (LY.out _ K7.out)).mono ?_
  rintro e u8 ⟨rfl, k8⟩
  have K8 := hid (K7.out.trans k8)
  have M8 := hid (mem_kept M7.out k8)
  clear k8
  go_wp2
  go_ret
  exact ⟨rfl, K8.out⟩
set_option maxRecDepth 100000 in
set_option maxHeartbeats 4000000 in
theorem back_3_same_far (a v o q r x s y g : Int) (M1 M2 : List Int) (w : World) (lay : Lay20 w) (o0 : 0 ≤ o) (o1 : o ≤ 65535) (q0 : 0 ≤ q) (q1 : q ≤ 255) (hM1 : putP M0 o q = M1)
    (R1 : ∀ u, Lay20 u → Calls Tryd.prog 10 #[.int .u16 a] u fun e w' => e = .returned (.tuple #[.int .i64 r, .int .i64 x]) ∧ Kept u w')
    (R2 : ∀ u, Lay20 u → Calls Tryd.prog 10 #[.int .u16 o] u fun e w' => e = .returned (.tuple #[.int .i64 s, .int .i64 y]) ∧ Kept u w')
    (GW : ∀ (b : Nat) u, MemAt u b M1 → Lay20 u → Calls Tryd.prog 20 #[.pointer (some ⟨b, 0, none⟩), .int .u16 o] u fun e w' => e = .returned (.int .u8 g) ∧ Kept u w')
    (PA : ∀ (b : Nat) u, MemAt u b M1 → Lay20 u → Calls Tryd.prog 22 #[.pointer (some ⟨b, 0, none⟩), .int .u16 a, .int .u8 v] u fun e w' => e = .returned (.tuple #[]) ∧ (MemAt w' b M2 ∧ KeptX (fun j => j = b) u w'))
    (GA : ∀ (b : Nat) u, MemAt u b M2 → Lay20 u → Calls Tryd.prog 20 #[.pointer (some ⟨b, 0, none⟩), .int .u16 a] u fun e w' => e = .returned (.int .u8 v) ∧ Kept u w') (GO : ∀ (b : Nat) u, MemAt u b M2 → Lay20 u → Calls Tryd.prog 20 #[.pointer (some ⟨b, 0, none⟩), .int .u16 o] u fun e w' => e = .returned (.int .u8 v) ∧ Kept u w') (hr : r = 3) (hs : s = r) (hy : x = y) (hx : 7680 ≤ x) :
    Calls Tryd.prog 7 #[.int .u16 a, .int .u8 v, .int .u16 o, .int .u8 q] w fun e w' => e = .returned (.bool true) ∧ Kept w w' := by
  have LY : Hid (∀ u, Kept w u → Lay20 u) := fun u k => lay20_kept lay k
  have SH := hid (kshown20 w lay)
  clear lay
  have R1 := hid R1
  have R2 := hid R2
  have GW := hid GW
  have PA := hid PA
  have GA := hid GA
  have GO := hid GO
  subst hr
  subst hs
  subst hy
  have f1 : decide (7680 ≤ x) = true := decide_eq_true hx
  clear hx
  go_enter Tryd.func7, Tryd.ntmps7
  go_wp2_with fail
  refine SH.out.mono ?_
  rintro e u0 ⟨rfl, k0⟩
  have K0 := hid k0
  clear k0 SH
  go_wp2_with fail
  refine (pnew20 _ (LY.out _ K0.out)).mono ?_
  rintro e u1 ⟨rfl, m1, k1⟩
  have K1 := hid (K0.out.trans k1)
  have M1 := hid m1
  have NB : Hid (w.heap.size ≤ u0.heap.size) := K0.out.size
  clear k1 m1
  go_wp2_with fail
  refine (pput20 _ M0 o q _ M1.out (LY.out _ K1.out) o0 o1 ⟨q0, q1⟩).mono ?_
  rw [hM1]
  rintro e u2 ⟨rfl, m2, k2⟩
  have K2 := hid (k2.kept K1.out (fun j h => by rw [h]; exact NB.out))
  have M2_ := hid m2
  clear k2 m2 M1
  go_wp2_with fail
  refine (GW.out _ _ M2_.out (LY.out _ K2.out)).mono ?_
  rintro e u3 ⟨rfl, k3⟩
  have K3 := hid (K2.out.trans k3)
  have M3 := hid (mem_kept M2_.out k3)
  clear k3 M2_
  go_wp2_with fail
  refine (PA.out _ _ M3.out (LY.out _ K3.out)).mono ?_
  rintro e u4 ⟨rfl, m4, k4⟩
  have K4 := hid (k4.kept K3.out (fun j h => by rw [h]; exact NB.out))
  have M4 := hid m4
  clear k4 m4 M3 NB PA GW
  go_wp2_with fail
  refine (R1.out _ (LY.out _ K4.out)).mono ?_
  rintro e u5 ⟨rfl, k5⟩
  have K5 := hid (K4.out.trans k5)
  have M5 := hid (mem_kept M4.out k5)
  clear k5 M4 R1
  go_wp2_with fail
  refine (R2.out _ (LY.out _ K5.out)).mono ?_
  rintro e u6 ⟨rfl, k6⟩
  have K6 := hid (K5.out.trans k6)
  have M6 := hid (mem_kept M5.out k6)
  clear k6 M5 R2
  go_wp2_with fail
  refine (GA.out _ _ M6.out (LY.out _ K6.out)).mono ?_
  rintro e u7 ⟨rfl, k7⟩
  have K7 := hid (K6.out.trans k7)
  have M7 := hid (mem_kept M6.out k7)
  clear k7
  go_wp2_with fail
  refine (GO.out _ _ M7.out (LY.out _ K7.out)).mono ?_
  rintro e u8 ⟨rfl, k8⟩
  have K8 := hid (K7.out.trans k8)
  have M8 := hid (mem_kept M7.out k8)
  clear k8
  go_wp2_with fail
  refine (GA.out _ _ M8.out (LY.out _ K8.out)).mono ?_
  rintro e u9 ⟨rfl, k9⟩
  have K9 := hid (K8.out.trans k9)
  have M9 := hid (mem_kept M8.out k9)
  clear k9
  go_wp2
  go_ret
  exact ⟨rfl, K9.out⟩
set_option maxRecDepth 100000 in
set_option maxHeartbeats 4000000 in
theorem back_3_same_twin (a v o q r x s y g : Int) (M1 M2 : List Int) (w : World) (lay : Lay20 w) (o0 : 0 ≤ o) (o1 : o ≤ 65535) (q0 : 0 ≤ q) (q1 : q ≤ 255) (hM1 : putP M0 o q = M1)
    (R1 : ∀ u, Lay20 u → Calls Tryd.prog 10 #[.int .u16 a] u fun e w' => e = .returned (.tuple #[.int .i64 r, .int .i64 x]) ∧ Kept u w')
    (R2 : ∀ u, Lay20 u → Calls Tryd.prog 10 #[.int .u16 o] u fun e w' => e = .returned (.tuple #[.int .i64 s, .int .i64 y]) ∧ Kept u w')
    (GW : ∀ (b : Nat) u, MemAt u b M1 → Lay20 u → Calls Tryd.prog 20 #[.pointer (some ⟨b, 0, none⟩), .int .u16 o] u fun e w' => e = .returned (.int .u8 g) ∧ Kept u w')
    (PA : ∀ (b : Nat) u, MemAt u b M1 → Lay20 u → Calls Tryd.prog 22 #[.pointer (some ⟨b, 0, none⟩), .int .u16 a, .int .u8 v] u fun e w' => e = .returned (.tuple #[]) ∧ (MemAt w' b M2 ∧ KeptX (fun j => j = b) u w'))
    (GA : ∀ (b : Nat) u, MemAt u b M2 → Lay20 u → Calls Tryd.prog 20 #[.pointer (some ⟨b, 0, none⟩), .int .u16 a] u fun e w' => e = .returned (.int .u8 v) ∧ Kept u w') (GO : ∀ (b : Nat) u, MemAt u b M2 → Lay20 u → Calls Tryd.prog 20 #[.pointer (some ⟨b, 0, none⟩), .int .u16 o] u fun e w' => e = .returned (.int .u8 v) ∧ Kept u w') (hr : r = 3) (hs : s = r) (hy : x = y) (hx : x < 7680) (x0 : 0 ≤ x) (GL : ∀ (b : Nat) u, MemAt u b M2 → Lay20 u → Calls Tryd.prog 20 #[.pointer (some ⟨b, 0, none⟩), .int .u16 (49152 + x)] u fun e w' => e = .returned (.int .u8 v) ∧ Kept u w') (GH : ∀ (b : Nat) u, MemAt u b M2 → Lay20 u → Calls Tryd.prog 20 #[.pointer (some ⟨b, 0, none⟩), .int .u16 (57344 + x)] u fun e w' => e = .returned (.int .u8 v) ∧ Kept u w') :
    Calls Tryd.prog 7 #[.int .u16 a, .int .u8 v, .int .u16 o, .int .u8 q] w fun e w' => e = .returned (.bool true) ∧ Kept w w' := by
  have LY : Hid (∀ u, Kept w u → Lay20 u) := fun u k => lay20_kept lay k
  have SH := hid (kshown20 w lay)
  clear lay
  have R1 := hid R1
  have R2 := hid R2
  have GW := hid GW
  have PA := hid PA
  have GA := hid GA
  have GO := hid GO
  subst hr
  subst hs
  subst hy
  have f1 : decide (7680 ≤ x) = false := decide_eq_false (by omega)
  have f2 : IntKind.u16.wrap x = x := by rw [IntKind.wrap_u16]; omega
  have f3 : IntKind.u16.wrap (49152 + x) = 49152 + x := by rw [IntKind.wrap_u16]; omega
  have f4 : IntKind.u16.wrap (57344 + x) = 57344 + x := by rw [IntKind.wrap_u16]; omega
  clear hx x0
  have GL := hid GL
  have GH := hid GH
  go_enter Tryd.func7, Tryd.ntmps7
  go_wp2_with fail
  refine SH.out.mono ?_
  rintro e u0 ⟨rfl, k0⟩
  have K0 := hid k0
  clear k0 SH
  go_wp2_with fail
  refine (pnew20 _ (LY.out _ K0.out)).mono ?_
  rintro e u1 ⟨rfl, m1, k1⟩
  have K1 := hid (K0.out.trans k1)
  have M1 := hid m1
  have NB : Hid (w.heap.size ≤ u0.heap.size) := K0.out.size
  clear k1 m1
  go_wp2_with fail
  refine (pput20 _ M0 o q _ M1.out (LY.out _ K1.out) o0 o1 ⟨q0, q1⟩).mono ?_
  rw [hM1]
  rintro e u2 ⟨rfl, m2, k2⟩
  have K2 := hid (k2.kept K1.out (fun j h => by rw [h]; exact NB.out))
  have M2_ := hid m2
  clear k2 m2 M1
  go_wp2_with fail
  refine (GW.out _ _ M2_.out (LY.out _ K2.out)).mono ?_
  rintro e u3 ⟨rfl, k3⟩
  have K3 := hid (K2.out.trans k3)
  have M3 := hid (mem_kept M2_.out k3)
  clear k3 M2_
  go_wp2_with fail
  refine (PA.out _ _ M3.out (LY.out _ K3.out)).mono ?_
  rintro e u4 ⟨rfl, m4, k4⟩
  have K4 := hid (k4.kept K3.out (fun j h => by rw [h]; exact NB.out))
  have M4 := hid m4
  clear k4 m4 M3 NB PA GW
  go_wp2_with fail
  refine (R1.out _ (LY.out _ K4.out)).mono ?_
  rintro e u5 ⟨rfl, k5⟩
  have K5 := hid (K4.out.trans k5)
  have M5 := hid (mem_kept M4.out k5)
  clear k5 M4 R1
  go_wp2_with fail
  refine (R2.out _ (LY.out _ K5.out)).mono ?_
  rintro e u6 ⟨rfl, k6⟩
  have K6 := hid (K5.out.trans k6)
  have M6 := hid (mem_kept M5.out k6)
  clear k6 M5 R2
  go_wp2_with fail
  refine (GA.out _ _ M6.out (LY.out _ K6.out)).mono ?_
  rintro e u7 ⟨rfl, k7⟩
  have K7 := hid (K6.out.trans k7)
  have M7 := hid (mem_kept M6.out k7)
  clear k7
  go_wp2_with fail
  refine (GO.out _ _ M7.out (LY.out _ K7.out)).mono ?_
  rintro e u8 ⟨rfl, k8⟩
  have K8 := hid (K7.out.trans k8)
  have M8 := hid (mem_kept M7.out k8)
  clear k8
  go_wp2_with fail
  refine (GA.out _ _ M8.out (LY.out _ K8.out)).mono ?_
  rintro e u9 ⟨rfl, k9⟩
  have K9 := hid (K8.out.trans k9)
  have M9 := hid (mem_kept M8.out k9)
  clear k9
  go_wp2_with fail
  refine (GL.out _ _ M9.out (LY.out _ K9.out)).mono ?_
  rintro e u10 ⟨rfl, k10⟩
  have K10 := hid (K9.out.trans k10)
  have M10 := hid (mem_kept M9.out k10)
  clear k10
  go_wp2_with fail
  refine (GH.out _ _ M10.out (LY.out _ K10.out)).mono ?_
  rintro e u11 ⟨rfl, k11⟩
  have K11 := hid (K10.out.trans k11)
  have M11 := hid (mem_kept M10.out k11)
  clear k11
  go_wp2
  go_ret
  exact ⟨rfl, K11.out⟩
set_option maxRecDepth 100000 in
set_option maxHeartbeats 4000000 in
theorem back_3_reg_far (a v o q r x s y g : Int) (M1 M2 : List Int) (w : World) (lay : Lay20 w) (o0 : 0 ≤ o) (o1 : o ≤ 65535) (q0 : 0 ≤ q) (q1 : q ≤ 255) (hM1 : putP M0 o q = M1)
    (R1 : ∀ u, Lay20 u → Calls Tryd.prog 10 #[.int .u16 a] u fun e w' => e = .returned (.tuple #[.int .i64 r, .int .i64 x]) ∧ Kept u w')
    (R2 : ∀ u, Lay20 u → Calls Tryd.prog 10 #[.int .u16 o] u fun e w' => e = .returned (.tuple #[.int .i64 s, .int .i64 y]) ∧ Kept u w')
    (GW : ∀ (b : Nat) u, MemAt u b M1 → Lay20 u → Calls Tryd.prog 20 #[.pointer (some ⟨b, 0, none⟩), .int .u16 o] u fun e w' => e = .returned (.int .u8 g) ∧ Kept u w')
    (PA : ∀ (b : Nat) u, MemAt u b M1 → Lay20 u → Calls Tryd.prog 22 #[.pointer (some ⟨b, 0, none⟩), .int .u16 a, .int .u8 v] u fun e w' => e = .returned (.tuple #[]) ∧ (MemAt w' b M2 ∧ KeptX (fun j => j = b) u w'))
    (GA : ∀ (b : Nat) u, MemAt u b M2 → Lay20 u → Calls Tryd.prog 20 #[.pointer (some ⟨b, 0, none⟩), .int .u16 a] u fun e w' => e = .returned (.int .u8 v) ∧ Kept u w') (GO : ∀ (b : Nat) u, MemAt u b M2 → Lay20 u → Calls Tryd.prog 20 #[.pointer (some ⟨b, 0, none⟩), .int .u16 o] u fun e w' => e = .returned (.int .u8 g) ∧ Kept u w') (hr : r = 3) (hs : r ≠ s) (hx : 7680 ≤ x) :
    Calls Tryd.prog 7 #[.int .u16 a, .int .u8 v, .int .u16 o, .int .u8 q] w fun e w' => e = .returned (.bool true) ∧ Kept w w' := by
  have LY : Hid (∀ u, Kept w u → Lay20 u) := fun u k => lay20_kept lay k
  have SH := hid (kshown20 w lay)
  clear lay
  have R1 := hid R1
  have R2 := hid R2
  have GW := hid GW
  have PA := hid PA
  have GA := hid GA
  have GO := hid GO
  subst hr
  have d1 : ((3 : Int) != s) = true := by simpa using hs
  have d2 : ((3 : Int) == s) = false := by simpa using hs
  clear hs
  have f1 : decide (7680 ≤ x) = true := decide_eq_true hx
  clear hx
  go_enter Tryd.func7, Tryd.ntmps7
  go_wp2_with fail
  refine SH.out.mono ?_
  rintro e u0 ⟨rfl, k0⟩
  have K0 := hid k0
  clear k0 SH
  go_wp2_with fail
  refine (pnew20 _ (LY.out _ K0.out)).mono ?_
  rintro e u1 ⟨rfl, m1, k1⟩
  have K1 := hid (K0.out.trans k1)
  have M1 := hid m1
  have NB : Hid (w.heap.size ≤ u0.heap.size) := K0.out.size
  clear k1 m1
  go_wp2_with fail
  refine (pput20 _ M0 o q _ M1.out (LY.out _ K1.out) o0 o1 ⟨q0, q1⟩).mono ?_
  rw [hM1]
  rintro e u2 ⟨rfl, m2, k2⟩
  have K2 := hid (k2.kept K1.out (fun j h => by rw [h]; exact NB.out))
  have M2_ := hid m2
  clear k2 m2 M1
  go_wp2_with fail
  refine (GW.out _ _ M2_.out (LY.out _ K2.out)).mono ?_
  rintro e u3 ⟨rfl, k3⟩
  have K3 := hid (K2.out.trans k3)
  have M3 := hid (mem_kept M2_.out k3)
  clear k3 M2_
  go_wp2_with fail
  refine (PA.out _ _ M3.out (LY.out _ K3.out)).mono ?_
  rintro e u4 ⟨rfl, m4, k4⟩
  have K4 := hid (k4.kept K3.out (fun j h => by rw [h]; exact NB.out))
  have M4 := hid m4
  clear k4 m4 M3 NB PA GW
  go_wp2_with fail
  refine (R1.out _ (LY.out _ K4.out)).mono ?_
  rintro e u5 ⟨rfl, k5⟩
  have K5 := hid (K4.out.trans k5)
  have M5 := hid (mem_kept M4.out k5)
  clear k5 M4 R1
  go_wp2_with fail
  refine (R2.out _ (LY.out _ K5.out)).mono ?_
  rintro e u6 ⟨rfl, k6⟩
  have K6 := hid (K5.out.trans k6)
  have M6 := hid (mem_kept M5.out k6)
  clear k6 M5 R2
  go_wp2_with fail
  refine (GA.out _ _ M6.out (LY.out _ K6.out)).mono ?_
  rintro e u7 ⟨rfl, k7⟩
  have K7 := hid (K6.out.trans k7)
  have M7 := hid (mem_kept M6.out k7)
  clear k7
  go_wp2_with fail
  refine (GO.out _ _ M7.out (LY.out _ K7.out)).mono ?_
  rintro e u8 ⟨rfl, k8⟩
  have K8 := hid (K7.out.trans k8)
  have M8 := hid (mem_kept M7.out k8)
  clear k8
  go_wp2
  go_ret
  exact ⟨rfl, K8.out⟩
set_option maxRecDepth 100000 in
set_option maxHeartbeats 4000000 in
theorem back_3_reg_twin (a v o q r x s y g : Int) (M1 M2 : List Int) (w : World) (lay : Lay20 w) (o0 : 0 ≤ o) (o1 : o ≤ 65535) (q0 : 0 ≤ q) (q1 : q ≤ 255) (hM1 : putP M0 o q = M1)
    (R1 : ∀ u, Lay20 u → Calls Tryd.prog 10 #[.int .u16 a] u fun e w' => e = .returned (.tuple #[.int .i64 r, .int .i64 x]) ∧ Kept u w')
    (R2 : ∀ u, Lay20 u → Calls Tryd.prog 10 #[.int .u16 o] u fun e w' => e = .returned (.tuple #[.int .i64 s, .int .i64 y]) ∧ Kept u w')
    (GW : ∀ (b : Nat) u, MemAt u b M1 → Lay20 u → Calls Tryd.prog 20 #[.pointer (some ⟨b, 0, none⟩), .int .u16 o] u fun e w' => e = .returned (.int .u8 g) ∧ Kept u w')
    (PA : ∀ (b : Nat) u, MemAt u b M1 → Lay20 u → Calls Tryd.prog 22 #[.pointer (some ⟨b, 0, none⟩), .int .u16 a, .int .u8 v] u fun e w' => e = .returned (.tuple #[]) ∧ (MemAt w' b M2 ∧ KeptX (fun j => j = b) u w'))
    (GA : ∀ (b : Nat) u, MemAt u b M2 → Lay20 u → Calls Tryd.prog 20 #[.pointer (some ⟨b, 0, none⟩), .int .u16 a] u fun e w' => e = .returned (.int .u8 v) ∧ Kept u w') (GO : ∀ (b : Nat) u, MemAt u b M2 → Lay20 u → Calls Tryd.prog 20 #[.pointer (some ⟨b, 0, none⟩), .int .u16 o] u fun e w' => e = .returned (.int .u8 g) ∧ Kept u w') (hr : r = 3) (hs : r ≠ s) (hx : x < 7680) (x0 : 0 ≤ x) (GL : ∀ (b : Nat) u, MemAt u b M2 → Lay20 u → Calls Tryd.prog 20 #[.pointer (some ⟨b, 0, none⟩), .int .u16 (49152 + x)] u fun e w' => e = .returned (.int .u8 v) ∧ Kept u w') (GH : ∀ (b : Nat) u, MemAt u b M2 → Lay20 u → Calls Tryd.prog 20 #[.pointer (some ⟨b, 0, none⟩), .int .u16 (57344 + x)] u fun e w' => e = .returned (.int .u8 v) ∧ Kept u w') :
    Calls Tryd.prog 7 #[.int .u16 a, .int .u8 v, .int .u16 o, .int .u8 q] w fun e w' => e = .returned (.bool true) ∧ Kept w w' := by
  have LY : Hid (∀ u, Kept w u → Lay20 u) := fun u k => lay20_kept lay k
  have SH := hid (kshown20 w lay)
  clear lay
  have R1 := hid R1
  have R2 := hid R2
  have GW := hid GW
  have PA := hid PA
  have GA := hid GA
  have GO := hid GO
  subst hr
  have d1 : ((3 : Int) != s) = true := by simpa using hs
  have d2 : ((3 : Int) == s) = false := by simpa using hs
  clear hs
  have f1 : decide (7680 ≤ x) = false := decide_eq_false (by omega)
  have f2 : IntKind.u16.wrap x = x := by rw [IntKind.wrap_u16]; omega
  have f3 : IntKind.u16.wrap (49152 + x) = 49152 + x := by rw [IntKind.wrap_u16]; omega
  have f4 : IntKind.u16.wrap (57344 + x) = 57344 + x := by rw [IntKind.wrap_u16]; omega
  clear hx x0
  have GL := hid GL
  have GH := hid GH
  go_enter Tryd.func7, Tryd.ntmps7
  go_wp2_with fail
  refine SH.out.mono ?_
  rintro e u0 ⟨rfl, k0⟩
  have K0 := hid k0
  clear k0 SH
  go_wp2_with fail
  refine (pnew20 _ (LY.out _ K0.out)).mono ?_
  rintro e u1 ⟨rfl, m1, k1⟩
  have K1 := hid (K0.out.trans k1)
  have M1 := hid m1
  have NB : Hid (w.heap.size ≤ u0.heap.size) := K0.out.size
  clear k1 m1
  go_wp2_with fail
  refine (pput20 _ M0 o q _ M1.out (LY.out _ K1.out) o0 o1 ⟨q0, q1⟩).mono ?_
  rw [hM1]
  rintro e u2 ⟨rfl, m2, k2⟩
  have K2 := hid (k2.kept K1.out (fun j h => by rw [h]; exact NB.out))
  have M2_ := hid m2
  clear k2 m2 M1
  go_wp2_with fail
  refine (GW.out _ _ M2_.out (LY.out _ K2.out)).mono ?_
  rintro e u3 ⟨rfl, k3⟩
  have K3 := hid (K2.out.trans k3)
  have M3 := hid (mem_kept M2_.out k3)
  clear k3 M2_
  go_wp2_with fail
  refine (PA.out _ _ M3.out (LY.out _ K3.out)).mono ?_
  rintro e u4 ⟨rfl, m4, k4⟩
  have K4 := hid (k4.kept K3.out (fun j h => by rw [h]; exact NB.out))
  have M4 := hid m4
  clear k4 m4 M3 NB PA GW
  go_wp2_with fail
  refine (R1.out _ (LY.out _ K4.out)).mono ?_
  rintro e u5 ⟨rfl, k5⟩
  have K5 := hid (K4.out.trans k5)
  have M5 := hid (mem_kept M4.out k5)
  clear k5 M4 R1
  go_wp2_with fail
  refine (R2.out _ (LY.out _ K5.out)).mono ?_
  rintro e u6 ⟨rfl, k6⟩
  have K6 := hid (K5.out.trans k6)
  have M6 := hid (mem_kept M5.out k6)
  clear k6 M5 R2
  go_wp2_with fail
  refine (GA.out _ _ M6.out (LY.out _ K6.out)).mono ?_
  rintro e u7 ⟨rfl, k7⟩
  have K7 := hid (K6.out.trans k7)
  have M7 := hid (mem_kept M6.out k7)
  clear k7
  go_wp2_with fail
  refine (GO.out _ _ M7.out (LY.out _ K7.out)).mono ?_
  rintro e u8 ⟨rfl, k8⟩
  have K8 := hid (K7.out.trans k8)
  have M8 := hid (mem_kept M7.out k8)
  clear k8
  go_wp2_with fail
  refine (GL.out _ _ M8.out (LY.out _ K8.out)).mono ?_
  rintro e u9 ⟨rfl, k9⟩
  have K9 := hid (K8.out.trans k9)
  have M9 := hid (mem_kept M8.out k9)
  clear k9
  go_wp2_with fail
  refine (GH.out _ _ M9.out (LY.out _ K9.out)).mono ?_
  rintro e u10 ⟨rfl, k10⟩
  have K10 := hid (K9.out.trans k10)
  have M10 := hid (mem_kept M9.out k10)
  clear k10
  go_wp2
  go_ret
  exact ⟨rfl, K10.out⟩
set_option maxRecDepth 100000 in
set_option maxHeartbeats 4000000 in
theorem back_3_at_far (a v o q r x s y g : Int) (M1 M2 : List Int) (w : World) (lay : Lay20 w) (o0 : 0 ≤ o) (o1 : o ≤ 65535) (q0 : 0 ≤ q) (q1 : q ≤ 255) (hM1 : putP M0 o q = M1)
    (R1 : ∀ u, Lay20 u → Calls Tryd.prog 10 #[.int .u16 a] u fun e w' => e = .returned (.tuple #[.int .i64 r, .int .i64 x]) ∧ Kept u w')
    (R2 : ∀ u, Lay20 u → Calls Tryd.prog 10 #[.int .u16 o] u fun e w' => e = .returned (.tuple #[.int .i64 s, .int .i64 y]) ∧ Kept u w')
    (GW : ∀ (b : Nat) u, MemAt u b M1 → Lay20 u → Calls Tryd.prog 20 #[.pointer (some ⟨b, 0, none⟩), .int .u16 o] u fun e w' => e = .returned (.int .u8 g) ∧ Kept u w')
    (PA : ∀ (b : Nat) u, MemAt u b M1 → Lay20 u → Calls Tryd.prog 22 #[.pointer (some ⟨b, 0, none⟩), .int .u16 a, .int .u8 v] u fun e w' => e = .returned (.tuple #[]) ∧ (MemAt w' b M2 ∧ KeptX (fun j => j = b) u w'))
    (GA : ∀ (b : Nat) u, MemAt u b M2 → Lay20 u → Calls Tryd.prog 20 #[.pointer (some ⟨b, 0, none⟩), .int .u16 a] u fun e w' => e = .returned (.int .u8 v) ∧ Kept u w') (GO : ∀ (b : Nat) u, MemAt u b M2 → Lay20 u → Calls Tryd.prog 20 #[.pointer (some ⟨b, 0, none⟩), .int .u16 o] u fun e w' => e = .returned (.int .u8 g) ∧ Kept u w') (hr : r = 3) (hs : s = r) (hy : x ≠ y) (hx : 7680 ≤ x) :
    Calls Tryd.prog 7 #[.int .u16 a, .int .u8 v, .int .u16 o, .int .u8 q] w fun e w' => e = .returned (.bool true) ∧ Kept w w' := by
  have LY : Hid (∀ u, Kept w u → Lay20 u) := fun u k => lay20_kept lay k
  have SH := hid (kshown20 w lay)
  clear lay
  have R1 := hid R1
  have R2 := hid R2
  have GW := hid GW
  have PA := hid PA
  have GA := hid GA
  have GO := hid GO
  subst hr
  subst hs
  have d1 : (x != y) = true := by simpa using hy
  have d2 : (x == y) = false := by simpa using hy
  clear hy
  have f1 : decide (7680 ≤ x) = true := decide_eq_true hx
  clear hx
  go_enter Tryd.func7, Tryd.ntmps7
  go_wp2_with fail
  refine SH.out.mono ?_
  rintro e u0 ⟨rfl, k0⟩
  have K0 := hid k0
  clear k0 SH
  go_wp2_with fail
  refine (pnew20 _ (LY.out _ K0.out)).mono ?_
  rintro e u1 ⟨rfl, m1, k1⟩
  have K1 := hid (K0.out.trans k1)
  have M1 := hid m1
  have NB : Hid (w.heap.size ≤ u0.heap.size) := K0.out.size
  clear k1 m1
  go_wp2_with fail
  refine (pput20 _ M0 o q _ M1.out (LY.out _ K1.out) o0 o1 ⟨q0, q1⟩).mono ?_
  rw [hM1]
  rintro e u2 ⟨rfl, m2, k2⟩
  have K2 := hid (k2.kept K1.out (fun j h => by rw [h]; exact NB.out))
  have M2_ := hid m2
  clear k2 m2 M1
  go_wp2_with fail
  refine (GW.out _ _ M2_.out (LY.out _ K2.out)).mono ?_
  rintro e u3 ⟨rfl, k3⟩
  have K3 := hid (K2.out.trans k3)
  have M3 := hid (mem_kept M2_.out k3)
  clear k3 M2_
  go_wp2_with fail
  refine (PA.out _ _ M3.out (LY.out _ K3.out)).mono ?_
  rintro e u4 ⟨rfl, m4, k4⟩
  have K4 := hid (k4.kept K3.out (fun j h => by rw [h]; exact NB.out))
  have M4 := hid m4
  clear k4 m4 M3 NB PA GW
  go_wp2_with fail
  refine (R1.out _ (LY.out _ K4.out)).mono ?_
  rintro e u5 ⟨rfl, k5⟩
  have K5 := hid (K4.out.trans k5)
  have M5 := hid (mem_kept M4.out k5)
  clear k5 M4 R1
  go_wp2_with fail
  refine (R2.out _ (LY.out _ K5.out)).mono ?_
  rintro e u6 ⟨rfl, k6⟩
  have K6 := hid (K5.out.trans k6)
  have M6 := hid (mem_kept M5.out k6)
  clear k6 M5 R2
  go_wp2_with fail
  refine (GA.out _ _ M6.out (LY.out _ K6.out)).mono ?_
  rintro e u7 ⟨rfl, k7⟩
  have K7 := hid (K6.out.trans k7)
  have M7 := hid (mem_kept M6.out k7)
  clear k7
  go_wp2_with fail
  refine (GO.out _ _ M7.out (LY.out _ K7.out)).mono ?_
  rintro e u8 ⟨rfl, k8⟩
  have K8 := hid (K7.out.trans k8)
  have M8 := hid (mem_kept M7.out k8)
  clear k8
  go_wp2
  go_ret
  exact ⟨rfl, K8.out⟩
set_option maxRecDepth 100000 in
set_option maxHeartbeats 4000000 in
theorem back_3_at_twin (a v o q r x s y g : Int) (M1 M2 : List Int) (w : World) (lay : Lay20 w) (o0 : 0 ≤ o) (o1 : o ≤ 65535) (q0 : 0 ≤ q) (q1 : q ≤ 255) (hM1 : putP M0 o q = M1)
    (R1 : ∀ u, Lay20 u → Calls Tryd.prog 10 #[.int .u16 a] u fun e w' => e = .returned (.tuple #[.int .i64 r, .int .i64 x]) ∧ Kept u w')
    (R2 : ∀ u, Lay20 u → Calls Tryd.prog 10 #[.int .u16 o] u fun e w' => e = .returned (.tuple #[.int .i64 s, .int .i64 y]) ∧ Kept u w')
    (GW : ∀ (b : Nat) u, MemAt u b M1 → Lay20 u → Calls Tryd.prog 20 #[.pointer (some ⟨b, 0, none⟩), .int .u16 o] u fun e w' => e = .returned (.int .u8 g) ∧ Kept u w')
    (PA : ∀ (b : Nat) u, MemAt u b M1 → Lay20 u → Calls Tryd.prog 22 #[.pointer (some ⟨b, 0, none⟩), .int .u16 a, .int .u8 v] u fun e w' => e = .returned (.tuple #[]) ∧ (MemAt w' b M2 ∧ KeptX (fun j => j = b) u w'))
    (GA : ∀ (b : Nat) u, MemAt u b M2 → Lay20 u → Calls Tryd.prog 20 #[.pointer (some ⟨b, 0, none⟩), .int .u16 a] u fun e w' => e = .returned (.int .u8 v) ∧ Kept u w') (GO : ∀ (b : Nat) u, MemAt u b M2 → Lay20 u → Calls Tryd.prog 20 #[.pointer (some ⟨b, 0, none⟩), .int .u16 o] u fun e w' => e = .returned (.int .u8 g) ∧ Kept u w') (hr : r = 3) (hs : s = r) (hy : x ≠ y) (hx : x < 7680) (x0 : 0 ≤ x) (GL : ∀ (b : Nat) u, MemAt u b M2 → Lay20 u → Calls Tryd.prog 20 #[.pointer (some ⟨b, 0, none⟩), .int .u16 (49152 + x)] u fun e w' => e = .returned (.int .u8 v) ∧ Kept u w') (GH : ∀ (b : Nat) u, MemAt u b M2 → Lay20 u → Calls Tryd.prog 20 #[.pointer (some ⟨b, 0, none⟩), .int .u16 (57344 + x)] u fun e w' => e = .returned (.int .u8 v) ∧ Kept u w') :
    Calls Tryd.prog 7 #[.int .u16 a, .int .u8 v, .int .u16 o, .int .u8 q] w fun e w' => e = .returned (.bool true) ∧ Kept w w' := by
  have LY : Hid (∀ u, Kept w u → Lay20 u) := fun u k => lay20_kept lay k
  have SH := hid (kshown20 w lay)
  clear lay
  have R1 := hid R1
  have R2 := hid R2
  have GW := hid GW
  have PA := hid PA
  have GA := hid GA
  have GO := hid GO
  subst hr
  subst hs
  have d1 : (x != y) = true := by simpa using hy
  have d2 : (x == y) = false := by simpa using hy
  clear hy
  have f1 : decide (7680 ≤ x) = false := decide_eq_false (by omega)
  have f2 : IntKind.u16.wrap x = x := by rw [IntKind.wrap_u16]; omega
  have f3 : IntKind.u16.wrap (49152 + x) = 49152 + x := by rw [IntKind.wrap_u16]; omega
  have f4 : IntKind.u16.wrap (57344 + x) = 57344 + x := by rw [IntKind.wrap_u16]; omega
  clear hx x0
  have GL := hid GL
  have GH := hid GH
  go_enter Tryd.func7, Tryd.ntmps7
  go_wp2_with fail
  refine SH.out.mono ?_
  rintro e u0 ⟨rfl, k0⟩
  have K0 := hid k0
  clear k0 SH
  go_wp2_with fail
  refine (pnew20 _ (LY.out _ K0.out)).mono ?_
  rintro e u1 ⟨rfl, m1, k1⟩
  have K1 := hid (K0.out.trans k1)
  have M1 := hid m1
  have NB : Hid (w.heap.size ≤ u0.heap.size) := K0.out.size
  clear k1 m1
  go_wp2_with fail
  refine (pput20 _ M0 o q _ M1.out (LY.out _ K1.out) o0 o1 ⟨q0, q1⟩).mono ?_
  rw [hM1]
  rintro e u2 ⟨rfl, m2, k2⟩
  have K2 := hid (k2.kept K1.out (fun j h => by rw [h]; exact NB.out))
  have M2_ := hid m2
  clear k2 m2 M1
  go_wp2_with fail
  refine (GW.out _ _ M2_.out (LY.out _ K2.out)).mono ?_
  rintro e u3 ⟨rfl, k3⟩
  have K3 := hid (K2.out.trans k3)
  have M3 := hid (mem_kept M2_.out k3)
  clear k3 M2_
  go_wp2_with fail
  refine (PA.out _ _ M3.out (LY.out _ K3.out)).mono ?_
  rintro e u4 ⟨rfl, m4, k4⟩
  have K4 := hid (k4.kept K3.out (fun j h => by rw [h]; exact NB.out))
  have M4 := hid m4
  clear k4 m4 M3 NB PA GW
  go_wp2_with fail
  refine (R1.out _ (LY.out _ K4.out)).mono ?_
  rintro e u5 ⟨rfl, k5⟩
  have K5 := hid (K4.out.trans k5)
  have M5 := hid (mem_kept M4.out k5)
  clear k5 M4 R1
  go_wp2_with fail
  refine (R2.out _ (LY.out _ K5.out)).mono ?_
  rintro e u6 ⟨rfl, k6⟩
  have K6 := hid (K5.out.trans k6)
  have M6 := hid (mem_kept M5.out k6)
  clear k6 M5 R2
  go_wp2_with fail
  refine (GA.out _ _ M6.out (LY.out _ K6.out)).mono ?_
  rintro e u7 ⟨rfl, k7⟩
  have K7 := hid (K6.out.trans k7)
  have M7 := hid (mem_kept M6.out k7)
  clear k7
  go_wp2_with fail
  refine (GO.out _ _ M7.out (LY.out _ K7.out)).mono ?_
  rintro e u8 ⟨rfl, k8⟩
  have K8 := hid (K7.out.trans k8)
  have M8 := hid (mem_kept M7.out k8)
  clear k8
  go_wp2_with fail
  refine (GL.out _ _ M8.out (LY.out _ K8.out)).mono ?_
  rintro e u9 ⟨rfl, k9⟩
  have K9 := hid (K8.out.trans k9)
  have M9 := hid (mem_kept M8.out k9)
  clear k9
  go_wp2_with fail
  refine (GH.out _ _ M9.out (LY.out _ K9.out)).mono ?_
  rintro e u10 ⟨rfl, k10⟩
  have K10 := hid (K9.out.trans k10)
  have M10 := hid (mem_kept M9.out k10)
  clear k10
  go_wp2
  go_ret
  exact ⟨rfl, K10.out⟩
set_option maxRecDepth 100000 in
set_option maxHeartbeats 4000000 in
theorem back_4_same_no (a v o q r x s y g : Int) (M1 M2 : List Int) (w : World) (lay : Lay20 w) (o0 : 0 ≤ o) (o1 : o ≤ 65535) (q0 : 0 ≤ q) (q1 : q ≤ 255) (hM1 : putP M0 o q = M1)
    (R1 : ∀ u, Lay20 u → Calls Tryd.prog 10 #[.int .u16 a] u fun e w' => e = .returned (.tuple #[.int .i64 r, .int .i64 x]) ∧ Kept u w')
    (R2 : ∀ u, Lay20 u → Calls Tryd.prog 10 #[.int .u16 o] u fun e w' => e = .returned (.tuple #[.int .i64 s, .int .i64 y]) ∧ Kept u w')
    (GW : ∀ (b : Nat) u, MemAt u b M1 → Lay20 u → Calls Tryd.prog 20 #[.pointer (some ⟨b, 0, none⟩), .int .u16 o] u fun e w' => e = .returned (.int .u8 g) ∧ Kept u w')
    (PA : ∀ (b : Nat) u, MemAt u b M1 → Lay20 u → Calls Tryd.prog 22 #[.pointer (some ⟨b, 0, none⟩), .int .u16 a, .int .u8 v] u fun e w' => e = .returned (.tuple #[]) ∧ (MemAt w' b M2 ∧ KeptX (fun j => j = b) u w'))
    (GA : ∀ (b : Nat) u, MemAt u b M2 → Lay20 u → Calls Tryd.prog 20 #[.pointer (some ⟨b, 0, none⟩), .int .u16 a] u fun e w' => e = .returned (.int .u8 v) ∧ Kept u w') (GO : ∀ (b : Nat) u, MemAt u b M2 → Lay20 u → Calls Tryd.prog 20 #[.pointer (some ⟨b, 0, none⟩), .int .u16 o] u fun e w' => e = .returned (.int .u8 v) ∧ Kept u w') (hr : r = 4) (hs : s = r) (hy : x = y) :
    Calls Tryd.prog 7 #[.int .u16 a, .int .u8 v, .int .u16 o, .int .u8 q] w fun e w' => e = .returned (.bool true) ∧ Kept w w' := by
  have LY : Hid (∀ u, Kept w u → Lay20 u) := fun u k => lay20_kept lay k
  have SH := hid (kshown20 w lay)
  clear lay
  have R1 := hid R1
  have R2 := hid R2
  have GW := hid GW
  have PA := hid PA
  have GA := hid GA
  have GO := hid GO
  subst hr
  subst hs
  subst hy
  go_enter Tryd.func7, Tryd.ntmps7
  go_wp2_with fail
  refine SH.out.mono ?_
  rintro e u0 ⟨rfl, k0⟩
  have K0 := hid k0
  clear k0 SH
  go_wp2_with fail
  refine (pnew20 _ (LY.out _ K0.out)).mono ?_
  rintro e u1 ⟨rfl, m1, k1⟩
  have K1 := hid (K0.out.trans k1)
  have M1 := hid m1
  have NB : Hid (w.heap.size ≤ u0.heap.size) := K0.out.size
  clear k1 m1
  go_wp2_with fail
  refine (pput20 _ M0 o q _ M1.out (LY.out _ K1.out) o0 o1 ⟨q0, q1⟩).mono ?_
  rw [hM1]
  rintro e u2 ⟨rfl, m2, k2⟩
  have K2 := hid (k2.kept K1.out (fun j h => by rw [h]; exact NB.out))
  have M2_ := hid m2
  clear k2 m2 M1
  go_wp2_with fail
  refine (GW.out _ _ M2_.out (LY.out _ K2.out)).mono ?_
  rintro e u3 ⟨rfl, k3⟩
  have K3 := hid (K2.out.trans k3)
  have M3 := hid (mem_kept M2_.out k3)
  clear k3 M2_
  go_wp2_with fail
  refine (PA.out _ _ M3.out (LY.out _ K3.out)).mono ?_
  rintro e u4 ⟨rfl, m4, k4⟩
  have K4 := hid (k4.kept K3.out (fun j h => by rw [h]; exact NB.out))
  have M4 := hid m4
  clear k4 m4 M3 NB PA GW
  go_wp2_with fail
  refine (R1.out _ (LY.out _ K4.out)).mono ?_
  rintro e u5 ⟨rfl, k5⟩
  have K5 := hid (K4.out.trans k5)
  have M5 := hid (mem_kept M4.out k5)
  clear k5 M4 R1
  go_wp2_with fail
  refine (R2.out _ (LY.out _ K5.out)).mono ?_
  rintro e u6 ⟨rfl, k6⟩
  have K6 := hid (K5.out.trans k6)
  have M6 := hid (mem_kept M5.out k6)
  clear k6 M5 R2
  go_wp2_with fail
  refine (GA.out _ _ M6.out (LY.out _ K6.out)).mono ?_
  rintro e u7 ⟨rfl, k7⟩
  have K7 := hid (K6.out.trans k7)
  have M7 := hid (mem_kept M6.out k7)
  clear k7
  go_wp2_with fail
  refine (GO.out _ _ M7.out (LY.out _ K7.out)).mono ?_
  rintro e u8 ⟨rfl, k8⟩
  have K8 := hid (K7.out.trans k8)
  have M8 := hid (mem_kept M7.out k8)
  clear k8
  go_wp2_with fail
  refine (GA.out _ _ M8.out (LY.out _ K8.out)).mono ?_
  rintro e u9 ⟨rfl, k9⟩
  have K9 := hid (K8.out.trans k9)
  have M9 := hid (mem_kept M8.out k9)
  clear k9
  go_wp2
  go_ret
  exact ⟨rfl, K9.out⟩
set_option maxRecDepth 100000 in
set_option maxHeartbeats 4000000 in
theorem back_4_reg_no (a v o q r x s y g : Int) (M1 M2 : List Int) (w : World) (lay : Lay20 w) (o0 : 0 ≤ o) (o1 : o ≤ 65535) (q0 : 0 ≤ q) (q1 : q ≤ 255) (hM1 : putP M0 o q = M1)
    (R1 : ∀ u, Lay20 u → Calls Tryd.prog 10 #[.int .u16 a] u fun e w' => e = .returned (.tuple #[.int .i64 r, .int .i64 x]) ∧ Kept u w')
    (R2 : ∀ u, Lay20 u → Calls Tryd.prog 10 #[.int .u16 o] u fun e w' => e = .returned (.tuple #[.int .i64 s, .int .i64 y]) ∧ Kept u w')
    (GW : ∀ (b : Nat) u, MemAt u b M1 → Lay20 u → Calls Tryd.prog 20 #[.pointer (some ⟨b, 0, none⟩), .int .u16 o] u fun e w' => e = .returned (.int .u8 g) ∧ Kept u w')
    (PA : ∀ (b : Nat) u, MemAt u b M1 → Lay20 u → Calls Tryd.prog 22 #[.pointer (some ⟨b, 0, none⟩), .int .u16 a, .int .u8 v] u fun e w' => e = .returned (.tuple #[]) ∧ (MemAt w' b M2 ∧ KeptX (fun j => j = b) u w'))
    (GA : ∀ (b : Nat) u, MemAt u b M2 → Lay20 u → Calls Tryd.prog 20 #[.pointer (some ⟨b, 0, none⟩), .int .u16 a] u fun e w' => e = .returned (.int .u8 v) ∧ Kept u w') (GO : ∀ (b : Nat) u, MemAt u b M2 → Lay20 u → Calls Tryd.prog 20 #[.pointer (some ⟨b, 0, none⟩), .int .u16 o] u fun e w' => e = .returned (.int .u8 g) ∧ Kept u w') (hr : r = 4) (hs : r ≠ s) :
    Calls Tryd.prog 7 #[.int .u16 a, .int .u8 v, .int .u16 o, .int .u8 q] w fun e w' => e = .returned (.bool true) ∧ Kept w w' := by
  have LY : Hid (∀ u, Kept w u → Lay20 u) := fun u k => lay20_kept lay k
  have SH := hid (kshown20 w lay)
  clear lay
  have R1 := hid R1
  have R2 := hid R2
  have GW := hid GW
  have PA := hid PA
  have GA := hid GA
  have GO := hid GO
  subst hr
  have d1 : ((4 : Int) != s) = true := by simpa using hs
  have d2 : ((4 : Int) == s) = false := by simpa using hs
  clear hs
  go_enter Tryd.func7, Tryd.ntmps7
  go_wp2_with fail
  refine SH.out.mono ?_
  rintro e u0 ⟨rfl, k0⟩
  have K0 := hid k0
  clear k0 SH
  go_wp2_with fail
  refine (pnew20 _ (LY.out _ K0.out)).mono ?_
  rintro e u1 ⟨rfl, m1, k1⟩
  have K1 := hid (K0.out.trans k1)
  have M1 := hid m1
  have NB : Hid (w.heap.size ≤ u0.heap.size) := K0.out.size
  clear k1 m1
  go_wp2_with fail
  refine (pput20 _ M0 o q _ M1.out (LY.out _ K1.out) o0 o1 ⟨q0, q1⟩).mono ?_
  rw [hM1]
  rintro e u2 ⟨rfl, m2, k2⟩
  have K2 := hid (k2.kept K1.out (fun j h => by rw [h]; exact NB.out))
  have M2_ := hid m2
  clear k2 m2 M1
  go_wp2_with fail
  refine (GW.out _ _ M2_.out (LY.out _ K2.out)).mono ?_
  rintro e u3 ⟨rfl, k3⟩
  have K3 := hid (K2.out.trans k3)
  have M3 := hid (mem_kept M2_.out k3)
  clear k3 M2_
  go_wp2_with fail
  refine (PA.out _ _ M3.out (LY.out _ K3.out)).mono ?_
  rintro e u4 ⟨rfl, m4, k4⟩
  have K4 := hid (k4.kept K3.out (fun j h => by rw [h]; exact NB.out))
  have M4 := hid m4
  clear k4 m4 M3 NB PA GW
  go_wp2_with fail
  refine (R1.out _ (LY.out _ K4.out)).mono ?_
  rintro e u5 ⟨rfl, k5⟩
  have K5 := hid (K4.out.trans k5)
  have M5 := hid (mem_kept M4.out k5)
  clear k5 M4 R1
  go_wp2_with fail
  refine (R2.out _ (LY.out _ K5.out)).mono ?_
  rintro e u6 ⟨rfl, k6⟩
  have K6 := hid (K5.out.trans k6)
  have M6 := hid (mem_kept M5.out k6)
  clear k6 M5 R2
  go_wp2_with fail
  refine (GA.out _ _ M6.out (LY.out _ K6.out)).mono ?_
  rintro e u7 ⟨rfl, k7⟩
  have K7 := hid (K6.out.trans k7)
  have M7 := hid (mem_kept M6.out k7)
  clear k7
  go_wp2_with fail
  refine (GO.out _ _ M7.out (LY.out _ K7.out)).mono ?_
  rintro e u8 ⟨rfl, k8⟩
  have K8 := hid (K7.out.trans k8)
  have M8 := hid (mem_kept M7.out k8)
  clear k8
  go_wp2
  go_ret
  exact ⟨rfl, K8.out⟩
set_option maxRecDepth 100000 in
set_option maxHeartbeats 4000000 in
theorem back_4_at_no (a v o q r x s y g : Int) (M1 M2 : List Int) (w : World) (lay : Lay20 w) (o0 : 0 ≤ o) (o1 : o ≤ 65535) (q0 : 0 ≤ q) (q1 : q ≤ 255) (hM1 : putP M0 o q = M1)
    (R1 : ∀ u, Lay20 u → Calls Tryd.prog 10 #[.int .u16 a] u fun e w' => e = .returned (.tuple #[.int .i64 r, .int .i64 x]) ∧ Kept u w')
    (R2 : ∀ u, Lay20 u → Calls Tryd.prog 10 #[.int .u16 o] u fun e w' => e = .returned (.tuple #[.int .i64 s, .int .i64 y]) ∧ Kept u w')
    (GW : ∀ (b : Nat) u, MemAt u b M1 → Lay20 u → Calls Tryd.prog 20 #[.pointer (some ⟨b, 0, none⟩), .int .u16 o] u fun e w' => e = .returned (.int .u8 g) ∧ Kept u w')
    (PA : ∀ (b : Nat) u, MemAt u b M1 → Lay20 u → Calls Tryd.prog 22 #[.pointer (some ⟨b, 0, none⟩), .int .u16 a, .int .u8 v] u fun e w' => e = .returned (.tuple #[]) ∧ (MemAt w' b M2 ∧ KeptX (fun j => j = b) u w'))
    (GA : ∀ (b : Nat) u, MemAt u b M2 → Lay20 u → Calls Tryd.prog 20 #[.pointer (some ⟨b, 0, none⟩), .int .u16 a] u fun e w' => e = .returned (.int .u8 v) ∧ Kept u w') (GO : ∀ (b : Nat) u, MemAt u b M2 → Lay20 u → Calls Tryd.prog 20 #[.pointer (some ⟨b, 0, none⟩), .int .u16 o] u fun e w' => e = .returned (.int .u8 g) ∧ Kept u w') (hr : r = 4) (hs : s = r) (hy : x ≠ y) :
    Calls Tryd.prog 7 #[.int .u16 a, .int .u8 v, .int .u16 o, .int .u8 q] w fun e w' => e = .returned (.bool true) ∧ Kept w w' := by
  have LY : Hid (∀ u, Kept w u → Lay20 u) := fun u k => lay20_kept lay k
  have SH := hid (kshown20 w lay)
  clear lay
  have R1 := hid R1
  have R2 := hid R2
  have GW := hid GW
  have PA := hid PA
  have GA := hid GA
  have GO := hid GO
  subst hr
  subst hs
  have d1 : (x != y) = true := by simpa using hy
  have d2 : (x == y) = false := by simpa using hy
  clear hy
  go_enter Tryd.func7, Tryd.ntmps7
  go_wp2_with fail
  refine SH.out.mono ?_
  rintro e u0 ⟨rfl, k0⟩
  have K0 := hid k0
  clear k0 SH
  go_wp2_with fail
  refine (pnew20 _ (LY.out _ K0.out)).mono ?_
  rintro e u1 ⟨rfl, m1, k1⟩
  have K1 := hid (K0.out.trans k1)
  have M1 := hid m1
  have NB : Hid (w.heap.size ≤ u0.heap.size) := K0.out.size
  clear k1 m1
  go_wp2_with fail
  refine (pput20 _ M0 o q _ M1.out (LY.out _ K1.out) o0 o1 ⟨q0, q1⟩).mono ?_
  rw [hM1]
  rintro e u2 ⟨rfl, m2, k2⟩
  have K2 := hid (k2.kept K1.out (fun j h => by rw [h]; exact NB.out))
  have M2_ := hid m2
  clear k2 m2 M1
  go_wp2_with fail
  refine (GW.out _ _ M2_.out (LY.out _ K2.out)).mono ?_
  rintro e u3 ⟨rfl, k3⟩
  have K3 := hid (K2.out.trans k3)
  have M3 := hid (mem_kept M2_.out k3)
  clear k3 M2_
  go_wp2_with fail
  refine (PA.out _ _ M3.out (LY.out _ K3.out)).mono ?_
  rintro e u4 ⟨rfl, m4, k4⟩
  have K4 := hid (k4.kept K3.out (fun j h => by rw [h]; exact NB.out))
  have M4 := hid m4
  clear k4 m4 M3 NB PA GW
  go_wp2_with fail
  refine (R1.out _ (LY.out _ K4.out)).mono ?_
  rintro e u5 ⟨rfl, k5⟩
  have K5 := hid (K4.out.trans k5)
  have M5 := hid (mem_kept M4.out k5)
  clear k5 M4 R1
  go_wp2_with fail
  refine (R2.out _ (LY.out _ K5.out)).mono ?_
  rintro e u6 ⟨rfl, k6⟩
  have K6 := hid (K5.out.trans k6)
  have M6 := hid (mem_kept M5.out k6)
  clear k6 M5 R2
  go_wp2_with fail
  refine (GA.out _ _ M6.out (LY.out _ K6.out)).mono ?_
  rintro e u7 ⟨rfl, k7⟩
  have K7 := hid (K6.out.trans k7)
  have M7 := hid (mem_kept M6.out k7)
  clear k7
  go_wp2_with fail
  refine (GO.out _ _ M7.out (LY.out _ K7.out)).mono ?_
  rintro e u8 ⟨rfl, k8⟩
  have K8 := hid (K7.out.trans k8)
  have M8 := hid (mem_kept M7.out k8)
  clear k8
  go_wp2
  go_ret
  exact ⟨rfl, K8.out⟩
set_option maxRecDepth 100000 in
set_option maxHeartbeats 4000000 in
theorem back_7_same_no (a v o q r x s y g : Int) (M1 M2 : List Int) (w : World) (lay : Lay20 w) (o0 : 0 ≤ o) (o1 : o ≤ 65535) (q0 : 0 ≤ q) (q1 : q ≤ 255) (hM1 : putP M0 o q = M1)
    (R1 : ∀ u, Lay20 u → Calls Tryd.prog 10 #[.int .u16 a] u fun e w' => e = .returned (.tuple #[.int .i64 r, .int .i64 x]) ∧ Kept u w')
    (R2 : ∀ u, Lay20 u → Calls Tryd.prog 10 #[.int .u16 o] u fun e w' => e = .returned (.tuple #[.int .i64 s, .int .i64 y]) ∧ Kept u w')
    (GW : ∀ (b : Nat) u, MemAt u b M1 → Lay20 u → Calls Tryd.prog 20 #[.pointer (some ⟨b, 0, none⟩), .int .u16 o] u fun e w' => e = .returned (.int .u8 g) ∧ Kept u w')
    (PA : ∀ (b : Nat) u, MemAt u b M1 → Lay20 u → Calls Tryd.prog 22 #[.pointer (some ⟨b, 0, none⟩), .int .u16 a, .int .u8 v] u fun e w' => e = .returned (.tuple #[]) ∧ (MemAt w' b M2 ∧ KeptX (fun j => j = b) u w'))
    (GA : ∀ (b : Nat) u, MemAt u b M2 → Lay20 u → Calls Tryd.prog 20 #[.pointer (some ⟨b, 0, none⟩), .int .u16 a] u fun e w' => e = .returned (.int .u8 v) ∧ Kept u w') (GO : ∀ (b : Nat) u, MemAt u b M2 → Lay20 u → Calls Tryd.prog 20 #[.pointer (some ⟨b, 0, none⟩), .int .u16 o] u fun e w' => e = .returned (.int .u8 v) ∧ Kept u w') (hr : r = 7) (hs : s = r) (hy : x = y) :
    Calls Tryd.prog 7 #[.int .u16 a, .int .u8 v, .int .u16 o, .int .u8 q] w fun e w' => e = .returned (.bool true) ∧ Kept w w' := by
  have LY : Hid (∀ u, Kept w u → Lay20 u) := fun u k => lay20_kept lay k
  have SH := hid (kshown20 w lay)
  clear lay
  have R1 := hid R1
  have R2 := hid R2
  have GW := hid GW
  have PA := hid PA
  have GA := hid GA
  have GO := hid GO
  subst hr
  subst hs
  subst hy
  go_enter Tryd.func7, Tryd.ntmps7
  go_wp2_with fail
  refine SH.out.mono ?_
  rintro e u0 ⟨rfl, k0⟩
  have K0 := hid k0
  clear k0 SH
  go_wp2_with fail
  refine (pnew20 _ (LY.out _ K0.out)).mono ?_
  rintro e u1 ⟨rfl, m1, k1⟩
  have K1 := hid (K0.out.trans k1)
  have M1 := hid m1
  have NB : Hid (w.heap.size ≤ u0.heap.size) := K0.out.size
  clear k1 m1
  go_wp2_with fail
  refine (pput20 _ M0 o q _ M1.out (LY.out _ K1.out) o0 o1 ⟨q0, q1⟩).mono ?_
  rw [hM1]
  rintro e u2 ⟨rfl, m2, k2⟩
  have K2 := hid (k2.kept K1.out (fun j h => by rw [h]; exact NB.out))
  have M2_ := hid m2
  clear k2 m2 M1
  go_wp2_with fail
  refine (GW.out _ _ M2_.out (LY.out _ K2.out)).mono ?_
  rintro e u3 ⟨rfl, k3⟩
  have K3 := hid (K2.out.trans k3)
  have M3 := hid (mem_kept M2_.out k3)
  clear k3 M2_
  go_wp2_with fail
  refine (PA.out _ _ M3.out (LY.out _ K3.out)).mono ?_
  rintro e u4 ⟨rfl, m4, k4⟩
  have K4 := hid (k4.kept K3.out (fun j h => by rw [h]; exact NB.out))
  have M4 := hid m4
  clear k4 m4 M3 NB PA GW
  go_wp2_with fail
  refine (R1.out _ (LY.out _ K4.out)).mono ?_
  rintro e u5 ⟨rfl, k5⟩
  have K5 := hid (K4.out.trans k5)
  have M5 := hid (mem_kept M4.out k5)
  clear k5 M4 R1
  go_wp2_with fail
  refine (R2.out _ (LY.out _ K5.out)).mono ?_
  rintro e u6 ⟨rfl, k6⟩
  have K6 := hid (K5.out.trans k6)
  have M6 := hid (mem_kept M5.out k6)
  clear k6 M5 R2
  go_wp2_with fail
  refine (GA.out _ _ M6.out (LY.out _ K6.out)).mono ?_
  rintro e u7 ⟨rfl, k7⟩
  have K7 := hid (K6.out.trans k7)
  have M7 := hid (mem_kept M6.out k7)
  clear k7
  go_wp2_with fail
  refine (GO.out _ _ M7.out (LY.out _ K7.out)).mono ?_
  rintro e u8 ⟨rfl, k8⟩
  have K8 := hid (K7.out.trans k8)
  have M8 := hid (mem_kept M7.out k8)
  clear k8
  go_wp2_with fail
  refine (GA.out _ _ M8.out (LY.out _ K8.out)).mono ?_
  rintro e u9 ⟨rfl, k9⟩
  have K9 := hid (K8.out.trans k9)
  have M9 := hid (mem_kept M8.out k9)
  clear k9
  go_wp2
  go_ret
  exact ⟨rfl, K9.out⟩
set_option maxRecDepth 100000 in
set_option maxHeartbeats 4000000 in
theorem back_7_reg_no (a v o q r x s y g : Int) (M1 M2 : List Int) (w : World) (lay : Lay20 w) (o0 : 0 ≤ o) (o1 : o ≤ 65535) (q0 : 0 ≤ q) (q1 : q ≤ 255) (hM1 : putP M0 o q = M1)
    (R1 : ∀ u, Lay20 u → Calls Tryd.prog 10 #[.int .u16 a] u fun e w' => e = .returned (.tuple #[.int .i64 r, .int .i64 x]) ∧ Kept u w')
    (R2 : ∀ u, Lay20 u → Calls Tryd.prog 10 #[.int .u16 o] u fun e w' => e = .returned (.tuple #[.int .i64 s, .int .i64 y]) ∧ Kept u w')
    (GW : ∀ (b : Nat) u, MemAt u b M1 → Lay20 u → Calls Tryd.prog 20 #[.pointer (some ⟨b, 0, none⟩), .int .u16 o] u fun e w' => e = .returned (.int .u8 g) ∧ Kept u w')
    (PA : ∀ (b : Nat) u, MemAt u b M1 → Lay20 u → Calls Tryd.prog 22 #[.pointer (some ⟨b, 0, none⟩), .int .u16 a, .int .u8 v] u fun e w' => e = .returned (.tuple #[]) ∧ (MemAt w' b M2 ∧ KeptX (fun j => j = b) u w'))
    (GA : ∀ (b : Nat) u, MemAt u b M2 → Lay20 u → Calls Tryd.prog 20 #[.pointer (some ⟨b, 0, none⟩), .int .u16 a] u fun e w' => e = .returned (.int .u8 v) ∧ Kept u w') (GO : ∀ (b : Nat) u, MemAt u b M2 → Lay20 u → Calls Tryd.prog 20 #[.pointer (some ⟨b, 0, none⟩), .int .u16 o] u fun e w' => e = .returned (.int .u8 g) ∧ Kept u w') (hr : r = 7) (hs : r ≠ s) :
    Calls Tryd.prog 7 #[.int .u16 a, .int .u8 v, .int .u16 o, .int .u8 q] w fun e w' => e = .returned (.bool true) ∧ Kept w w' := by
  have LY : Hid (∀ u, Kept w u → Lay20 u) := fun u k => lay20_kept lay k
  have SH := hid (kshown20 w lay)
  clear lay
  have R1 := hid R1
  have R2 := hid R2
  have GW := hid GW
  have PA := hid PA
  have GA := hid GA
  have GO := hid GO
  subst hr
  have d1 : ((7 : Int) != s) = true := by simpa using hs
  have d2 : ((7 : Int) == s) = false := by simpa using hs
  clear hs
  go_enter Tryd.func7, Tryd.ntmps7
  go_wp2_with fail
  refine SH.out.mono ?_
  rintro e u0 ⟨rfl, k0⟩
  have K0 := hid k0
  clear k0 SH
  go_wp2_with fail
  refine (pnew20 _ (LY.out _ K0.out)).mono ?_
  rintro e u1 ⟨rfl, m1, k1⟩
  have K1 := hid (K0.out.trans k1)
  have M1 := hid m1
  have NB : Hid (w.heap.size ≤ u0.heap.size) := K0.out.size
  clear k1 m1
  go_wp2_with fail
  refine (pput20 _ M0 o q _ M1.out (LY.out _ K1.out) o0 o1 ⟨q0, q1⟩).mono ?_
  rw [hM1]
  rintro e u2 ⟨rfl, m2, k2⟩
  have K2 := hid (k2.kept K1.out (fun j h => by rw [h]; exact NB.out))
  have M2_ := hid m2
  clear k2 m2 M1
  go_wp2_with fail
  refine (GW.out _ _ M2_.out (LY.out _ K2.out)).mono ?_
  rintro e u3 ⟨rfl, k3⟩
  have K3 := hid (K2.out.trans k3)
  have M3 := hid (mem_kept M2_.out k3)
  clear k3 M2_
  go_wp2_with fail
  refine (PA.out _ _ M3.out (LY.out _ K3.out)).mono ?_
  rintro e u4 ⟨rfl, m4, k4⟩
  have K4 := hid (k4.kept K3.out (fun j h => by rw [h]; exact NB.out))
  have M4 := hid m4
  clear k4 m4 M3 NB PA GW
  go_wp2_with fail
  refine (R1.out _ (LY.out _ K4.out)).mono ?_
  rintro e u5 ⟨rfl, k5⟩
  have K5 := hid (K4.out.trans k5)
  have M5 := hid (mem_kept M4.out k5)
  clear k5 M4 R1
  go_wp2_with fail
  refine (R2.out _ (LY.out _ K5.out)).mono ?_
  rintro e u6 ⟨rfl, k6⟩
  have K6 := hid (K5.out.trans k6)
  have M6 := hid (mem_kept M5.out k6)
  clear k6 M5 R2
  go_wp2_with fail
  refine (GA.out _ _ M6.out (LY.out _ K6.out)).mono ?_
  rintro e u7 ⟨rfl, k7⟩
  have K7 := hid (K6.out.trans k7)
  have M7 := hid (mem_kept M6.out k7)
  clear k7
  go_wp2_with fail
  refine (GO.out _ _ M7.out (LY.out _ K7.out)).mono ?_
  rintro e u8 ⟨rfl, k8⟩
  have K8 := hid (K7.out.trans k8)
  have M8 := hid (mem_kept M7.out k8)
  clear k8
  go_wp2
  go_ret
  exact ⟨rfl, K8.out⟩
set_option maxRecDepth 100000 in
set_option maxHeartbeats 4000000 in
theorem back_7_at_no (a v o q r x s y g : Int) (M1 M2 : List Int) (w : World) (lay : Lay20 w) (o0 : 0 ≤ o) (o1 : o ≤ 65535) (q0 : 0 ≤ q) (q1 : q ≤ 255) (hM1 : putP M0 o q = M1)
    (R1 : ∀ u, Lay20 u → Calls Tryd.prog 10 #[.int .u16 a] u fun e w' => e = .returned (.tuple #[.int .i64 r, .int .i64 x]) ∧ Kept u w')
    (R2 : ∀ u, Lay20 u → Calls Tryd.prog 10 #[.int .u16 o] u fun e w' => e = .returned (.tuple #[.int .i64 s, .int .i64 y]) ∧ Kept u w')
    (GW : ∀ (b : Nat) u, MemAt u b M1 → Lay20 u → Calls Tryd.prog 20 #[.pointer (some ⟨b, 0, none⟩), .int .u16 o] u fun e w' => e = .returned (.int .u8 g) ∧ Kept u w')
    (PA : ∀ (b : Nat) u, MemAt u b M1 → Lay20 u → Calls Tryd.prog 22 #[.pointer (some ⟨b, 0, none⟩), .int .u16 a, .int .u8 v] u fun e w' => e = .returned (.tuple #[]) ∧ (MemAt w' b M2 ∧ KeptX (fun j => j = b) u w'))
    (GA : ∀ (b : Nat) u, MemAt u b M2 → Lay20 u → Calls Tryd.prog 20 #[.pointer (some ⟨b, 0, none⟩), .int .u16 a] u fun e w' => e = .returned (.int .u8 v) ∧ Kept u w') (GO : ∀ (b : Nat) u, MemAt u b M2 → Lay20 u → Calls Tryd.prog 20 #[.pointer (some ⟨b, 0, none⟩), .int .u16 o] u fun e w' => e = .returned (.int .u8 g) ∧ Kept u w') (hr : r = 7) (hs : s = r) (hy : x ≠ y) :
    Calls Tryd.prog 7 #[.int .u16 a, .int .u8 v, .int .u16 o, .int .u8 q] w fun e w' => e = .returned (.bool true) ∧ Kept w w' := by
  have LY : Hid (∀ u, Kept w u → Lay20 u) := fun u k => lay20_kept lay k
  have SH := hid (kshown20 w lay)
  clear lay
  have R1 := hid R1
  have R2 := hid R2
  have GW := hid GW
  have PA := hid PA
  have GA := hid GA
  have GO := hid GO
  subst hr
  subst hs
  have d1 : (x != y) = true := by simpa using hy
  have d2 : (x == y) = false := by simpa using hy
  clear hy
  go_enter Tryd.func7, Tryd.ntmps7
  go_wp2_with fail
  refine SH.out.mono ?_
  rintro e u0 ⟨rfl, k0⟩
  have K0 := hid k0
  clear k0 SH
  go_wp2_with fail
  refine (pnew20 _ (LY.out _ K0.out)).mono ?_
  rintro e u1 ⟨rfl, m1, k1⟩
  have K1 := hid (K0.out.trans k1)
  have M1 := hid m1
  have NB : Hid (w.heap.size ≤ u0.heap.size) := K0.out.size
  clear k1 m1
  go_wp2_with fail
  refine (pput20 _ M0 o q _ M1.out (LY.out _ K1.out) o0 o1 ⟨q0, q1⟩).mono ?_
  rw [hM1]
  rintro e u2 ⟨rfl, m2, k2⟩
  have K2 := hid (k2.kept K1.out (fun j h => by rw [h]; exact NB.out))
  have M2_ := hid m2
  clear k2 m2 M1
  go_wp2_with fail
  refine (GW.out _ _ M2_.out (LY.out _ K2.out)).mono ?_
  rintro e u3 ⟨rfl, k3⟩
  have K3 := hid (K2.out.trans k3)
  have M3 := hid (mem_kept M2_.out k3)
  clear k3 M2_
  go_wp2_with fail
  refine (PA.out _ _ M3.out (LY.out _ K3.out)).mono ?_
  rintro e u4 ⟨rfl, m4, k4⟩
  have K4 := hid (k4.kept K3.out (fun j h => by rw [h]; exact NB.out))
  have M4 := hid m4
  clear k4 m4 M3 NB PA GW
  go_wp2_with fail
  refine (R1.out _ (LY.out _ K4.out)).mono ?_
  rintro e u5 ⟨rfl, k5⟩
  have K5 := hid (K4.out.trans k5)
  have M5 := hid (mem_kept M4.out k5)
  clear k5 M4 R1
  go_wp2_with fail
  refine (R2.out _ (LY.out _ K5.out)).mono ?_
  rintro e u6 ⟨rfl, k6⟩
  have K6 := hid (K5.out.trans k6)
  have M6 := hid (mem_kept M5.out k6)
  clear k6 M5 R2
  go_wp2_with fail
  refine (GA.out _ _ M6.out (LY.out _ K6.out)).mono ?_
  rintro e u7 ⟨rfl, k7⟩
  have K7 := hid (K6.out.trans k7)
  have M7 := hid (mem_kept M6.out k7)
  clear k7
  go_wp2_with fail
  refine (GO.out _ _ M7.out (LY.out _ K7.out)).mono ?_
  rintro e u8 ⟨rfl, k8⟩
  have K8 := hid (K7.out.trans k8)
  have M8 := hid (mem_kept M7.out k8)
  clear k8
  go_wp2
  go_ret
  exact ⟨rfl, K8.out⟩
set_option maxRecDepth 100000 in
set_option maxHeartbeats 4000000 in
theorem back_0_same_no (a v o q r x s y g : Int) (M1 M2 : List Int) (w : World) (lay : Lay20 w) (o0 : 0 ≤ o) (o1 : o ≤ 65535) (q0 : 0 ≤ q) (q1 : q ≤ 255) (hM1 : putP M0 o q = M1)
    (R1 : ∀ u, Lay20 u → Calls Tryd.prog 10 #[.int .u16 a] u fun e w' => e = .returned (.tuple #[.int .i64 r, .int .i64 x]) ∧ Kept u w')
    (R2 : ∀ u, Lay20 u → Calls Tryd.prog 10 #[.int .u16 o] u fun e w' => e = .returned (.tuple #[.int .i64 s, .int .i64 y]) ∧ Kept u w')
    (GW : ∀ (b : Nat) u, MemAt u b M1 → Lay20 u → Calls Tryd.prog 20 #[.pointer (some ⟨b, 0, none⟩), .int .u16 o] u fun e w' => e = .returned (.int .u8 g) ∧ Kept u w')
    (PA : ∀ (b : Nat) u, MemAt u b M1 → Lay20 u → Calls Tryd.prog 22 #[.pointer (some ⟨b, 0, none⟩), .int .u16 a, .int .u8 v] u fun e w' => e = .returned (.tuple #[]) ∧ (MemAt w' b M2 ∧ KeptX (fun j => j = b) u w'))
    (GA : ∀ (b : Nat) u, MemAt u b M2 → Lay20 u → Calls Tryd.prog 20 #[.pointer (some ⟨b, 0, none⟩), .int .u16 a] u fun e w' => e = .returned (.int .u8 255) ∧ Kept u w') (GO : ∀ (b : Nat) u, MemAt u b M2 → Lay20 u → Calls Tryd.prog 20 #[.pointer (some ⟨b, 0, none⟩), .int .u16 o] u fun e w' => e = .returned (.int .u8 255) ∧ Kept u w') (h1 : r ≠ 1) (h3 : r ≠ 3) (h4 : r ≠ 4) (h7 : r ≠ 7) (hs : s = r) (hy : x = y) :
    Calls Tryd.prog 7 #[.int .u16 a, .int .u8 v, .int .u16 o, .int .u8 q] w fun e w' => e = .returned (.bool true) ∧ Kept w w' := by
  have LY : Hid (∀ u, Kept w u → Lay20 u) := fun u k => lay20_kept lay k
  have SH := hid (kshown20 w lay)
  clear lay
  have R1 := hid R1
  have R2 := hid R2
  have GW := hid GW
  have PA := hid PA
  have GA := hid GA
  have GO := hid GO
  have n1 : (r == 1) = false := beq_false_of_ne h1
  have n3 : (r == 3) = false := beq_false_of_ne h3
  have n4 : (r == 4) = false := beq_false_of_ne h4
  have n7 : (r == 7) = false := beq_false_of_ne h7
  have n0 : (r != 3) = true := by simpa using h3
  clear h1 h3 h4 h7
  subst hs
  subst hy
  go_enter Tryd.func7, Tryd.ntmps7
  go_wp2_with fail
  refine SH.out.mono ?_
  rintro e u0 ⟨rfl, k0⟩
  have K0 := hid k0
  clear k0 SH
  go_wp2_with fail
  refine (pnew20 _ (LY.out _ K0.out)).mono ?_
  rintro e u1 ⟨rfl, m1, k1⟩
  have K1 := hid (K0.out.trans k1)
  have M1 := hid m1
  have NB : Hid (w.heap.size ≤ u0.heap.size) := K0.out.size
  clear k1 m1
  go_wp2_with fail
  refine (pput20 _ M0 o q _ M1.out (LY.out _ K1.out) o0 o1 ⟨q0, q1⟩).mono ?_
  rw [hM1]
  rintro e u2 ⟨rfl, m2, k2⟩
  have K2 := hid (k2.kept K1.out (fun j h => by rw [h]; exact NB.out))
  have M2_ := hid m2
  clear k2 m2 M1
  go_wp2_with fail
  refine (GW.out _ _ M2_.out (LY.out _ K2.out)).mono ?_
  rintro e u3 ⟨rfl, k3⟩
  have K3 := hid (K2.out.trans k3)
  have M3 := hid (mem_kept M2_.out k3)
  clear k3 M2_
  go_wp2_with fail
  refine (PA.out _ _ M3.out (LY.out _ K3.out)).mono ?_
  rintro e u4 ⟨rfl, m4, k4⟩
  have K4 := hid (k4.kept K3.out (fun j h => by rw [h]; exact NB.out))
  have M4 := hid m4
  clear k4 m4 M3 NB PA GW
  go_wp2_with fail
  refine (R1.out _ (LY.out _ K4.out)).mono ?_
  rintro e u5 ⟨rfl, k5⟩
  have K5 := hid (K4.out.trans k5)
  have M5 := hid (mem_kept M4.out k5)
  clear k5 M4 R1
  go_wp2_with fail
  refine (R2.out _ (LY.out _ K5.out)).mono ?_
  rintro e u6 ⟨rfl, k6⟩
  have K6 := hid (K5.out.trans k6)
  have M6 := hid (mem_kept M5.out k6)
  clear k6 M5 R2
  go_wp2_with fail
  refine (GA.out _ _ M6.out (LY.out _ K6.out)).mono ?_
  rintro e u7 ⟨rfl, k7⟩
  have K7 := hid (K6.out.trans k7)
  have M7 := hid (mem_kept M6.out k7)
  clear k7
  go_wp2_with fail
  refine (GO.out _ _ M7.out (LY.out _ K7.out)).mono ?_
  rintro e u8 ⟨rfl, k8⟩
  have K8 := hid (K7.out.trans k8)
  have M8 := hid (mem_kept M7.out k8)
  clear k8
  go_wp2_with fail
  refine (GA.out _ _ M8.out (LY.out _ K8.out)).mono ?_
  rintro e u9 ⟨rfl, k9⟩
  have K9 := hid (K8.out.trans k9)
  have M9 := hid (mem_kept M8.out k9)
  clear k9
  go_wp2
  go_ret
  exact ⟨rfl, K9.out⟩
set_option maxRecDepth 100000 in
set_option maxHeartbeats 4000000 in
theorem back_0_reg_no (a v o q r x s y g : Int) (M1 M2 : List Int) (w : World) (lay : Lay20 w) (o0 : 0 ≤ o) (o1 : o ≤ 65535) (q0 : 0 ≤ q) (q1 : q ≤ 255) (hM1 : putP M0 o q = M1)
    (R1 : ∀ u, Lay20 u → Calls Tryd.prog 10 #[.int .u16 a] u fun e w' => e = .returned (.tuple #[.int .i64 r, .int .i64 x]) ∧ Kept u w')
    (R2 : ∀ u, Lay20 u → Calls Tryd.prog 10 #[.int .u16 o] u fun e w' => e = .returned (.tuple #[.int .i64 s, .int .i64 y]) ∧ Kept u w')
    (GW : ∀ (b : Nat) u, MemAt u b M1 → Lay20 u → Calls Tryd.prog 20 #[.pointer (some ⟨b, 0, none⟩), .int .u16 o] u fun e w' => e = .returned (.int .u8 g) ∧ Kept u w')
    (PA : ∀ (b : Nat) u, MemAt u b M1 → Lay20 u → Calls Tryd.prog 22 #[.pointer (some ⟨b, 0, none⟩), .int .u16 a, .int .u8 v] u fun e w' => e = .returned (.tuple #[]) ∧ (MemAt w' b M2 ∧ KeptX (fun j => j = b) u w'))
    (GA : ∀ (b : Nat) u, MemAt u b M2 → Lay20 u → Calls Tryd.prog 20 #[.pointer (some ⟨b, 0, none⟩), .int .u16 a] u fun e w' => e = .returned (.int .u8 255) ∧ Kept u w') (GO : ∀ (b : Nat) u, MemAt u b M2 → Lay20 u → Calls Tryd.prog 20 #[.pointer (some ⟨b, 0, none⟩), .int .u16 o] u fun e w' => e = .returned (.int .u8 g) ∧ Kept u w') (h1 : r ≠ 1) (h3 : r ≠ 3) (h4 : r ≠ 4) (h7 : r ≠ 7) (hs : r ≠ s) :
    Calls Tryd.prog 7 #[.int .u16 a, .int .u8 v, .int .u16 o, .int .u8 q] w fun e w' => e = .returned (.bool true) ∧ Kept w w' := by
  have LY : Hid (∀ u, Kept w u → Lay20 u) := fun u k => lay20_kept lay k
  have SH := hid (kshown20 w lay)
  clear lay
  have R1 := hid R1
  have R2 := hid R2
  have GW := hid GW
  have PA := hid PA
  have GA := hid GA
  have GO := hid GO
  have n1 : (r == 1) = false := beq_false_of_ne h1
  have n3 : (r == 3) = false := beq_false_of_ne h3
  have n4 : (r == 4) = false := beq_false_of_ne h4
  have n7 : (r == 7) = false := beq_false_of_ne h7
  have n0 : (r != 3) = true := by simpa using h3
  clear h1 h3 h4 h7
  have d1 : (r != s) = true := by simpa using hs
  have d2 : (r == s) = false := by simpa using hs
  clear hs
  go_enter Tryd.func7, Tryd.ntmps7
  go_wp2_with fail
  refine SH.out.mono ?_
  rintro e u0 ⟨rfl, k0⟩
  have K0 := hid k0
  clear k0 SH
  go_wp2_with fail
  refine (pnew20 _ (LY.out _ K0.out)).mono ?_
  rintro e u1 ⟨rfl, m1, k1⟩
  have K1 := hid (K0.out.trans k1)
  have M1 := hid m1
  have NB : Hid (w.heap.size ≤ u0.heap.size) := K0.out.size
  clear k1 m1
  go_wp2_with fail
  refine (pput20 _ M0 o q _ M1.out (LY.out _ K1.out) o0 o1 ⟨q0, q1⟩).mono ?_
  rw [hM1]
  rintro e u2 ⟨rfl, m2, k2⟩
  have K2 := hid (k2.kept K1.out (fun j h => by rw [h]; exact NB.out))
  have M2_ := hid m2
  clear k2 m2 M1
  go_wp2_with fail
  refine (GW.out _ _ M2_.out (LY.out _ K2.out)).mono ?_
  rintro e u3 ⟨rfl, k3⟩
  have K3 := hid (K2.out.trans k3)
  have M3 := hid (mem_kept M2_.out k3)
  clear k3 M2_
  go_wp2_with fail
  refine (PA.out _ _ M3.out (LY.out _ K3.out)).mono ?_
  rintro e u4 ⟨rfl, m4, k4⟩
  have K4 := hid (k4.kept K3.out (fun j h => by rw [h]; exact NB.out))
  have M4 := hid m4
  clear k4 m4 M3 NB PA GW
  go_wp2_with fail
  refine (R1.out _ (LY.out _ K4.out)).mono ?_
  rintro e u5 ⟨rfl, k5⟩
  have K5 := hid (K4.out.trans k5)
  have M5 := hid (mem_kept M4.out k5)
  clear k5 M4 R1
  go_wp2_with fail
  refine (R2.out _ (LY.out _ K5.out)).mono ?_
  rintro e u6 ⟨rfl, k6⟩
  have K6 := hid (K5.out.trans k6)
  have M6 := hid (mem_kept M5.out k6)
  clear k6 M5 R2
  go_wp2_with fail
  refine (GA.out _ _ M6.out (LY.out _ K6.out)).mono ?_
  rintro e u7 ⟨rfl, k7⟩
  have K7 := hid (K6.out.trans k7)
  have M7 := hid (mem_kept M6.out k7)
  clear k7
  go_wp2_with fail
  refine (GO.out _ _ M7.out (LY.out _ K7.out)).mono ?_
  rintro e u8 ⟨rfl, k8⟩
  have K8 := hid (K7.out.trans k8)
  have M8 := hid (mem_kept M7.out k8)
  clear k8
  go_wp2
  go_ret
  exact ⟨rfl, K8.out⟩
set_option maxRecDepth 100000 in
set_option maxHeartbeats 4000000 in
theorem back_0_at_no (a v o q r x s y g : Int) (M1 M2 : List Int) (w : World) (lay : Lay20 w) (o0 : 0 ≤ o) (o1 : o ≤ 65535) (q0 : 0 ≤ q) (q1 : q ≤ 255) (hM1 : putP M0 o q = M1)
    (R1 : ∀ u, Lay20 u → Calls Tryd.prog 10 #[.int .u16 a] u fun e w' => e = .returned (.tuple #[.int .i64 r, .int .i64 x]) ∧ Kept u w')
    (R2 : ∀ u, Lay20 u → Calls Tryd.prog 10 #[.int .u16 o] u fun e w' => e = .returned (.tuple #[.int .i64 s, .int .i64 y]) ∧ Kept u w')
    (GW : ∀ (b : Nat) u, MemAt u b M1 → Lay20 u → Calls Tryd.prog 20 #[.pointer (some ⟨b, 0, none⟩), .int .u16 o] u fun e w' => e = .returned (.int .u8 g) ∧ Kept u w')
    (PA : ∀ (b : Nat) u, MemAt u b M1 → Lay20 u → Calls Tryd.prog 22 #[.pointer (some ⟨b, 0, none⟩), .int .u16 a, .int .u8 v] u fun e w' => e = .returned (.tuple #[]) ∧ (MemAt w' b M2 ∧ KeptX (fun j => j = b) u w'))
    (GA : ∀ (b : Nat) u, MemAt u b M2 → Lay20 u → Calls Tryd.prog 20 #[.pointer (some ⟨b, 0, none⟩), .int .u16 a] u fun e w' => e = .returned (.int .u8 255) ∧ Kept u w') (GO : ∀ (b : Nat) u, MemAt u b M2 → Lay20 u → Calls Tryd.prog 20 #[.pointer (some ⟨b, 0, none⟩), .int .u16 o] u fun e w' => e = .returned (.int .u8 g) ∧ Kept u w') (h1 : r ≠ 1) (h3 : r ≠ 3) (h4 : r ≠ 4) (h7 : r ≠ 7) (hs : s = r) (hy : x ≠ y) :
    Calls Tryd.prog 7 #[.int .u16 a, .int .u8 v, .int .u16 o, .int .u8 q] w fun e w' => e = .returned (.bool true) ∧ Kept w w' := by
  have LY : Hid (∀ u, Kept w u → Lay20 u) := fun u k => lay20_kept lay k
  have SH := hid (kshown20 w lay)
  clear lay
  have R1 := hid R1
  have R2 := hid R2
  have GW := hid GW
  have PA := hid PA
  have GA := hid GA
  have GO := hid GO
  have n1 : (r == 1) = false := beq_false_of_ne h1
  have n3 : (r == 3) = false := beq_false_of_ne h3
  have n4 : (r == 4) = false := beq_false_of_ne h4
  have n7 : (r == 7) = false := beq_false_of_ne h7
  have n0 : (r != 3) = true := by simpa using h3
  clear h1 h3 h4 h7
  subst hs
  have d1 : (x != y) = true := by simpa using hy
  have d2 : (x == y) = false := by simpa using hy
  clear hy
  go_enter Tryd.func7, Tryd.ntmps7
  go_wp2_with fail
  refine SH.out.mono ?_
  rintro e u0 ⟨rfl, k0⟩
  have K0 := hid k0
  clear k0 SH
  go_wp2_with fail
  refine (pnew20 _ (LY.out _ K0.out)).mono ?_
  rintro e u1 ⟨rfl, m1, k1⟩
  have K1 := hid (K0.out.trans k1)
  have M1 := hid m1
  have NB : Hid (w.heap.size ≤ u0.heap.size) := K0.out.size
  clear k1 m1
  go_wp2_with fail
  refine (pput20 _ M0 o q _ M1.out (LY.out _ K1.out) o0 o1 ⟨q0, q1⟩).mono ?_
  rw [hM1]
  rintro e u2 ⟨rfl, m2, k2⟩
  have K2 := hid (k2.kept K1.out (fun j h => by rw [h]; exact NB.out))
  have M2_ := hid m2
  clear k2 m2 M1
  go_wp2_with fail
  refine (GW.out _ _ M2_.out (LY.out _ K2.out)).mono ?_
  rintro e u3 ⟨rfl, k3⟩
  have K3 := hid (K2.out.trans k3)
  have M3 := hid (mem_kept M2_.out k3)
  clear k3 M2_
  go_wp2_with fail
  refine (PA.out _ _ M3.out (LY.out _ K3.out)).mono ?_
  rintro e u4 ⟨rfl, m4, k4⟩
  have K4 := hid (k4.kept K3.out (fun j h => by rw [h]; exact NB.out))
  have M4 := hid m4
  clear k4 m4 M3 NB PA GW
  go_wp2_with fail
  refine (R1.out _ (LY.out _ K4.out)).mono ?_
  rintro e u5 ⟨rfl, k5⟩
  have K5 := hid (K4.out.trans k5)
  have M5 := hid (mem_kept M4.out k5)
  clear k5 M4 R1
  go_wp2_with fail
  refine (R2.out _ (LY.out _ K5.out)).mono ?_
  rintro e u6 ⟨rfl, k6⟩
  have K6 := hid (K5.out.trans k6)
  have M6 := hid (mem_kept M5.out k6)
  clear k6 M5 R2
  go_wp2_with fail
  refine (GA.out _ _ M6.out (LY.out _ K6.out)).mono ?_
  rintro e u7 ⟨rfl, k7⟩
  have K7 := hid (K6.out.trans k7)
  have M7 := hid (mem_kept M6.out k7)
  clear k7
  go_wp2_with fail
  refine (GO.out _ _ M7.out (LY.out _ K7.out)).mono ?_
  rintro e u8 ⟨rfl, k8⟩
  have K8 := hid (K7.out.trans k8)
  have M8 := hid (mem_kept M7.out k8)
  clear k8
  go_wp2
  go_ret
  exact ⟨rfl, K8.out⟩
theorem back20 (a v o q : Int) (w : World) (lay : Lay20 w) (a0 : 0 ≤ a) (a1 : a ≤ 65535) (v0 : 0 ≤ v) (v1 : v ≤ 255) (o0 : 0 ≤ o) (o1 : o ≤ 65535) (q0 : 0 ≤ q) (q1 : q ≤ 255) :
    Calls Tryd.prog 7 #[.int .u16 a, .int .u8 v, .int .u16 o, .int .u8 q] w fun e w' => e = .returned (.bool true) ∧ Kept w w' := by
  obtain ⟨M1, hM1⟩ : ∃ M, putP M0 o q = M := ⟨_, rfl⟩
  obtain ⟨M2, hM2⟩ : ∃ M, putP M1 a v = M := ⟨_, rfl⟩
  have L1 : M1.length = 16671 := by rw [← hM1, put_len]; exact M0_len
  have R1 := fun u l => preg20 a u l a0 a1
  have R2 := fun u l => preg20 o u l o0 o1
  have GW := fun (b : Nat) u m l => pget20 b M1 o u m l o0 o1
  have PA := fun (b : Nat) u m l => pput20 b M1 a v u m l a0 a1 ⟨v0, v1⟩
  rw [hM2] at PA
  have G := fun (p : Int) (p0 : 0 ≤ p) (p1 : p ≤ 65535) (b : Nat) u m l => pget20 b M2 p u m l p0 p1
  have GA := G a a0 a1
  have GO := G o o0 o1
  have gp := get_put M1 L1 a v a0 a1
  rw [hM2] at gp
  have go := get_other M1 a v o a0 a1 o0 o1
  rw [hM2] at go
  have gl := get_like M2 a o
  have gt := get_twin M2 a
  have x0 := (at_in a a0 a1).1
  have tw : regP a = 3 → atP20 a < 7680 → keepR (regP a) = true → getP M2 (49152 + atP20 a) = v ∧ getP M2 (57344 + atP20 a) = v := fun hr hx hk => by
    rw [if_pos hk] at gp
    exact ⟨(gt _ hr _ rfl (at_low _ x0 hx)).trans gp, (gt _ hr _ rfl (at_high _ x0 hx)).trans gp⟩
  clear gt
  have GL := fun (h : atP20 a < 7680) => G (49152 + atP20 a) (by omega) (by omega)
  have GH := fun (h : atP20 a < 7680) => G (57344 + atP20 a) (by omega) (by omega)
  clear G
  generalize regP a = r at *
  generalize atP20 a = x at *
  generalize regP o = s at *
  generalize atP20 o = y at *
  cases hk : keepR r
  · obtain ⟨h1, h3, h4, h7⟩ := keep_not hk
    rw [if_neg (by rw [hk]; simp)] at gp
    rw [gp] at GA
    by_cases hs : r = s
    · by_cases hy : x = y
      · have e := gl hs hy
        rw [gp] at e
        rw [e] at GO
        exact back_0_same_no a v o q r x s y _ M1 M2 w lay o0 o1 q0 q1 hM1 R1 R2 GW PA GA GO h1 h3 h4 h7 hs.symm hy
      · rw [go (fun c => hy c.2)] at GO
        exact back_0_at_no a v o q r x s y _ M1 M2 w lay o0 o1 q0 q1 hM1 R1 R2 GW PA GA GO h1 h3 h4 h7 hs.symm hy
    · rw [go (fun c => hs c.1)] at GO
      exact back_0_reg_no a v o q r x s y _ M1 M2 w lay o0 o1 q0 q1 hM1 R1 R2 GW PA GA GO h1 h3 h4 h7 hs
  · rw [if_pos hk] at gp
    rw [gp] at GA
    rcases keep_cases hk with hr | hr | hr | hr
    · by_cases hs : r = s
      · by_cases hy : x = y
        · have e := gl hs hy
          rw [gp] at e
          rw [e] at GO
          exact back_1_same_no a v o q r x s y _ M1 M2 w lay o0 o1 q0 q1 hM1 R1 R2 GW PA GA GO hr hs.symm hy
        · rw [go (fun c => hy c.2)] at GO
          exact back_1_at_no a v o q r x s y _ M1 M2 w lay o0 o1 q0 q1 hM1 R1 R2 GW PA GA GO hr hs.symm hy
      · rw [go (fun c => hs c.1)] at GO
        exact back_1_reg_no a v o q r x s y _ M1 M2 w lay o0 o1 q0 q1 hM1 R1 R2 GW PA GA GO hr hs
    · by_cases hs : r = s
      · by_cases hy : x = y
        · have e := gl hs hy
          rw [gp] at e
          rw [e] at GO
          by_cases hx : x < 7680
          · have G1 := GL hx
            have G2 := GH hx
            rw [(tw hr hx hk).1] at G1
            rw [(tw hr hx hk).2] at G2
            exact back_3_same_twin a v o q r x s y _ M1 M2 w lay o0 o1 q0 q1 hM1 R1 R2 GW PA GA GO hr hs.symm hy hx x0 G1 G2
          · exact back_3_same_far a v o q r x s y _ M1 M2 w lay o0 o1 q0 q1 hM1 R1 R2 GW PA GA GO hr hs.symm hy (by omega)
        · rw [go (fun c => hy c.2)] at GO
          by_cases hx : x < 7680
          · have G1 := GL hx
            have G2 := GH hx
            rw [(tw hr hx hk).1] at G1
            rw [(tw hr hx hk).2] at G2
            exact back_3_at_twin a v o q r x s y _ M1 M2 w lay o0 o1 q0 q1 hM1 R1 R2 GW PA GA GO hr hs.symm hy hx x0 G1 G2
          · exact back_3_at_far a v o q r x s y _ M1 M2 w lay o0 o1 q0 q1 hM1 R1 R2 GW PA GA GO hr hs.symm hy (by omega)
      · rw [go (fun c => hs c.1)] at GO
        by_cases hx : x < 7680
        · have G1 := GL hx
          have G2 := GH hx
          rw [(tw hr hx hk).1] at G1
          rw [(tw hr hx hk).2] at G2
          exact back_3_reg_twin a v o q r x s y _ M1 M2 w lay o0 o1 q0 q1 hM1 R1 R2 GW PA GA GO hr hs hx x0 G1 G2
        · exact back_3_reg_far a v o q r x s y _ M1 M2 w lay o0 o1 q0 q1 hM1 R1 R2 GW PA GA GO hr hs (by omega)
    · by_cases hs : r = s
      · by_cases hy : x = y
        · have e := gl hs hy
          rw [gp] at e
          rw [e] at GO
          exact back_4_same_no a v o q r x s y _ M1 M2 w lay o0 o1 q0 q1 hM1 R1 R2 GW PA GA GO hr hs.symm hy
        · rw [go (fun c => hy c.2)] at GO
          exact back_4_at_no a v o q r x s y _ M1 M2 w lay o0 o1 q0 q1 hM1 R1 R2 GW PA GA GO hr hs.symm hy
      · rw [go (fun c => hs c.1)] at GO
        exact back_4_reg_no a v o q r x s y _ M1 M2 w lay o0 o1 q0 q1 hM1 R1 R2 GW PA GA GO hr hs
    · by_cases hs : r = s
      · by_cases hy : x = y
        · have e := gl hs hy
          rw [gp] at e
          rw [e] at GO
          exact back_7_same_no a v o q r x s y _ M1 M2 w lay o0 o1 q0 q1 hM1 R1 R2 GW PA GA GO hr hs.symm hy
        · rw [go (fun c => hy c.2)] at GO
          exact back_7_at_no a v o q r x s y _ M1 M2 w lay o0 o1 q0 q1 hM1 R1 R2 GW PA GA GO hr hs.symm hy
      · rw [go (fun c => hs c.1)] at GO
        exact back_7_reg_no a v o q r x s y _ M1 M2 w lay o0 o1 q0 q1 hM1 R1 R2 GW PA GA GO hr hs
end Go.Proofs.YtfndpikcodjajaaDoor
