/- Layer 16's law ObjectsOrders. -/
import Derived.Test.YtaknbjignaefkaaSw16
import Derived.Test.YtaknbjignaefkaaRod16
namespace Go.Proofs.Ytaknbjignaefkaa
open Go.RowKit
set_option linter.unusedVariables false
set_option linter.unusedSimpArgs false

theorem same_t (x : Option Addr) (cx : Nat) (M : List Ob) (y : Option Addr) (cy : Nat) (u : World) (p : SlO u x cx M) (q : SlO u y cy M) (h : M.length ≤ 1000000) : Calls Try.prog 10 #[.slice x M.length cx, .slice y M.length cy] u fun e w' => e = .returned (.bool true) ∧ Kept u w' := by
  have r := rsame16 x cx M y cy M u p q h
  rw [decide_eq_true (rfl : M = M)] at r
  exact r
set_option maxRecDepth 100000 in
set_option maxHeartbeats 4000000 in
theorem orders16 (a : Option Addr) (cap : Nat) (L : List Ob) (w : World) (h : SlO w a cap L) (hb : L.length ≤ 28147497670246) :
    Calls Try.prog 4 #[.slice a L.length cap] w fun e w' => e = .returned (.bool true) ∧ Kept w w' := by
  have S := hid (fun u => kshown16 u)
  by_cases hl : 1000 < L.length
  · have g1 : (1000 : Int) < (L.length : Int) := by omega
    clear h
    generalize L.length = n at *
    go_enter Try.func4, Try.ntmps4
    go_wp2_with fail
    refine (S.out _).mono ?_
    rintro e u1 ⟨rfl, k1⟩
    have K1 := hid k1
    clear k1
    go_wp2
    go_ret
    exact ⟨rfl, K1.out⟩
  · have A := hid (fun x cx u p => porder16 x cx L u p (by omega))
    have B := hid (fun u k => rorder16 a cap L u (slO_kept k h) (by omega))
    have C := hid (fun x cx M y cy u p q (e : M.length ≤ 1000000) => same_t x cx M y cy u p q e)
    have D := hid (fun x cx u p q => same_t x cx L a cap u p q (by omega))
    have H := hid h
    obtain ⟨n, hn⟩ : ∃ n, L.length = n := ⟨_, rfl⟩
    have HN := hid hn
    rw [hn] at hl A B D ⊢
    have g1 : ¬ (1000 : Int) < (n : Int) := by omega
    clear h hn hb
    go_enter Try.func4, Try.ntmps4
    go_wp2_with fail
    refine (S.out _).mono ?_
    rintro e u1 ⟨rfl, k1⟩
    have K1 := hid k1
    clear k1
    go_wp2_with (at_builtin; (refine wl_appendO (M := L) (ownO_empty u1 (Nat.le_refl _)) (slO_kept (K1.out.alloc _) H.out) rfl rfl rfl rfl HN.out.symm (by rw [World.size_alloc]; omega) (by have := HN.out; have e : ([] : List Ob).length = 0 := rfl; omega) (fun v' u2 o2 g2 => ?_); refine Hid.out ?_))
    have K2 := hid (K1.out.trans (((Kept.refl u1).alloc _).by g2 (fun q hq => by cases hq; exact Nat.le_refl _)))
    obtain ⟨a3, c3, e3, s3, _⟩ := own_slO o2
    rw [List.nil_append, HN.out] at e3
    rw [List.nil_append] at s3
    subst e3
    have S3 := hid s3
    clear g2 o2 s3
    refine hid ?_
    go_wp2_with fail
    refine (A.out _ _ _ S3.out).mono ?_
    rintro e u4 ⟨⟨M, t4, l4, a4, c4, rfl, s4⟩, k4⟩
    have K4 := hid (K2.out.trans k4)
    have S4 := hid s4
    have T4 := hid t4
    have S5 := hid (slO_kept k4 S3.out)
    have L4 := hid l4
    clear k4 s4 t4 S3 l4
    go_wp2_with fail
    refine (B.out _ K4.out).mono ?_
    rintro e u6 ⟨⟨M2, t6, l6, a6, c6, rfl, s6⟩, k6⟩
    obtain rfl : M = M2 := stab_uniq T4.out t6
    have K6 := hid (K4.out.trans k6)
    have S6 := hid s6
    have S7 := hid (slO_kept k6 S4.out)
    have S8 := hid (slO_kept k6 S5.out)
    clear k6 s6 t6 S4 S5 l6
    have LM : M.length ≤ 1000000 := by rw [L4.out]; omega
    go_wp2_with fail
    refine (C.out _ _ _ _ _ _ S7.out S6.out LM).mono ?_
    rintro e u9 ⟨rfl, k9⟩
    have K9 := hid (K6.out.trans k9)
    have S9 := hid (slO_kept k9 S8.out)
    clear k9
    go_wp2_with fail
    refine (D.out _ _ _ S9.out (slO_kept K9.out H.out)).mono ?_
    rintro e u10 ⟨rfl, k10⟩
    have K10 := hid (K9.out.trans k10)
    clear k10
    go_wp2
    go_ret
    exact ⟨rfl, K10.out⟩
end Go.Proofs.Ytaknbjignaefkaa
