/- Two cycles, and two plans, held against each other; the examples at the head of layer 21's laws. -/
import Derived.Test.YtbflhpffojlpgaaDoorRm21c
import Derived.BigQuiet
namespace Go.Proofs.YtbflhpffojlpgaaDoor
open Go.RowKit
set_option linter.unusedVariables false
set_option linter.unusedSimpArgs false

def sameM (a0 a1 a2 b0 b1 b2 : Int) : Bool := a0 == b0 && a1 == b1 && a2 == b2
set_option maxHeartbeats 2000000 in
theorem eqM (a0 a1 a2 b0 b1 b2 : Int) (u : World) : (Op.equalIn 10000 32 (.agg #[.int .i64 a0, .int .i64 a1, .int .i64 a2]) (.agg #[.int .i64 b0, .int .i64 b1, .int .i64 b2])).run Tryd.prog u = .ok (sameM a0 a1 a2 b0 b1 b2) u := by
  unfold sameM
  cases h1 : (a0 == b0)
  · simp [go_sem, h1]
  cases h2 : (a1 == b1)
  · simp [go_sem, h1, h2]
  cases h3 : (a2 == b2) <;> simp [go_sem, h1, h2, h3]
theorem eqM_same (a0 a1 a2 : Int) (u : World) : (Op.equalIn 10000 32 (.agg #[.int .i64 a0, .int .i64 a1, .int .i64 a2]) (.agg #[.int .i64 a0, .int .i64 a1, .int .i64 a2])).run Tryd.prog u = .ok true u := by
  rw [eqM]; simp [sameM]
set_option maxRecDepth 100000 in
set_option maxHeartbeats 4000000 in
theorem rsame21 (a b : Option Addr) (ca cb : Nat) (L : List Mc) (w : World) (h : SlM w a ca L) (g : SlM w b cb L) (hl : L.length ≤ 1000000) :
    Calls Tryd.prog 9 #[.slice a L.length ca, .slice b L.length cb] w fun e w' => e = .returned (.bool true) ∧ Kept w w' := by
  have mixed : Tryd.prog.follows .mixedOrders = true := by kernel_rfl
  have FG := hid (fun q => slM_at h q)
  have GG := hid (fun q => slM_at g q)
  clear h g
  obtain ⟨n, hn⟩ : ∃ n : Nat, L.length = n := ⟨_, rfl⟩
  rw [hn] at FG GG hl ⊢
  have e0 : ((n : Int) == (n : Int)) = true := by simp
  clear hn
  go_enter Tryd.func9, Tryd.ntmps9
  go_wp2
  go_loopw [5] (fun iv wr => ∃ j : Nat, j ≤ n ∧ iv = .int .i64 (j : Int) ∧ Kept w wr) (fun iv _ => n - (intOf iv).toNat)
  case atStart => exact ⟨0, Nat.zero_le _, rfl, Kept.refl w⟩
  case round =>
    obtain ⟨j, hj, rfl, hk⟩ := hrel
    have KK := hid hk
    by_cases hlt : j < n
    · have g1 : decide ((j : Int) < (n : Int)) = true := decide_eq_true (by omega)
      have g3 : (j : Int) < (n : Int) := by omega
      obtain ⟨x, rfl, hx, hc⟩ := FG.out (by omega)
      obtain ⟨y, rfl, hy, hd⟩ := GG.out (by omega)
      have O := mat_kept hk (by rw [addFB]; exact hx) (hc j hlt)
      have P := mat_kept hk (by rw [addFB]; exact hy) (hd j hlt)
      generalize L.getD j default = o at *
      clear hc hd hk
      obtain ⟨o0, o1, o2⟩ := o
      have EQ := fun u => eqM_same o0 o1 o2 u
      obtain ⟨d0, d1, d2⟩ := O
      obtain ⟨f0, f1, f2⟩ := P
      simp only at d0 d1 d2 f0 f1 f2
      go_wp2_with fail
      go_quiet (fail)
      go_wp2
      go_roundw
      case rel => exact ⟨j + 1, by omega, by go_num, KK.out.drewN⟩
      case measure => first | omega | (simp; omega) | (simp [intOf]; omega)
    · have g1 : decide ((j : Int) < (n : Int)) = false := decide_eq_false (by omega)
      have g3 : ¬ (j : Int) < (n : Int) := by omega
      clear hk
      go_wp2
      go_ret
      exact ⟨rfl, KK.out⟩
theorem add_zero21 (x : Addr) : x.add 0 = x := by unfold Addr.add; rw [if_pos rfl]
theorem add_some21 (x : Addr) (k : Nat) (h : k ≠ 0) : x.add k = ⟨x.block, x.off + k, none⟩ := by unfold Addr.add; rw [if_neg h]
theorem plan205 : planP (fmOf 205 false) true = [(1, 1, 1), (1, 1, 2), (0, 0, 0), (2, 11, 8), (2, 11, 7)] := by decide +kernel
theorem plan192 : planP (fmOf 192 false) false = [(0, 0, 0)] := by decide +kernel
set_option maxRecDepth 100000 in
set_option maxHeartbeats 4000000 in
theorem kshown21 (w : World) (lay : Lay21 w) : Calls Tryd.prog 8 #[] w fun e w' => e = .returned (.bool true) ∧ Kept w w' := by
  have A := hid (fun u (k : Kept w u) => pplan21 205 false true u (lay21_kept lay k) (by decide) (by decide))
  have B := hid (fun u (k : Kept w u) => pplan21 192 false false u (lay21_kept lay k) (by decide) (by decide))
  rw [plan205] at A
  rw [plan192] at B
  clear lay
  have E1 := fun u => eqM_same 1 1 1 u
  have E2 := fun u => eqM_same 2 11 7 u
  have E3 := fun u => eqM_same 0 0 0 u
  go_enter Tryd.func8, Tryd.ntmps8
  go_wp2_with fail
  refine (A.out _ (Kept.refl w)).mono ?_
  rintro e u1 ⟨a1, c1, rfl, s1, k1⟩
  have K1 := hid k1
  obtain ⟨x, rfl, hx, hc⟩ := slM_at s1 (by decide)
  have X := hid hx
  have P0 := hid (hc 0 (by decide))
  have P4 := hid (hc 4 (by decide))
  clear s1 k1 hx hc
  go_wp2_with fail
  refine (B.out _ K1.out).mono ?_
  rintro e u2 ⟨a2, c2, rfl, s2, k2⟩
  have K2 := hid (K1.out.trans k2)
  obtain ⟨y, rfl, hy, hd⟩ := slM_at s2 (by decide)
  obtain ⟨d0, d1, d2⟩ := hd 0 (by decide)
  obtain ⟨f0, f1, f2⟩ := mat_kept k2 (by rw [addFB]; exact X.out) P0.out
  obtain ⟨g0, g1, g2⟩ := mat_kept k2 (by rw [addFB]; exact X.out) P4.out
  have hx2 := Nat.lt_of_lt_of_le X.out k2.size
  rw [Nat.zero_mul] at d0 d1 d2 f0 f1 f2
  simp only [Nat.reduceMul, List.getD_cons_zero, List.getD_cons_succ] at d0 d1 d2 f0 f1 f2 g0 g1 g2
  rw [add_zero21] at d0 d1 d2 f0 f1 f2
  rw [add_some21 x 12 (by decide)] at g0 g1 g2
  simp only at g1 g2
  clear hd s2 k2
  go_wp2
  go_ret
  exact ⟨rfl, K2.out⟩
end Go.Proofs.YtbflhpffojlpgaaDoor
