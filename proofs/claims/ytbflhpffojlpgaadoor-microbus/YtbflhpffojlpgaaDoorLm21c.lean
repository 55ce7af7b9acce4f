/- Layer 21's law of the bus. -/
import Derived.Test.YtbflhpffojlpgaaDoorLm21a
namespace Go.Proofs.YtbflhpffojlpgaaDoor
open Go.RowKit
set_option linter.unusedVariables false
set_option linter.unusedSimpArgs false

/-- How many of the first cycles are at a place. -/
def cntN (c : Int) (L : List Mc) : Nat → Int
  | 0 => 0
  | j + 1 => cntN c L j + if (L.getD j default).2.1 = c then 1 else 0
theorem cntN_in (c : Int) (L : List Mc) (j : Nat) : 0 ≤ cntN c L j ∧ cntN c L j ≤ j := by
  induction j with
  | zero => exact ⟨Int.le_refl 0, Int.le_refl 0⟩
  | succ j ih =>
    unfold cntN
    split <;> omega
/-- What a cycle is, and the one ahead of it: idle; a read; a write; a write of what was done with what was read there. -/
abbrev OkM (j : Nat) (o p : Mc) : Prop := (o.1 = 0 ∧ o.2.1 = 0 ∧ o.2.2 = 0) ∨ (o.1 = 1 ∧ 1 ≤ o.2.1 ∧ o.2.1 ≤ 12 ∧ ¬ o.2.1 = 11 ∧ (o.2.2 = 1 ∨ o.2.2 = 2)) ∨ (o.1 = 2 ∧ 1 ≤ o.2.1 ∧ o.2.1 ≤ 11 ∧ ¬ o.2.2 = 9) ∨ (o.1 = 2 ∧ 1 ≤ o.2.1 ∧ o.2.1 ≤ 10 ∧ o.2.2 = 9 ∧ ¬ j = 0 ∧ p.1 = 1 ∧ p.2.1 = o.2.1)
abbrev EndM (p q : Int) : Prop := (p = 0 ∧ q = 0) ∨ (p = 2 ∧ q = 0) ∨ (p = 0 ∧ q = 2)
def busB (L : List Mc) : Bool := ((List.range 6).all fun j => !(decide (j < L.length)) || decide (OkM j (L.getD j default) (L.getD (j - 1) default))) && decide (EndM (cntN 11 L L.length) (cntN 12 L L.length))
theorem bus_one : allM (fun f t => busB (planP f t)) = true := by decide +kernel
theorem bus_at {L : List Mc} (h : busB L = true) (hl : L.length ≤ 6) (j : Nat) (hj : j < L.length) : OkM j (L.getD j default) (L.getD (j - 1) default) := by
  unfold busB at h
  rw [Bool.and_eq_true] at h
  have q := List.all_eq_true.1 h.1 j (by simp; omega)
  rw [Bool.or_eq_true] at q
  rcases q with q | q
  · rw [Bool.not_eq_true', decide_eq_false_iff_not] at q
    exact absurd hj q
  · exact of_decide_eq_true q
theorem bus_end {L : List Mc} (h : busB L = true) : EndM (cntN 11 L L.length) (cntN 12 L L.length) := by
  unfold busB at h
  rw [Bool.and_eq_true] at h
  exact of_decide_eq_true h.2
set_option maxRecDepth 100000 in
set_option maxHeartbeats 4000000 in
theorem bus21 (op : Int) (cb tk : Bool) (w : World) (lay : Lay21 w) (h0 : 0 ≤ op) (h1 : op ≤ 255) : Calls Tryd.prog 7 #[.int .u8 op, .bool cb, .bool tk] w fun e w' => e = .returned (.bool true) ∧ Kept w w' := by
  have S := hid (fun u (k : Kept w u) => kshown21 u (lay21_kept lay k))
  have T := all_m bus_one op cb tk h0 h1
  have A := hid (fun u (k : Kept w u) => pplan21 op cb tk u (lay21_kept lay k) h0 h1)
  have PA := (plan_in op cb tk h0 h1).1
  clear lay
  try simp only at T
  generalize planP (fmOf op cb) tk = L at *
  have TE := hid (bus_end T)
  have TA := hid (bus_at T PA)
  have mixed : Tryd.prog.follows .mixedOrders = true := by kernel_rfl
  clear T
  go_enter Tryd.func7, Tryd.ntmps7
  go_wp2_with fail
  refine (S.out _ (Kept.refl w)).mono ?_
  rintro e u1 ⟨rfl, k1⟩
  have K1 := hid k1
  clear k1
  go_wp2_with fail
  refine (A.out _ K1.out).mono ?_
  rintro e u2 ⟨a2, c2, rfl, s2, k2⟩
  have K2 := hid (K1.out.trans k2)
  have FG := hid (fun q => slM_at s2 q)
  clear s2 k2 A K1
  go_wp2
  go_loopw [9, 10, 11] (fun s9 s10 s11 wr => ∃ (j : Nat) (p q : Int), j ≤ L.length ∧ s9 = .int .i64 p ∧ s10 = .int .i64 q ∧ s11 = .int .i64 (j : Int) ∧ Hid (cntN 11 L j = p) ∧ Hid (cntN 12 L j = q) ∧ Kept u2 wr) (fun _ _ s11 _ => L.length - (intOf s11).toNat)
  case atStart => exact ⟨0, 0, 0, Nat.zero_le _, rfl, rfl, rfl, rfl, rfl, Kept.refl u2⟩
  case round =>
    obtain ⟨j, p, q, hj, rfl, rfl, rfl, HP, HQ, hk⟩ := hrel
    have PI := cntN_in 11 L j
    have QI := cntN_in 12 L j
    rw [HP.out] at PI
    rw [HQ.out] at QI
    obtain ⟨p0, p1⟩ := PI
    obtain ⟨q0, q1⟩ := QI
    by_cases hlt : j < L.length
    · have g1 : decide ((j : Int) < (L.length : Int)) = true := decide_eq_true (by omega)
      have g3 : (j : Int) < (L.length : Int) := by omega
      have e1 : IntKind.i64.wrap (p + 1) = p + 1 := by rw [IntKind.wrap_i64]; omega
      have e2 : IntKind.i64.wrap (q + 1) = q + 1 := by rw [IntKind.wrap_i64]; omega
      obtain ⟨x, rfl, hx, hc⟩ := FG.out (by omega)
      have hx2 := Nat.lt_of_lt_of_le hx hk.size
      have O := mat_kept hk (by rw [addFB]; exact hx) (hc j hlt)
      have TJ := TA.out j hlt
      have NP : Hid (cntN 11 L (j + 1) = p + if (L.getD j default).2.1 = 11 then 1 else 0) := by show _ = _; rw [← HP.out]; rfl
      have NQ : Hid (cntN 12 L (j + 1) = q + if (L.getD j default).2.1 = 12 then 1 else 0) := by show _ = _; rw [← HQ.out]; rfl
      have PC : Hid (∀ k, k + 1 = j → k < L.length → MAt wr (x.add (k * 3)) (L.getD (j - 1) default)) := fun k e l => by
        have z := mat_kept hk (by rw [addFB]; exact hx) (hc k l)
        rw [show j - 1 = k by omega]
        exact z
      generalize L.getD j default = o at *
      generalize L.getD (j - 1) default = y at *
      obtain ⟨o0, o1, o2⟩ := o
      obtain ⟨d0, d1, d2⟩ := O
      simp only [OkM] at d0 d1 d2 TJ NP NQ
      have K1 := hid (hk.alloc (.cells #[.int .i64 o0, .int .i64 o1, .int .i64 o2] 32))
      clear hc hk hx HP HQ
      rcases TJ with ⟨rfl, rfl, rfl⟩ | ⟨rfl, w1, w2, w3, rfl | rfl⟩ | ⟨rfl, w1, w2, w3⟩ | ⟨rfl, w1, w2, rfl, w4, w5, w6⟩
      · have EQ : ∀ u, (Op.equalIn 10000 32 (.agg #[.int .i64 0, .int .i64 0, .int .i64 0]) (.agg #[.int .i64 0, .int .i64 0, .int .i64 0])).run Tryd.prog u = .ok true u := fun u => by rw [eqM]; simp [sameM]
        have N1 := hid (show cntN 11 L (j + 1) = p by rw [NP.out, if_neg (by first | decide | omega), Int.add_zero])
        have N2 := hid (show cntN 12 L (j + 1) = q by rw [NQ.out, if_neg (by first | decide | omega), Int.add_zero])
        clear NP NQ
        go_wp2_with fail
        go_quiet (fail)
        go_wp2
        go_roundw
        case rel => exact ⟨j + 1, p, q, by omega, by first | rfl | go_num, by first | rfl | go_num, by go_num, N1, N2, by first | exact K1.out.drewN | exact K1.out⟩
        case measure => first | omega | (simp; omega) | (simp [intOf]; omega)
      · by_cases h12 : o1 = 12
        · subst h12
          have EQ : ∀ u, (Op.equalIn 10000 32 (.agg #[.int .i64 1, .int .i64 12, .int .i64 1]) (.agg #[.int .i64 0, .int .i64 0, .int .i64 0])).run Tryd.prog u = .ok false u := fun u => by rw [eqM]; simp [sameM]
          have N1 := hid (show cntN 11 L (j + 1) = p by rw [NP.out, if_neg (by first | decide | omega), Int.add_zero])
          have N2 := hid (show cntN 12 L (j + 1) = q + 1 by rw [NQ.out, if_pos (by first | rfl | omega)])
          clear NP NQ
          clear w1 w2 w3
          go_wp2_with fail
          go_quiet (fail)
          go_wp2
          go_roundw
          case rel => exact ⟨j + 1, p, q + 1, by omega, by first | rfl | go_num, by first | rfl | go_num, by go_num, N1, N2, by first | exact K1.out.drewN | exact K1.out⟩
          case measure => first | omega | (simp; omega) | (simp [intOf]; omega)
        · have EQ : ∀ u, (Op.equalIn 10000 32 (.agg #[.int .i64 1, .int .i64 o1, .int .i64 1]) (.agg #[.int .i64 0, .int .i64 0, .int .i64 0])).run Tryd.prog u = .ok false u := fun u => by rw [eqM]; simp [sameM]
          have s1 : decide (o1 < 1) = false := decide_eq_false (by omega)
          have s2 : decide (12 < o1) = false := decide_eq_false (by omega)
          have s3 : (o1 == 11) = false := by simp; omega
          have s4 : (o1 == 12) = false := by simp; omega
          have N1 := hid (show cntN 11 L (j + 1) = p by rw [NP.out, if_neg (by first | decide | omega), Int.add_zero])
          have N2 := hid (show cntN 12 L (j + 1) = q by rw [NQ.out, if_neg (by first | decide | omega), Int.add_zero])
          clear NP NQ
          clear w1 w2 w3 h12
          go_wp2_with fail
          go_quiet (fail)
          go_wp2
          go_roundw
          case rel => exact ⟨j + 1, p, q, by omega, by first | rfl | go_num, by first | rfl | go_num, by go_num, N1, N2, by first | exact K1.out.drewN | exact K1.out⟩
          case measure => first | omega | (simp; omega) | (simp [intOf]; omega)
      · by_cases h12 : o1 = 12
        · subst h12
          have EQ : ∀ u, (Op.equalIn 10000 32 (.agg #[.int .i64 1, .int .i64 12, .int .i64 2]) (.agg #[.int .i64 0, .int .i64 0, .int .i64 0])).run Tryd.prog u = .ok false u := fun u => by rw [eqM]; simp [sameM]
          have N1 := hid (show cntN 11 L (j + 1) = p by rw [NP.out, if_neg (by first | decide | omega), Int.add_zero])
          have N2 := hid (show cntN 12 L (j + 1) = q + 1 by rw [NQ.out, if_pos (by first | rfl | omega)])
          clear NP NQ
          clear w1 w2 w3
          go_wp2_with fail
          go_quiet (fail)
          go_wp2
          go_roundw
          case rel => exact ⟨j + 1, p, q + 1, by omega, by first | rfl | go_num, by first | rfl | go_num, by go_num, N1, N2, by first | exact K1.out.drewN | exact K1.out⟩
          case measure => first | omega | (simp; omega) | (simp [intOf]; omega)
        · have EQ : ∀ u, (Op.equalIn 10000 32 (.agg #[.int .i64 1, .int .i64 o1, .int .i64 2]) (.agg #[.int .i64 0, .int .i64 0, .int .i64 0])).run Tryd.prog u = .ok false u := fun u => by rw [eqM]; simp [sameM]
          have s1 : decide (o1 < 1) = false := decide_eq_false (by omega)
          have s2 : decide (12 < o1) = false := decide_eq_false (by omega)
          have s3 : (o1 == 11) = false := by simp; omega
          have s4 : (o1 == 12) = false := by simp; omega
          have N1 := hid (show cntN 11 L (j + 1) = p by rw [NP.out, if_neg (by first | decide | omega), Int.add_zero])
          have N2 := hid (show cntN 12 L (j + 1) = q by rw [NQ.out, if_neg (by first | decide | omega), Int.add_zero])
          clear NP NQ
          clear w1 w2 w3 h12
          go_wp2_with fail
          go_quiet (fail)
          go_wp2
          go_roundw
          case rel => exact ⟨j + 1, p, q, by omega, by first | rfl | go_num, by first | rfl | go_num, by go_num, N1, N2, by first | exact K1.out.drewN | exact K1.out⟩
          case measure => first | omega | (simp; omega) | (simp [intOf]; omega)
      · by_cases h11 : o1 = 11
        · subst h11
          have EQ : ∀ u, (Op.equalIn 10000 32 (.agg #[.int .i64 2, .int .i64 11, .int .i64 o2]) (.agg #[.int .i64 0, .int .i64 0, .int .i64 0])).run Tryd.prog u = .ok false u := fun u => by rw [eqM]; simp [sameM]
          have s5 : (o2 == 9) = false := by simp [w3]
          have N1 := hid (show cntN 11 L (j + 1) = p + 1 by rw [NP.out, if_pos (by first | rfl | omega)])
          have N2 := hid (show cntN 12 L (j + 1) = q by rw [NQ.out, if_neg (by first | decide | omega), Int.add_zero])
          clear NP NQ
          clear w1 w2 w3
          go_wp2_with fail
          go_quiet (fail)
          go_wp2
          go_roundw
          case rel => exact ⟨j + 1, p + 1, q, by omega, by first | rfl | go_num, by first | rfl | go_num, by go_num, N1, N2, by first | exact K1.out.drewN | exact K1.out⟩
          case measure => first | omega | (simp; omega) | (simp [intOf]; omega)
        · have EQ : ∀ u, (Op.equalIn 10000 32 (.agg #[.int .i64 2, .int .i64 o1, .int .i64 o2]) (.agg #[.int .i64 0, .int .i64 0, .int .i64 0])).run Tryd.prog u = .ok false u := fun u => by rw [eqM]; simp [sameM]
          have s1 : decide (o1 < 1) = false := decide_eq_false (by omega)
          have s2 : decide (12 < o1) = false := decide_eq_false (by omega)
          have s3 : (o1 == 11) = false := by simp; omega
          have s4 : (o1 == 12) = false := by simp; omega
          have s5 : (o2 == 9) = false := by simp [w3]
          have N1 := hid (show cntN 11 L (j + 1) = p by rw [NP.out, if_neg (by first | decide | omega), Int.add_zero])
          have N2 := hid (show cntN 12 L (j + 1) = q by rw [NQ.out, if_neg (by first | decide | omega), Int.add_zero])
          clear NP NQ
          clear w1 w2 w3 h11
          go_wp2_with fail
          go_quiet (fail)
          go_wp2
          go_roundw
          case rel => exact ⟨j + 1, p, q, by omega, by first | rfl | go_num, by first | rfl | go_num, by go_num, N1, N2, by first | exact K1.out.drewN | exact K1.out⟩
          case measure => first | omega | (simp; omega) | (simp [intOf]; omega)
      · obtain ⟨k, hk2⟩ : ∃ k, j = k + 1 := ⟨j - 1, by omega⟩
        have P := PC.out k (by omega) (by omega)
        obtain ⟨y0, y1, y2⟩ := y
        simp only at P w5 w6
        subst w5 w6
        obtain ⟨b0, b1, b2⟩ := P
        simp only at b0 b1 b2
        have c0 : ∀ o, (wr.alloc o).cell? (x.add (k * 3)) = some (.int .i64 1) := fun o => (((Kept.refl wr).alloc o).cell (by rw [addFB]; exact hx2)).trans b0
        have c1 : ∀ o, (wr.alloc o).cell? ⟨(x.add (k * 3)).block, (x.add (k * 3)).off + 1, none⟩ = some (.int .i64 y1) := fun o => (((Kept.refl wr).alloc o).cell (x := ⟨(x.add (k * 3)).block, (x.add (k * 3)).off + 1, none⟩) (by show (x.add (k * 3)).block < _; rw [addFB]; exact hx2)).trans b1
        have c2 : ∀ o n, ((wr.alloc o).drewN n).cell? (x.add (k * 3)) = some (.int .i64 1) := fun o _ => c0 o
        have c3 : ∀ o n, ((wr.alloc o).drewN n).cell? ⟨(x.add (k * 3)).block, (x.add (k * 3)).off + 1, none⟩ = some (.int .i64 y1) := fun o _ => c1 o
        have j0 : ((j : Int) == 0) = false := by simp; omega
        have j1 : IntKind.i64.wrap ((j : Int) - 1) = (k : Int) := by rw [IntKind.wrap_i64]; omega
        have j2 : wrap64 ((j : Int) - 1) = (k : Int) := (wrapEq21 _).symm.trans j1
        have j3 : (k : Int) < (L.length : Int) := by omega
        have j4 : (0 : Int) ≤ (k : Int) := by omega
        have j5 : (y1 != y1) = false := by simp
        have EQ : ∀ u, (Op.equalIn 10000 32 (.agg #[.int .i64 2, .int .i64 y1, .int .i64 9]) (.agg #[.int .i64 0, .int .i64 0, .int .i64 0])).run Tryd.prog u = .ok false u := fun u => by rw [eqM]; simp [sameM]
        have s1 : decide (y1 < 1) = false := decide_eq_false (by omega)
        have s2 : decide (12 < y1) = false := decide_eq_false (by omega)
        have s3 : (y1 == 11) = false := by simp; omega
        have s4 : (y1 == 12) = false := by simp; omega
        have N1 := hid (show cntN 11 L (j + 1) = p by rw [NP.out, if_neg (by first | decide | omega), Int.add_zero])
        have N2 := hid (show cntN 12 L (j + 1) = q by rw [NQ.out, if_neg (by first | decide | omega), Int.add_zero])
        clear NP NQ
        clear w1 w2 w4 hk2
        go_wp2_with fail
        go_quiet (fail)
        go_wp2
        go_roundw
        case rel => exact ⟨j + 1, p, q, by omega, by first | rfl | go_num, by first | rfl | go_num, by go_num, N1, N2, by first | exact K1.out.drewN | exact K1.out⟩
        case measure => first | omega | (simp; omega) | (simp [intOf]; omega)
    · have g1 : decide ((j : Int) < (L.length : Int)) = false := decide_eq_false (by omega)
      have g3 : ¬ (j : Int) < (L.length : Int) := by omega
      have je : j = L.length := by omega
      have E : EndM (cntN 11 L j) (cntN 12 L j) := by rw [je]; exact TE.out
      rw [HP.out, HQ.out] at E
      have K1 := hid hk
      clear hk je hj hlt HP HQ p0 p1 q0 q1
      rcases E with ⟨rfl, rfl⟩ | ⟨rfl, rfl⟩ | ⟨rfl, rfl⟩ <;>
      · go_wp2
        go_ret
        exact ⟨rfl, K2.out.trans K1.out⟩
end Go.Proofs.YtbflhpffojlpgaaDoor
