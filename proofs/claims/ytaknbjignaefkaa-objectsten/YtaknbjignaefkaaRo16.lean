/- The document's Same and Order, over this seat's translation. -/
import Derived.Test.YtaknbjignaefkaaSl16
import Derived.Test.YtaknbjignaefkaaSo16a
import Derived.BigQuiet
namespace Go.Proofs.Ytaknbjignaefkaa
open Go.RowKit Go.Sort Go.Lib Go.Shelf
set_option linter.unusedVariables false
set_option linter.unusedSimpArgs false

def sameO (o p : Ob) : Bool := ((o.1.val : Int) == p.1.val) && (((o.2.1.val : Int) == p.2.1.val) && (((o.2.2.1.val : Int) == p.2.2.1.val) && (((o.2.2.2.1.val : Int) == p.2.2.2.1.val) && ((o.2.2.2.2.val : Int) == p.2.2.2.2.val))))
theorem sameO_eq (o p : Ob) : sameO o p = decide (o = p) := by
  obtain ⟨⟨a0, _⟩, ⟨a1, _⟩, ⟨a2, _⟩, ⟨a3, _⟩, ⟨a4, _⟩⟩ := o
  obtain ⟨⟨b0, _⟩, ⟨b1, _⟩, ⟨b2, _⟩, ⟨b3, _⟩, ⟨b4, _⟩⟩ := p
  rw [Bool.eq_iff_iff]
  unfold sameO
  simp only [Bool.and_eq_true, beq_iff_eq, decide_eq_true_eq, Prod.mk.injEq, Fin.mk.injEq]
  omega
theorem eq_obs (o p : Ob) (u : World) : (Op.equalIn 10000 31 (obV o) (obV p)).run Try.prog u = .ok (decide (o = p)) u := by
  rw [← sameO_eq]
  unfold sameO obV
  cases h1 : ((o.1.val : Int) == p.1.val)
  · simp [go_sem, h1]
  cases h2 : ((o.2.1.val : Int) == p.2.1.val)
  · simp [go_sem, h1, h2]
  cases h3 : ((o.2.2.1.val : Int) == p.2.2.1.val)
  · simp [go_sem, h1, h2, h3]
  cases h4 : ((o.2.2.2.1.val : Int) == p.2.2.2.1.val)
  · simp [go_sem, h1, h2, h3, h4]
  cases h5 : ((o.2.2.2.2.val : Int) == p.2.2.2.2.val) <;> simp [go_sem, h1, h2, h3, h4, h5]
theorem list_same {L M : List Ob} {n : Nat} (h1 : L.length = n) (h2 : M.length = n) (h : ∀ t, t < n → L.getD t default = M.getD t default) : L = M := by
  refine List.ext_getElem (by omega) fun i a b => ?_
  have := h i (by omega)
  rwa [List.getD_eq_getElem?_getD, List.getD_eq_getElem?_getD, List.getElem?_eq_getElem a, List.getElem?_eq_getElem b] at this
set_option maxRecDepth 100000 in
set_option maxHeartbeats 4000000 in
theorem rsame16 (a : Option Addr) (cap : Nat) (L : List Ob) (b : Option Addr) (capb : Nat) (M : List Ob) (w : World) (h : SlO w a cap L) (g : SlO w b capb M) (hl : L.length ≤ 1000000) :
    Calls Try.prog 10 #[.slice a L.length cap, .slice b M.length capb] w fun e w' => e = .returned (.bool (decide (L = M))) ∧ Kept w w' := by
  have mixed : Try.prog.follows .mixedOrders = true := by kernel_rfl
  have FG := hid (fun q => slO_at h q)
  have GG := hid (fun q => slO_at g q)
  obtain ⟨B, hB⟩ : ∃ B, decide (L = M) = B := ⟨_, rfl⟩
  rw [hB]
  have HB := hid hB
  clear hB
  by_cases hn : L.length = M.length
  · obtain ⟨n, hm⟩ : ∃ n : Nat, M.length = n := ⟨_, rfl⟩
    have HL := hid (show L.length = n by omega)
    have HM := hid hm
    rw [hn, hm] at FG ⊢
    rw [hm] at GG
    have e0 : ((n : Int) == (n : Int)) = true := by simp
    have hl2 : n ≤ 1000000 := by omega
    clear hn hm h g hl
    go_enter Try.func10, Try.ntmps10
    go_wp2
    go_loopw [5] (fun iv wr => ∃ j : Nat, j ≤ n ∧ iv = .int .i64 (j : Int) ∧ Hid (∀ t, t < j → L.getD t default = M.getD t default) ∧ Kept w wr) (fun iv _ => n - (intOf iv).toNat)
    case atStart => exact ⟨0, Nat.zero_le _, rfl, (show ∀ t, t < 0 → _ from fun t ht => by omega), Kept.refl w⟩
    case round =>
      obtain ⟨j, hj, rfl, EQ0, hk⟩ := hrel
      have KK := hid hk
      by_cases hlt : j < n
      · have g1 : decide ((j : Int) < (n : Int)) = true := decide_eq_true (by omega)
        have g3 : (j : Int) < (n : Int) := by omega
        obtain ⟨x, rfl, hx, hc⟩ := FG.out (by omega)
        obtain ⟨y, rfl, hy, hd⟩ := GG.out (by omega)
        have O := oat_kept hk (by rw [addFB]; exact hx) (hc j hlt)
        have P := oat_kept hk (by rw [addFB]; exact hy) (hd j hlt)
        obtain ⟨o, ho⟩ : ∃ o, L.getD j default = o := ⟨_, rfl⟩
        obtain ⟨p, hp⟩ : ∃ p, M.getD j default = p := ⟨_, rfl⟩
        rw [ho] at O
        rw [hp] at P
        have EQ := fun u => eq_obs o p u
        have HO := hid ho
        have HP := hid hp
        cases hb : decide (o = p)
        · rw [hb] at EQ
          have NE : B = false := by rw [← HB.out]; exact decide_eq_false (fun q => by rw [q, hp] at ho; rw [ho] at hb; simp at hb)
          subst NE
          clear hb ho hp hc hd hk
          obtain ⟨⟨oy, ly⟩, ⟨ox, lx⟩, ⟨ot, lt⟩, ⟨oa, la⟩, ⟨on, ln⟩⟩ := o
          obtain ⟨⟨py, my⟩, ⟨px, mx⟩, ⟨pt, mt⟩, ⟨pa, ma⟩, ⟨pn, mn⟩⟩ := p
          obtain ⟨d0, d1, d2, d3, d4⟩ := O
          obtain ⟨f0, f1, f2, f3, f4⟩ := P
          simp only [b8, obV] at d0 d1 d2 d3 d4 f0 f1 f2 f3 f4 EQ
          go_wp2_with fail
          go_quiet (fail)
          go_wp2
          go_ret
          exact ⟨rfl, KK.out.drewN⟩
        · rw [hb] at EQ
          have E1 : Hid (∀ t, t < j + 1 → L.getD t default = M.getD t default) := fun t ht => by
            by_cases q : t = j
            · subst q; rw [ho, hp]; simpa using hb
            · exact EQ0.out t (by omega)
          clear hb ho hp hc hd hk EQ0
          obtain ⟨⟨oy, ly⟩, ⟨ox, lx⟩, ⟨ot, lt⟩, ⟨oa, la⟩, ⟨on, ln⟩⟩ := o
          obtain ⟨⟨py, my⟩, ⟨px, mx⟩, ⟨pt, mt⟩, ⟨pa, ma⟩, ⟨pn, mn⟩⟩ := p
          obtain ⟨d0, d1, d2, d3, d4⟩ := O
          obtain ⟨f0, f1, f2, f3, f4⟩ := P
          simp only [b8, obV] at d0 d1 d2 d3 d4 f0 f1 f2 f3 f4 EQ
          go_wp2_with fail
          go_quiet (fail)
          go_wp2
          go_roundw
          case rel => exact ⟨j + 1, by omega, by go_num, E1, KK.out.drewN⟩
          case measure => first | omega | (simp; omega) | (simp [intOf]; omega)
      · have je : j = n := by omega
        subst je
        have E : B = true := by rw [← HB.out]; exact decide_eq_true (list_same HL.out HM.out EQ0.out)
        subst E
        go_wp2
        go_ret
        exact ⟨rfl, KK.out⟩
  · have E : B = false := by rw [← HB.out]; exact decide_eq_false (fun q => hn (by rw [q]))
    subst E
    have g1 : ((L.length : Int) == (M.length : Int)) = false := by simp; omega
    clear FG GG h g
    go_enter Try.func10, Try.ntmps10
    go_wp2
    go_ret
    exact ⟨rfl, Kept.refl w⟩
set_option maxRecDepth 100000 in
set_option maxHeartbeats 4000000 in
theorem rahead16 (a b : Ob) (w : World) : Calls Try.prog 29 #[obV a, obV b] w fun e w' => e = .returned (.bool (decide (key16 a < key16 b))) ∧ ∃ q os, w' = Go.Sort.grow (w.drewN q) os := by
  have G := hid (show ∀ (x y : Obj), ∃ q os, (w.alloc x).alloc y = Go.Sort.grow (w.drewN q) os from fun x y => ⟨0, #[x] ++ #[y], by rw [alloc_eq_grow, alloc_eq_grow, grow_grow]; rfl⟩)
  have K := hid (show decide (key16 a < key16 b) = if a.2.1.val = b.2.1.val then decide (a.2.2.2.2.val < b.2.2.2.2.val) else decide (a.2.1.val < b.2.1.val) by
    obtain ⟨a0, ⟨a1, h1⟩, a2, a3, ⟨a4, h4⟩⟩ := a
    obtain ⟨b0, ⟨b1, k1⟩, b2, b3, ⟨b4, k4⟩⟩ := b
    simp only [key16]
    split <;> (congr 1; simp only [eq_iff_iff]; omega))
  rw [K.out]
  clear K
  obtain ⟨⟨a0, l0⟩, ⟨a1, l1⟩, ⟨a2, l2⟩, ⟨a3, l3⟩, ⟨a4, l4⟩⟩ := a
  obtain ⟨⟨b0, m0⟩, ⟨b1, m1⟩, ⟨b2, m2⟩, ⟨b3, m3⟩, ⟨b4, m4⟩⟩ := b
  simp only [obV, b8]
  by_cases h : a1 = b1
  · rw [if_pos h]
    subst h
    go_enter Try.func29, Try.ntmps29
    go_wp2
    go_ret
    exact ⟨by simp, G.out _ _⟩
  · rw [if_neg h]
    have g1 : ((a1 : Int) == (b1 : Int)) = false := by simp; omega
    go_enter Try.func29, Try.ntmps29
    go_wp2
    go_ret
    exact ⟨by simp, G.out _ _⟩
end Go.Proofs.Ytaknbjignaefkaa
