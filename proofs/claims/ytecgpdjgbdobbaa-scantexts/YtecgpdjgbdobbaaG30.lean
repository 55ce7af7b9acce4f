/- The document's Same and Order, over this seat's translation. The document's Order, over this seat's translation. -/
import Derived.Test.YtecgpdjgbdobbaaG18
import Derived.Test.YtecgpdjgbdobbaaG26
import Derived.BigQuiet
import Derived.Test.YtecgpdjgbdobbaaG29
namespace Go.Proofs.Ytecgpdjgbdobbaa
open Go.RowKit Go.Sort Go.Lib Go.Shelf
set_option linter.unusedVariables false
set_option linter.unusedSimpArgs false

def sameO (o p : Ob) : Bool := ((o.1.val : Int) == p.1.val) && (((o.2.1.val : Int) == p.2.1.val) && (((o.2.2.1.val : Int) == p.2.2.1.val) && (((o.2.2.2.1.val : Int) == p.2.2.2.1.val) && ((o.2.2.2.2.val : Int) == p.2.2.2.2.val))))
theorem sameO_eq (o p : Ob) : sameO o p = decide (o = p) := by
  obtain ⟨⟨a0, _⟩, ⟨a1, _⟩, ⟨a2, _⟩, ⟨a3, _⟩, ⟨a4, _⟩⟩ := o
  obtain ⟨⟨b0, _⟩, ⟨b1, _⟩, ⟨b2, _⟩, ⟨b3, _⟩, ⟨b4, _⟩⟩ := p
  rw [Bool.eq_iff_iff]
  unfold sameO
  simp only [Bool.and_eq_true, beq_iff_eq, decide_eq_true_eq, Prod.mk.injEq, Fin.mk.injEq]
  omega
theorem eq_obs (o p : Ob) (u : World) : (Op.equalIn 10000 62 (obV o) (obV p)).run Try.prog u = .ok (decide (o = p)) u := by
  rw [← sameO_eq]
  unfold sameO obV
  cases h1 : ((o.1.val : Int) == p.1.val)
  · simp [go_sem, h1]
  cases h2 : ((o.2.1.val : Int) == p.2.1.val)
  · simp [go_sem, h1, h2]
  cases h3 : ((o.2.2.1.val : Int) == p.2.2.1.val)
  · simp [go_sem, h1, h2, h3]
  cases h4 : ((o.2.2.2.1.val : Int) == p.2.2.2.1.val)
  · simp [go_sem, h1, h2, h3, h4]
  cases h5 : ((o.2.2.2.2.val : Int) == p.2.2.2.2.val) <;> simp [go_sem, h1, h2, h3, h4, h5]
theorem list_same {L M : List Ob} {n : Nat} (h1 : L.length = n) (h2 : M.length = n) (h : ∀ t, t < n → L.getD t default = M.getD t default) : L = M := by
  refine List.ext_getElem (by omega) fun i a b => ?_
  have := h i (by omega)
  rwa [List.getD_eq_getElem?_getD, List.getD_eq_getElem?_getD, List.getElem?_eq_getElem a, List.getElem?_eq_getElem b] at this
set_option maxRecDepth 100000 in
set_option maxHeartbeats 4000000 in
theorem rahead16 (a b : Ob) (w : World) : Calls Try.prog 40 #[obV a, obV b] w fun e w' => e = .returned (.bool (decide (key16 a < key16 b))) ∧ ∃ q os, w' = Go.Sort.grow (w.drewN q) os := by
  have G := hid (show ∀ (x y : Obj), ∃ q os, (w.alloc x).alloc y = Go.Sort.grow (w.drewN q) os from fun x y => ⟨0, #[x] ++ #[y], by rw [alloc_eq_grow, alloc_eq_grow, grow_grow]; rfl⟩)
  have K := hid (show decide (key16 a < key16 b) = if a.2.1.val = b.2.1.val then decide (a.2.2.2.2.val < b.2.2.2.2.val) else decide (a.2.1.val < b.2.1.val) by
    obtain ⟨a0, ⟨a1, h1⟩, a2, a3, ⟨a4, h4⟩⟩ := a
    obtain ⟨b0, ⟨b1, k1⟩, b2, b3, ⟨b4, k4⟩⟩ := b
    simp only [key16]
    split <;> (congr 1; simp only [eq_iff_iff]; omega))
  rw [K.out]
  clear K
  obtain ⟨⟨a0, l0⟩, ⟨a1, l1⟩, ⟨a2, l2⟩, ⟨a3, l3⟩, ⟨a4, l4⟩⟩ := a
  obtain ⟨⟨b0, m0⟩, ⟨b1, m1⟩, ⟨b2, m2⟩, ⟨b3, m3⟩, ⟨b4, m4⟩⟩ := b
  simp only [obV, b8]
  by_cases h : a1 = b1
  · rw [if_pos h]
    subst h
    go_enter Try.func40, Try.ntmps40
    go_wp2
    go_ret
    exact ⟨by simp, G.out _ _⟩
  · rw [if_neg h]
    have g1 : ((a1 : Int) == (b1 : Int)) = false := by simp; omega
    go_enter Try.func40, Try.ntmps40
    go_wp2
    go_ret
    exact ⟨by simp, G.out _ _⟩
end Go.Proofs.Ytecgpdjgbdobbaa
namespace Go.Proofs.Ytecgpdjgbdobbaa
open Go.RowKit Go.Sort Go.Lib Go.Shelf
set_option linter.unusedVariables false
set_option linter.unusedSimpArgs false

theorem kept_grown {W u : World} (k : Kept W u) (n : Nat) (os : Array Obj) : Kept W (Go.Sort.grow (u.drewN n) os) := by
  refine ⟨k.os, k.output, ?_, fun i hi => ?_⟩
  · show _ ≤ (u.heap ++ os).size
    rw [Array.size_append]; have := k.size; omega
  · show (u.heap ++ os)[i]? = _
    rw [Array.getElem?_append_left (Nat.lt_of_lt_of_le hi k.size)]
    exact k.block i hi
theorem take_one {L : List Ob} {j : Nat} (h : j < L.length) : L.take (j + 1) = L.take j ++ [L.getD j default] := by
  rw [List.take_add_one, List.getD_eq_getElem?_getD, List.getElem?_eq_getElem h]; rfl
theorem ins_len {M : List Ob} {k : Nat} (o : Ob) : (M.take k ++ [o] ++ M.drop k).length = M.length + 1 := by
  simp only [List.length_append, List.length_take, List.length_drop, List.length_singleton]; omega
/-- What is put in: all behind it have a greater key, all ahead of it have not. -/
theorem stab_put {L M : List Ob} {j k : Nat} {o : Ob} (S : Stab key16 (L.take j) M) (hm : M.length = j) (hj : j < L.length) (ho : L.getD j default = o) (hk : k ≤ j)
    (hi : ∀ t, k ≤ t → t < j → key16 o < key16 (M.getD t default)) (lo : k = 0 ∨ ¬ key16 o < key16 (M.getD (k - 1) default)) : Stab key16 (L.take (j + 1)) (M.take k ++ [o] ++ M.drop k) := by
  rw [take_one hj, ho]
  have gd : ∀ t (ht : t < M.length), M.getD t default = M[t] := fun t ht => by rw [List.getD_eq_getElem?_getD, List.getElem?_eq_getElem ht]; rfl
  refine stab_ins S (by omega) (fun t ht q => by rw [← gd t ht]; exact hi t q (by omega)) (fun t ht q => ?_)
  rcases lo with lo | lo
  · omega
  · rw [gd _ (by omega)] at lo
    have up := List.pairwise_iff_getElem.1 S.1
    by_cases c : t = k - 1
    · subst c; omega
    · have := up t (k - 1) ht (by omega) (by omega)
      omega
set_option maxRecDepth 100000 in
set_option maxHeartbeats 8000000 in
theorem rorder16 (a : Option Addr) (cap : Nat) (L : List Ob) (w : World) (h : SlO w a cap L) (hl : L.length ≤ 1000) :
    Calls Try.prog 25 #[.slice a L.length cap] w fun e w' => (∃ M : List Ob, Stab key16 L M ∧ M.length = L.length ∧ ∃ a2 cap2, e = .returned (.slice a2 M.length cap2) ∧ SlO w' a2 cap2 M) ∧ Kept w w' := by
  have mixed : Try.prog.follows .mixedOrders = true := by kernel_rfl
  have FG := hid (fun q => slO_at h q)
  obtain ⟨n, hn⟩ : ∃ n : Nat, L.length = n := ⟨_, rfl⟩
  have HN := hid hn
  rw [hn] at hl FG ⊢
  clear h hn
  go_enter Try.func25, Try.ntmps25
  go_wp2
  go_loopw [3, 4] (fun s3 s4 wr => ∃ (j : Nat) (av : Option Addr) (cp : Nat) (M : List Ob), j ≤ n ∧ s3 = .slice av j cp ∧ s4 = .int .i64 (j : Int) ∧ Hid (M.length = j) ∧ SlO wr av cp M ∧ Stab key16 (L.take j) M ∧ Kept w wr) (fun _ s4 _ => n - (intOf s4).toNat)
  case atStart => exact ⟨0, none, 0, [], Nat.zero_le _, rfl, rfl, rfl, slO_nil w, ⟨List.Pairwise.nil, fun k => rfl⟩, Kept.refl w⟩
  case round =>
    obtain ⟨j, av, cp, M, hj, rfl, rfl, HM, hs, hst, hk⟩ := hrel
    have KK := hid hk
    have SS := hid hs
    have TT := hid hst
    clear hst
    by_cases hlt : j < n
    · have g1 : decide ((j : Int) < (n : Int)) = true := decide_eq_true (by omega)
      have g3 : (j : Int) < (n : Int) := by omega
      obtain ⟨x, rfl, hx, hc⟩ := FG.out (by omega)
      have O := oat_kept hk (by rw [addFB]; exact hx) (hc j hlt)
      obtain ⟨o, ho⟩ : ∃ o, L.getD j default = o := ⟨_, rfl⟩
      rw [ho] at O
      have HO := hid ho
      have OO := hid O
      have xr : x.block < wr.heap.size := Nat.lt_of_lt_of_le hx hk.size
      have HA := hid (fun p u => rahead16 o p u)
      have MG := hid (fun q => slO_at SS.out q)
      rw [HM.out] at MG
      have PUT := hid (fun k hk hi lo => stab_put (k := k) TT.out HM.out (by rw [HN.out]; exact hlt) ho hk hi lo)
      clear hc ho hs hk O
      obtain ⟨w9, h9⟩ : ∃ u, u = wr := ⟨_, rfl⟩
      subst h9
      go_wp2
      go_loopw [5] (fun s5 wi => ∃ k : Nat, k ≤ j ∧ s5 = .int .i64 (k : Int) ∧ Hid (∀ t, k ≤ t → t < j → key16 o < key16 (M.getD t default)) ∧ Kept w9 wi) (fun s5 _ => (intOf s5).toNat)
      case atStart => exact ⟨j, Nat.le_refl _, rfl, (show ∀ t, j ≤ t → t < j → _ from fun t q1 q2 => by omega), Kept.refl w9⟩
      case round =>
        obtain ⟨k, hkj, rfl, HI, hki⟩ := hrel
        have KI := hid hki
        clear hki
        by_cases hk0 : 0 < k
        · have g4 : decide ((0 : Int) < (k : Int)) = true := decide_eq_true (by omega)
          have g5 : (0 : Int) < (k : Int) := by omega
          obtain ⟨K, hK⟩ : ∃ K, k = K + 1 := ⟨k - 1, by omega⟩
          have rk : IntKind.i64.wrap ((k : Int) - 1) = (K : Int) := by rw [IntKind.wrap_i64]; omega
          have bK : (K : Int) < (j : Int) := by omega
          obtain ⟨y, rfl, hy, hd⟩ := MG.out (by omega)
          obtain ⟨p, hp⟩ : ∃ p, M.getD K default = p := ⟨_, rfl⟩
          have O := oat_kept KI.out (by rw [addFB]; exact xr) OO.out
          have P := oat_kept KI.out (by rw [addFB]; exact hy) (hd K (by omega))
          rw [hp] at P
          have xi : x.block < wr.heap.size := Nat.lt_of_lt_of_le xr KI.out.size
          have yi : y.block < wr.heap.size := Nat.lt_of_lt_of_le hy KI.out.size
          have HB := hid (fun u => HA.out p u)
          have KG := hid (fun n os => kept_grown KI.out n os)
          have zi : (x.add (j * 5)).block < wr.heap.size := by rw [addFB]; exact xi
          have zy : (y.add (K * 5)).block < wr.heap.size := by rw [addFB]; exact yi
          have e0 := fun n os => cell_grown zi O.c0 n os
          have e1 := fun n os => cell_grown (a := ⟨(x.add (j * 5)).block, (x.add (j * 5)).off + 1, none⟩) zi O.c1 n os
          have e2 := fun n os => cell_grown (a := ⟨(x.add (j * 5)).block, (x.add (j * 5)).off + 2, none⟩) zi O.c2 n os
          have e3 := fun n os => cell_grown (a := ⟨(x.add (j * 5)).block, (x.add (j * 5)).off + 3, none⟩) zi O.c3 n os
          have e4 := fun n os => cell_grown (a := ⟨(x.add (j * 5)).block, (x.add (j * 5)).off + 4, none⟩) zi O.c4 n os
          have f0 := fun n os => cell_grown zy P.c0 n os
          have f1 := fun n os => cell_grown (a := ⟨(y.add (K * 5)).block, (y.add (K * 5)).off + 1, none⟩) zy P.c1 n os
          have f2 := fun n os => cell_grown (a := ⟨(y.add (K * 5)).block, (y.add (K * 5)).off + 2, none⟩) zy P.c2 n os
          have f3 := fun n os => cell_grown (a := ⟨(y.add (K * 5)).block, (y.add (K * 5)).off + 3, none⟩) zy P.c3 n os
          have f4 := fun n os => cell_grown (a := ⟨(y.add (K * 5)).block, (y.add (K * 5)).off + 4, none⟩) zy P.c4 n os
          clear O P hd HA
          cases hb : decide (key16 o < key16 p)
          · rw [hb] at HB
            have ST := hid (PUT.out k hkj HI.out (.inr (by rw [hK, Nat.add_sub_cancel, hp]; simpa using hb)))
            clear hb hp hK
            obtain ⟨⟨oy, ly⟩, ⟨ox, lx⟩, ⟨ot, lt⟩, ⟨oa, la⟩, ⟨on, ln⟩⟩ := o
            obtain ⟨⟨py, my⟩, ⟨px, mx⟩, ⟨pt, mt⟩, ⟨pa, ma⟩, ⟨pn, mn⟩⟩ := p
            simp only [obV, b8] at HB e0 e1 e2 e3 e4 f0 f1 f2 f3 f4
            go_wp2_with fail
            go_quiet_grown (first | (go_at_call 40; refine Calls.grown_of (HB.out _)))
            have KZ0 := hid (KG.out nq osq)
            have d0 := e0 nq osq
            have d1 := e1 nq osq
            have d2 := e2 nq osq
            have d3 := e3 nq osq
            have d4 := e4 nq osq
            clear KG e0 e1 e2 e3 e4 f0 f1 f2 f3 f4 HB
            generalize Go.Sort.grow (wr.drewN nq) osq = wz at KZ0 d0 d1 d2 d3 d4 ⊢
            have KZ := hid (KK.out.trans KZ0.out)
            have SZ := hid (slO_kept KZ0.out SS.out)
            have hxz : x.block < wz.heap.size := Nat.lt_of_lt_of_le xr KZ0.out.size
            have hkc : k ≤ cp := by have := SZ.out.len; have := HM.out; omega
            have hkz : (k : Int) ≤ (cp : Int) := by omega
            have hkj2 : (k : Int) ≤ (j : Int) := by omega
            have hb1 : wz.heap.size ≤ (wz.alloc (.cells #[] 62)).heap.size := by rw [World.size_alloc]; omega
            have LT : Hid ((M.take k).length = k) := by show _ = k; rw [List.length_take, HM.out]; omega
            go_wp2_with (at_builtin; (refine wl_appendO (ownO_empty wz (Nat.le_refl _)) (slO_kept ((Kept.refl wz).alloc _) (slO_take SZ.out k (cap2 := cp) (by have := SZ.out.len; have := HM.out; omega) SZ.out.max (fun e => by cases e))) rfl rfl rfl rfl LT.out.symm hb1 (by have := LT.out; have e : ([] : List Ob).length = 0 := rfl; omega) (fun v1 u1 o1 g1 => ?_); refine Hid.out ?_))
            have G1 := hid (((Kept.refl wz).alloc _).by g1 (fun q hq => by cases hq; exact Nat.le_refl _))
            have O1 := hid o1
            have P1 := oat_kept (y := x.add (j * 5)) (o := (⟨⟨oy, ly⟩, ⟨ox, lx⟩, ⟨ot, lt⟩, ⟨oa, la⟩, ⟨on, ln⟩⟩ : Ob)) G1.out (by rw [addFB]; exact hxz) ⟨d0, d1, d2, d3, d4⟩
            obtain ⟨p0, p1, p2, p3, p4⟩ := P1
            simp only [b8] at p0 p1 p2 p3 p4
            have hb2 : ∀ q, wz.heap.size ≤ (u1.alloc q).heap.size := fun q => by rw [World.size_alloc]; have := G1.out.size; omega
            clear d0 d1 d2 d3 d4 o1 g1 hb1
            refine hid ?_
            go_wp2_with (at_builtin; (refine wl_appendO (L := [] ++ M.take k) (owns_kept ((Kept.refl _).alloc _) O1.out) (one_slO u1 (⟨⟨oy, ly⟩, ⟨ox, lx⟩, ⟨ot, lt⟩, ⟨oa, la⟩, ⟨on, ln⟩⟩ : Ob)) rfl rfl rfl rfl rfl (hb2 _) (by have := LT.out; simp only [List.nil_append, List.length_cons, List.length_nil, List.length_append]; omega) (fun v2 u2 o2 g2 => ?_); refine Hid.out ?_))
            have G2 := hid ((G1.out.alloc _).by g2 (fun q hq => (O1.out.lt q hq).1))
            have O2 := hid o2
            clear p0 p1 p2 p3 p4 o2 g2 O1 hb2
            refine hid ?_
            go_wp2_with (at_builtin; (refine wl_appendO (L := [] ++ M.take k ++ [(⟨⟨oy, ly⟩, ⟨ox, lx⟩, ⟨ot, lt⟩, ⟨oa, la⟩, ⟨on, ln⟩⟩ : Ob)]) O2.out (slO_kept G2.out (slO_dropI SZ.out k)) rfl rfl rfl rfl (by have := HM.out; first | omega | (simp; omega) | (simp; done)) G2.out.size (by have := HM.out; have := LT.out; simp only [List.nil_append, List.length_append, List.length_cons, List.length_nil, List.length_drop]; omega) (fun v3 u3 o3 g3 => ?_); refine Hid.out ?_))
            all_goals
              have G3 := hid (G2.out.by g3 (fun q hq => (O2.out.lt q hq).1))
              obtain ⟨a3, c3, e3, s3, _⟩ := own_slO o3
              have S3 := hid s3
              have L3 : Hid (([] ++ M.take k ++ [(⟨⟨oy, ly⟩, ⟨ox, lx⟩, ⟨ot, lt⟩, ⟨oa, la⟩, ⟨on, ln⟩⟩ : Ob)] ++ M.drop k).length = j + 1) := by have := HM.out; show _ = _; first | (simp; omega) | (simp; done)
              rw [L3.out] at e3
              subst e3
              have E3 : Hid ([] ++ M.take k ++ [(⟨⟨oy, ly⟩, ⟨ox, lx⟩, ⟨ot, lt⟩, ⟨oa, la⟩, ⟨on, ln⟩⟩ : Ob)] ++ M.drop k = M.take k ++ [(⟨⟨oy, ly⟩, ⟨ox, lx⟩, ⟨ot, lt⟩, ⟨oa, la⟩, ⟨on, ln⟩⟩ : Ob)] ++ M.drop k) := by show _ = _; rw [List.nil_append]
              clear o3 g3 O2 s3
              refine hid ?_
              go_wp2
              go_roundw
              case rel =>
                have S4 := slO_kept (Kept.refl _) S3.out
                rw [E3.out] at S4
                exact ⟨j + 1, a3, c3, _, by omega, rfl, by go_num, (show _ = j + 1 by rw [← E3.out]; exact L3.out), S4, ST.out, KZ.out.trans G3.out⟩
              case measure => first | omega | (simp; omega) | (simp [intOf]; omega)
          · rw [hb] at HB
            have H2 : Hid (∀ t, K ≤ t → t < j → key16 o < key16 (M.getD t default)) := fun t q1 q2 => by
              by_cases c : t = K
              · subst c; rw [hp]; simpa using hb
              · exact HI.out t (by omega) q2
            have hKj : K ≤ j := by omega
            have hKk : K < k := by omega
            clear hb hp hK HI PUT
            obtain ⟨⟨oy, ly⟩, ⟨ox, lx⟩, ⟨ot, lt⟩, ⟨oa, la⟩, ⟨on, ln⟩⟩ := o
            obtain ⟨⟨py, my⟩, ⟨px, mx⟩, ⟨pt, mt⟩, ⟨pa, ma⟩, ⟨pn, mn⟩⟩ := p
            simp only [obV, b8] at HB e0 e1 e2 e3 e4 f0 f1 f2 f3 f4
            go_wp2_with fail
            go_quiet_grown (first | (go_at_call 40; refine Calls.grown_of (HB.out _)))
            have KZ := hid (KG.out nq osq)
            clear KG e0 e1 e2 e3 e4 f0 f1 f2 f3 f4
            generalize Go.Sort.grow (wr.drewN nq) osq = wz at KZ ⊢
            go_wp2
            go_roundw
            case rel => exact ⟨K, hKj, by first | rfl | go_num, H2, KZ.out⟩
            case measure => first | omega | (simp; omega) | (simp [intOf]; omega)
        · have k0 : k = 0 := by omega
          subst k0
          have ST := hid (PUT.out 0 (Nat.zero_le _) HI.out (.inl rfl))
          have g4 : decide ((0 : Int) < 0) = false := rfl
          obtain ⟨⟨oy, ly⟩, ⟨ox, lx⟩, ⟨ot, lt⟩, ⟨oa, la⟩, ⟨on, ln⟩⟩ := o
          cases av with
          | none =>
            have c0 := SS.out.nil rfl
            have l0 := SS.out.len
            have j0 : j = 0 := by have := HM.out; omega
            subst c0 j0
            go_wp2_with fail
            go_quiet (fail)
            have KZ0 := hid (KI.out.drewN (n := nq))
            have X0 : x.add (0 * 5) = x := by rw [Nat.zero_mul]; rfl
            have OO := OO.out
            rw [X0] at OO
            clear X0
            obtain ⟨d0, d1, d2, d3, d4⟩ := oat_kept KZ0.out xr OO
            simp only [b8] at d0 d1 d2 d3 d4
            generalize wr.drewN nq = wz at KZ0 d0 d1 d2 d3 d4 ⊢
            have KZ := hid (KK.out.trans KZ0.out)
            have SZ := hid (slO_kept KZ0.out SS.out)
            have hxz : x.block < wz.heap.size := Nat.lt_of_lt_of_le xr KZ0.out.size
            clear OO
            have hb1 : wz.heap.size ≤ (wz.alloc (.cells #[] 62)).heap.size := by rw [World.size_alloc]; omega
            have LT : Hid ((M.take 0).length = 0) := by show _ = 0; rw [List.length_take, HM.out]; omega
            go_wp2_with (at_builtin; (refine wl_appendO (ownO_empty wz (Nat.le_refl _)) (slO_kept ((Kept.refl wz).alloc _) (slO_take SZ.out 0 (cap2 := 0) (by have := SZ.out.len; have := HM.out; omega) (by simp) (fun _ => rfl))) rfl rfl rfl rfl LT.out.symm hb1 (by have := LT.out; have e : ([] : List Ob).length = 0 := rfl; omega) (fun v1 u1 o1 g1 => ?_); refine Hid.out ?_))
            have G1 := hid (((Kept.refl wz).alloc _).by g1 (fun q hq => by cases hq; exact Nat.le_refl _))
            have O1 := hid o1
            have P1 := oat_kept (y := x) (o := (⟨⟨oy, ly⟩, ⟨ox, lx⟩, ⟨ot, lt⟩, ⟨oa, la⟩, ⟨on, ln⟩⟩ : Ob)) G1.out hxz ⟨d0, d1, d2, d3, d4⟩
            obtain ⟨p0, p1, p2, p3, p4⟩ := P1
            simp only [b8] at p0 p1 p2 p3 p4
            have hb2 : ∀ q, wz.heap.size ≤ (u1.alloc q).heap.size := fun q => by rw [World.size_alloc]; have := G1.out.size; omega
            clear d0 d1 d2 d3 d4 o1 g1 hb1
            refine hid ?_
            go_wp2_with (at_builtin; (refine wl_appendO (L := [] ++ M.take 0) (owns_kept ((Kept.refl _).alloc _) O1.out) (one_slO u1 (⟨⟨oy, ly⟩, ⟨ox, lx⟩, ⟨ot, lt⟩, ⟨oa, la⟩, ⟨on, ln⟩⟩ : Ob)) rfl rfl rfl rfl rfl (hb2 _) (by have := LT.out; simp only [List.nil_append, List.length_cons, List.length_nil, List.length_append]; omega) (fun v2 u2 o2 g2 => ?_); refine Hid.out ?_))
            have G2 := hid ((G1.out.alloc _).by g2 (fun q hq => (O1.out.lt q hq).1))
            have O2 := hid o2
            clear p0 p1 p2 p3 p4 o2 g2 O1 hb2
            refine hid ?_
            go_wp2_with (at_builtin; (refine wl_appendO (L := [] ++ M.take 0 ++ [(⟨⟨oy, ly⟩, ⟨ox, lx⟩, ⟨ot, lt⟩, ⟨oa, la⟩, ⟨on, ln⟩⟩ : Ob)]) O2.out (slO_kept G2.out (slO_nil wz)) rfl rfl rfl rfl (by have := HM.out; first | omega | (simp; omega) | (simp; done)) G2.out.size (by have := HM.out; have := LT.out; simp only [List.nil_append, List.length_append, List.length_cons, List.length_nil, List.length_drop]; omega) (fun v3 u3 o3 g3 => ?_); refine Hid.out ?_))
            all_goals
              have G3 := hid (G2.out.by g3 (fun q hq => (O2.out.lt q hq).1))
              obtain ⟨a3, c3, e3, s3, _⟩ := own_slO o3
              have S3 := hid s3
              have L3 : Hid (([] ++ M.take 0 ++ [(⟨⟨oy, ly⟩, ⟨ox, lx⟩, ⟨ot, lt⟩, ⟨oa, la⟩, ⟨on, ln⟩⟩ : Ob)] ++ []).length = 0 + 1) := by have := HM.out; show _ = _; first | (simp; omega) | (simp; done)
              rw [L3.out] at e3
              subst e3
              have E3 : Hid ([] ++ M.take 0 ++ [(⟨⟨oy, ly⟩, ⟨ox, lx⟩, ⟨ot, lt⟩, ⟨oa, la⟩, ⟨on, ln⟩⟩ : Ob)] ++ [] = M.take 0 ++ [(⟨⟨oy, ly⟩, ⟨ox, lx⟩, ⟨ot, lt⟩, ⟨oa, la⟩, ⟨on, ln⟩⟩ : Ob)] ++ M.drop 0) := by show _ = _; obtain rfl := List.eq_nil_of_length_eq_zero HM.out; rfl
              clear o3 g3 O2 s3
              refine hid ?_
              go_wp2
              go_roundw
              case rel =>
                have S4 := slO_kept (Kept.refl _) S3.out
                rw [E3.out] at S4
                exact ⟨0 + 1, a3, c3, _, by omega, rfl, by go_num, (show _ = 0 + 1 by rw [← E3.out]; exact L3.out), S4, ST.out, KZ.out.trans G3.out⟩
              case measure => first | omega | (simp; omega) | (simp [intOf]; omega)
          | some y =>
            go_wp2_with fail
            go_quiet (fail)
            have KZ0 := hid (KI.out.drewN (n := nq))
            obtain ⟨d0, d1, d2, d3, d4⟩ := oat_kept KZ0.out (by rw [addFB]; exact xr) OO.out
            simp only [b8] at d0 d1 d2 d3 d4
            generalize wr.drewN nq = wz at KZ0 d0 d1 d2 d3 d4 ⊢
            have KZ := hid (KK.out.trans KZ0.out)
            have SZ := hid (slO_kept KZ0.out SS.out)
            have hxz : x.block < wz.heap.size := Nat.lt_of_lt_of_le xr KZ0.out.size
            have hb1 : wz.heap.size ≤ (wz.alloc (.cells #[] 62)).heap.size := by rw [World.size_alloc]; omega
            have LT : Hid ((M.take 0).length = 0) := by show _ = 0; rw [List.length_take, HM.out]; omega
            go_wp2_with (at_builtin; (refine wl_appendO (ownO_empty wz (Nat.le_refl _)) (slO_kept ((Kept.refl wz).alloc _) (slO_take SZ.out 0 (cap2 := cp) (by have := SZ.out.len; have := HM.out; omega) SZ.out.max (fun e => by cases e))) rfl rfl rfl rfl LT.out.symm hb1 (by have := LT.out; have e : ([] : List Ob).length = 0 := rfl; omega) (fun v1 u1 o1 g1 => ?_); refine Hid.out ?_))
            have G1 := hid (((Kept.refl wz).alloc _).by g1 (fun q hq => by cases hq; exact Nat.le_refl _))
            have O1 := hid o1
            have P1 := oat_kept (y := x.add (j * 5)) (o := (⟨⟨oy, ly⟩, ⟨ox, lx⟩, ⟨ot, lt⟩, ⟨oa, la⟩, ⟨on, ln⟩⟩ : Ob)) G1.out (by rw [addFB]; exact hxz) ⟨d0, d1, d2, d3, d4⟩
            obtain ⟨p0, p1, p2, p3, p4⟩ := P1
            simp only [b8] at p0 p1 p2 p3 p4
            have hb2 : ∀ q, wz.heap.size ≤ (u1.alloc q).heap.size := fun q => by rw [World.size_alloc]; have := G1.out.size; omega
            clear d0 d1 d2 d3 d4 o1 g1 hb1
            refine hid ?_
            go_wp2_with (at_builtin; (refine wl_appendO (L := [] ++ M.take 0) (owns_kept ((Kept.refl _).alloc _) O1.out) (one_slO u1 (⟨⟨oy, ly⟩, ⟨ox, lx⟩, ⟨ot, lt⟩, ⟨oa, la⟩, ⟨on, ln⟩⟩ : Ob)) rfl rfl rfl rfl rfl (hb2 _) (by have := LT.out; simp only [List.nil_append, List.length_cons, List.length_nil, List.length_append]; omega) (fun v2 u2 o2 g2 => ?_); refine Hid.out ?_))
            have G2 := hid ((G1.out.alloc _).by g2 (fun q hq => (O1.out.lt q hq).1))
            have O2 := hid o2
            clear p0 p1 p2 p3 p4 o2 g2 O1 hb2
            refine hid ?_
            go_wp2_with (at_builtin; (refine wl_appendO (L := [] ++ M.take 0 ++ [(⟨⟨oy, ly⟩, ⟨ox, lx⟩, ⟨ot, lt⟩, ⟨oa, la⟩, ⟨on, ln⟩⟩ : Ob)]) O2.out (slO_kept G2.out SZ.out) rfl rfl rfl rfl (by have := HM.out; first | omega | (simp; omega) | (simp; done)) G2.out.size (by have := HM.out; have := LT.out; simp only [List.nil_append, List.length_append, List.length_cons, List.length_nil, List.length_drop]; omega) (fun v3 u3 o3 g3 => ?_); refine Hid.out ?_))
            all_goals
              have G3 := hid (G2.out.by g3 (fun q hq => (O2.out.lt q hq).1))
              obtain ⟨a3, c3, e3, s3, _⟩ := own_slO o3
              have S3 := hid s3
              have L3 : Hid (([] ++ M.take 0 ++ [(⟨⟨oy, ly⟩, ⟨ox, lx⟩, ⟨ot, lt⟩, ⟨oa, la⟩, ⟨on, ln⟩⟩ : Ob)] ++ M).length = j + 1) := by have := HM.out; show _ = _; first | (simp; omega) | (simp; done)
              rw [L3.out] at e3
              subst e3
              have E3 : Hid ([] ++ M.take 0 ++ [(⟨⟨oy, ly⟩, ⟨ox, lx⟩, ⟨ot, lt⟩, ⟨oa, la⟩, ⟨on, ln⟩⟩ : Ob)] ++ M = M.take 0 ++ [(⟨⟨oy, ly⟩, ⟨ox, lx⟩, ⟨ot, lt⟩, ⟨oa, la⟩, ⟨on, ln⟩⟩ : Ob)] ++ M.drop 0) := by show _ = _; rw [List.nil_append]; rfl
              clear o3 g3 O2 s3
              refine hid ?_
              go_wp2
              go_roundw
              case rel =>
                have S4 := slO_kept (Kept.refl _) S3.out
                rw [E3.out] at S4
                exact ⟨j + 1, a3, c3, _, by omega, rfl, by go_num, (show _ = j + 1 by rw [← E3.out]; exact L3.out), S4, ST.out, KZ.out.trans G3.out⟩
              case measure => first | omega | (simp; omega) | (simp [intOf]; omega)
    · have je : j = n := by omega
      subst je
      go_wp2
      go_ret
      refine ⟨⟨M, ?_, HM.out, av, cp, ?_, SS.out⟩, KK.out⟩
      · have := TT.out
        rw [List.take_of_length_le (by rw [HN.out]; exact Nat.le_refl _)] at this
        exact this
      · rw [HM.out]; rfl
end Go.Proofs.Ytecgpdjgbdobbaa
