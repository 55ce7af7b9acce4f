/- Two parts in order brought together: slices' own symMerge, over a program of which the types are facts. -/
import Derived.Test.YtecgpdjgbdobbabSo16b
namespace Go.Proofs.Ytecgpdjgbdobbab
open Go.RowKit Go.Sort Go.Lib Go.Shelf
set_option linter.unusedVariables false
set_option linter.unusedSimpArgs false

section
variable {P : Program} {k : Nat}
set_option maxRecDepth 1000000 in
set_option maxHeartbeats 1000000 in
theorem sym_l (L : Open16 P k) (blk off cap a m b : Nat) (g : Nat) (cb : Array Value) (N : Nat) (d0 d : Array Ob) (w0 w : World) (R : RowK obC k w0 blk off d0) (h0 : d0.size = N) (hN : d.size = N) (S : SWK obC k w0 blk off d w) (eg : ∀ args w, (callFunc g args).run P w = .ok (.enter g args) w) (hC : CmpLays P g cb obC k cf16 blk off N w0) (h1 : m = a + 1) (h2 : m < b) (h3 : b ≤ N) (hsz : N ≤ 1000) (T1 : Srt key16 d a m) (T2 : Srt key16 d m b) :
    Calls P 48 #[.slice (some ⟨blk, off, none⟩) N cap, .int .i64 a, .int .i64 m, .int .i64 b, .func (.func g) #[] cb] w fun e w' => e = .returned (.tuple #[]) ∧ ∃ d2 : Array Ob, SWK obC k w0 blk off d2 w' ∧ d2.size = N ∧ Mv key16 d d2 a b ∧ Srt key16 d2 a b := by
  have mixed := L.mixed; have tn0 := L.tn0; have an0 := L.an0; have zn0 := L.zn0; have vn0 := L.vn0; have tni := L.tni; have ani := L.ani; have zni := L.zni; have vni := L.vni; have tnb := L.tnb; have anb := L.anb; have znb := L.znb; have vnb := L.vnb; have tns := L.tns; have ans := L.ans; have zns := L.zns; have vns := L.vns; have tnf := L.tnf; have anf := L.anf; have znf := L.znf; have vnf := L.vnf; have tnu := L.tnu; have anu := L.anu; have znu := L.znu; have vnu := L.vnu; have aO := L.aO; have zO := L.zO
  have FG := L.fsy
  have S0 : Aside (SWK obC k w0 blk off d w) := S
  have HC : Aside (CmpLays P g cb obC k cf16 blk off N w0) := hC
  have U2 : Aside (Srt key16 d m b) := T2
  clear S L hC T1 T2
  have r1 : IntKind.i64.wrap ((m : Int) - (a : Int)) = 1 := by rw [IntKind.wrap_i64]; omega
  have HM : Hid (m = a + 1) := h1
  have hm : a < m := by omega
  clear h1
  go_enter FG, Try.ntmps48
  go_wp2
  go_loopg [10, 11] (b - m) (fun kx s8 s9 wr => ∃ (i j : Nat), s8 = .int .i64 i ∧ s9 = .int .i64 j ∧ m ≤ i ∧ i ≤ j ∧ j ≤ b ∧ j - i ≤ kx ∧ Aside (SWK obC k w0 blk off d wr) ∧ Aside (∀ t, m ≤ t → t < i → key16 d[t]! < key16 d[a]!) ∧ Aside (∀ t, j ≤ t → t < b → key16 d[a]! ≤ key16 d[t]!))
  case atStart => exact ⟨m, b, rfl, rfl, Nat.le_refl _, by omega, Nat.le_refl _, by omega, S0, (show ∀ t, m ≤ t → t < m → _ from fun t q1 q2 => by omega), (show ∀ t, b ≤ t → t < b → _ from fun t q1 q2 => by omega)⟩
  case round =>
    clear S0
    obtain ⟨i, j, rfl, rfl, mi, ij, jb, hkx, S1, E1, E2⟩ := hrel
    by_cases hlt : i < j
    · have hltz : (i : Int) < (j : Int) := by omega
      obtain ⟨K, hK⟩ : ∃ K, K = i + j := ⟨_, rfl⟩
      obtain ⟨H, hH⟩ : ∃ H, H = K / 2 := ⟨_, rfl⟩
      have rK : IntKind.i64.wrap ((i : Int) + (j : Int)) = (K : Int) := by rw [IntKind.wrap_i64]; omega
      have rU : IntKind.u64.wrap (K : Int) = (K : Int) := by rw [IntKind.wrap_u64]; omega
      have rH : (K : Int) / 2 = (H : Int) := by omega
      have rV : IntKind.u64.wrap (H : Int) = (H : Int) := by rw [IntKind.wrap_u64]; omega
      have rW : IntKind.i64.wrap (H : Int) = (H : Int) := by rw [IntKind.wrap_i64]; omega
      have hH1 : i ≤ H := by omega
      have hH2 : H < j := by omega
      have bH : (H : Int) < (N : Int) := by omega
      have ba : (a : Int) < (N : Int) := by omega
      clear hK hH
      obtain ⟨xI, hxI⟩ : ∃ x, d[H]! = x := ⟨_, rfl⟩
      obtain ⟨xJ, hxJ⟩ : ∃ x, d[a]! = x := ⟨_, rfl⟩
      have lI := fun n os => S1.out.ld R (by omega) P H (by omega) n os
      have lJ := fun n os => S1.out.ld R (by omega) P a (by omega) n os
      have hcg := fun n os => S1.out.cmp HC.out (by omega) xI xJ n os
      have SG : Aside (∀ n os, SWK obC k w0 blk off d (grow (wr.drewN n) os)) := fun n os => S1.out.grown n os
      rw [hxI] at lI
      rw [hxJ] at lJ
      by_cases hlv : cf16 xI xJ < 0
      · have E3 : Aside (∀ t, m ≤ t → t < H + 1 → key16 d[t]! < key16 d[a]!) := fun t q1 q2 => by
          have z1 := (cf_neg _ _).1 hlv
          rw [← hxI, ← hxJ] at z1
          have z2 := srt_le U2.out (i := t) (j := H) q1 (by omega) (by omega)
          omega
        clear S1 E1 hxI hxJ
        go_wp2_with fail
        go_quiet_grown (first | (go_at_fn g; refine Calls.grown_of (hcg _ _)))
        have S2 : Aside _ := SG.out nq osq
        clear SG lI lJ hcg
        generalize grow (wr.drewN nq) osq = w2 at S2 ⊢
        go_wp2
        go_roundg (j - (H + 1))
        case measure => omega
        case rel => exact ⟨H + 1, j, by go_num, rfl, by omega, by omega, jb, Nat.le_refl _, S2, E3, E2⟩
      · have E3 : Aside (∀ t, H ≤ t → t < b → key16 d[a]! ≤ key16 d[t]!) := fun t q1 q2 => by
          have z1 : ¬ key16 xI < key16 xJ := fun q => hlv ((cf_neg _ _).2 q)
          rw [← hxI, ← hxJ] at z1
          have z2 := srt_le U2.out (i := H) (j := t) (by omega) q1 q2
          omega
        clear S1 E2 hxI hxJ
        go_wp2_with fail
        go_quiet_grown (first | (go_at_fn g; refine Calls.grown_of (hcg _ _)))
        have S2 : Aside _ := SG.out nq osq
        clear SG lI lJ hcg
        generalize grow (wr.drewN nq) osq = w2 at S2 ⊢
        go_wp2
        go_roundg (H - i)
        case measure => omega
        case rel => exact ⟨i, H, rfl, by go_num, mi, by omega, by omega, Nat.le_refl _, S2, E1, E3⟩
    · obtain rfl : i = j := by omega
      have EV : Aside (∀ d2 : Array Ob, d2.size = N → (∀ t, t < N → d2[t]! = rotI d a (a + 1) i t) → Mv key16 d d2 a b ∧ Srt key16 d2 a b) := fun d2 q1 q2 => by
        have := HM.out
        subst this
        refine one_left (key := key16) (by omega) (fun t ht => q2 t (by omega)) U2.out mi jb (by omega) E1.out E2.out
      clear E1 E2
      have r2 : IntKind.i64.wrap ((i : Int) - 1) = (i : Int) - 1 := by rw [IntKind.wrap_i64]; omega
      go_wp2
      go_loopg [13] (b - a) (fun kx s8 wr => ∃ (q : Nat) (dk : Array Ob), s8 = .int .i64 q ∧ a ≤ q ∧ q + 1 ≤ i ∧ i - q ≤ kx ∧ dk.size = N ∧ Aside (SWK obC k w0 blk off dk wr) ∧ Aside (∀ t, t < N → dk[t]! = rotI d a (a + 1) (q + 1) t))
      case atStart => exact ⟨a, d, rfl, Nat.le_refl _, by omega, by omega, hN, S1, (show ∀ t, t < N → _ from fun t _ => (rot_same2 d a (a + 1) t).symm)⟩
      case round =>
        clear S1
        obtain ⟨q, dk, rfl, aq, qi, hkx2, hds, S1, F1⟩ := hrel
        by_cases hq : q + 1 < i
        · have hqz : (q : Int) < (i : Int) - 1 := by omega
          have F2 : Aside (∀ t, t < N → (swp dk q (q + 1))[t]! = rotI d a (a + 1) (q + 2) t) := by subst hN; exact rot_up hds F1.out aq (by omega)
          clear F1
          obtain ⟨B, hB⟩ : ∃ B, B = q + 1 := ⟨_, rfl⟩
          rw [← hB] at F2
          have rb : IntKind.i64.wrap ((q : Int) + 1) = (B : Int) := by rw [IntKind.wrap_i64]; omega
          have bq : (q : Int) < (N : Int) := by omega
          have bB : (B : Int) < (N : Int) := by omega
          have HB : Hid (B = q + 1) := hB
          have hBi : B < i := by omega
          have hBz : B ≤ N := by omega
          clear hB
          have S2 : Aside (SWK obC k w0 blk off (swp dk q B) ((wr.drew.setCells blk (off + q * k) (obC dk[B]!)).setCells blk (off + B * k) (obC dk[q]!))) := S1.out.swapped R q B (by omega) (by omega)
          have l1 := S1.out.ld1 R (by omega) P q (by omega)
          have l2 := S1.out.ld1 R (by omega) P B (by omega)
          have s1 := S1.out.st1 R (by omega) P q (by omega) dk[B]!
          have s2 := S1.out.st2 R (by omega) P q B (by omega) (by omega) dk[B]! dk[q]!
          have n1 : (obC dk[q]!).length = k := R.hk _
          have n2 : (obC dk[B]!).length = k := R.hk _
          generalize obC dk[q]! = cI at S2 l1 s2 n1
          generalize obC dk[B]! = cJ at S2 l2 s1 s2 n2
          clear S1
          go_wp2_with fail
          go_big_region_o
          clear l1 l2 s1 s2
          generalize (wr.drew.setCells blk (off + q * k) cJ).setCells blk (off + B * k) cI = w2 at S2 ⊢
          go_wp2
          go_roundg (i - B)
          case measure => have := HB.out; omega
          case rel =>
            have e := HB.out
            refine ⟨B, swp dk q B, by first | rfl | go_num, by omega, by omega, Nat.le_refl _, by rw [size_swp]; exact hds, S2, (show ∀ t, t < N → _ from ?_)⟩
            subst e
            exact F2.out
        · have hqz : ¬ (q : Int) < (i : Int) - 1 := by omega
          go_wp2
          refine bodyPost_ret (results_none rfl _ _ _) rfl ?_
          obtain rfl : i = q + 1 := by omega
          exact ⟨rfl, dk, S1.out, hds, EV.out dk hds F1.out⟩
set_option maxRecDepth 1000000 in
set_option maxHeartbeats 1000000 in
theorem sym_r (L : Open16 P k) (blk off cap a m b : Nat) (g : Nat) (cb : Array Value) (N : Nat) (d0 d : Array Ob) (w0 w : World) (R : RowK obC k w0 blk off d0) (h0 : d0.size = N) (hN : d.size = N) (S : SWK obC k w0 blk off d w) (eg : ∀ args w, (callFunc g args).run P w = .ok (.enter g args) w) (hC : CmpLays P g cb obC k cf16 blk off N w0) (h1 : a + 1 < m) (h2 : b = m + 1) (h3 : b ≤ N) (hsz : N ≤ 1000) (T1 : Srt key16 d a m) (T2 : Srt key16 d m b) :
    Calls P 48 #[.slice (some ⟨blk, off, none⟩) N cap, .int .i64 a, .int .i64 m, .int .i64 b, .func (.func g) #[] cb] w fun e w' => e = .returned (.tuple #[]) ∧ ∃ d2 : Array Ob, SWK obC k w0 blk off d2 w' ∧ d2.size = N ∧ Mv key16 d d2 a b ∧ Srt key16 d2 a b := by
  have mixed := L.mixed; have tn0 := L.tn0; have an0 := L.an0; have zn0 := L.zn0; have vn0 := L.vn0; have tni := L.tni; have ani := L.ani; have zni := L.zni; have vni := L.vni; have tnb := L.tnb; have anb := L.anb; have znb := L.znb; have vnb := L.vnb; have tns := L.tns; have ans := L.ans; have zns := L.zns; have vns := L.vns; have tnf := L.tnf; have anf := L.anf; have znf := L.znf; have vnf := L.vnf; have tnu := L.tnu; have anu := L.anu; have znu := L.znu; have vnu := L.vnu; have aO := L.aO; have zO := L.zO
  have FG := L.fsy
  have S0 : Aside (SWK obC k w0 blk off d w) := S
  have HC : Aside (CmpLays P g cb obC k cf16 blk off N w0) := hC
  have U1 : Aside (Srt key16 d a m) := T1
  clear S L hC T1 T2
  have r0 : IntKind.i64.wrap ((m : Int) - (a : Int)) = (m : Int) - (a : Int) := by rw [IntKind.wrap_i64]; omega
  have r9 : ((m : Int) - (a : Int) == 1) = false := by simp; omega
  have r1 : IntKind.i64.wrap ((b : Int) - (m : Int)) = 1 := by rw [IntKind.wrap_i64]; omega
  have HM : Hid (b = m + 1) := h2
  have hm : m < b := by omega
  clear h2
  go_enter FG, Try.ntmps48
  go_wp2
  go_loopg [14, 15] (m - a) (fun kx s8 s9 wr => ∃ (i j : Nat), s8 = .int .i64 i ∧ s9 = .int .i64 j ∧ a ≤ i ∧ i ≤ j ∧ j ≤ m ∧ j - i ≤ kx ∧ Aside (SWK obC k w0 blk off d wr) ∧ Aside (∀ t, a ≤ t → t < i → key16 d[t]! ≤ key16 d[m]!) ∧ Aside (∀ t, j ≤ t → t < m → key16 d[m]! < key16 d[t]!))
  case atStart => exact ⟨a, m, rfl, rfl, Nat.le_refl _, by omega, Nat.le_refl _, by omega, S0, (show ∀ t, a ≤ t → t < a → _ from fun t q1 q2 => by omega), (show ∀ t, m ≤ t → t < m → _ from fun t q1 q2 => by omega)⟩
  case round =>
    clear S0
    obtain ⟨i, j, rfl, rfl, mi, ij, jb, hkx, S1, E1, E2⟩ := hrel
    by_cases hlt : i < j
    · have hltz : (i : Int) < (j : Int) := by omega
      obtain ⟨K, hK⟩ : ∃ K, K = i + j := ⟨_, rfl⟩
      obtain ⟨H, hH⟩ : ∃ H, H = K / 2 := ⟨_, rfl⟩
      have rK : IntKind.i64.wrap ((i : Int) + (j : Int)) = (K : Int) := by rw [IntKind.wrap_i64]; omega
      have rU : IntKind.u64.wrap (K : Int) = (K : Int) := by rw [IntKind.wrap_u64]; omega
      have rH : (K : Int) / 2 = (H : Int) := by omega
      have rV : IntKind.u64.wrap (H : Int) = (H : Int) := by rw [IntKind.wrap_u64]; omega
      have rW : IntKind.i64.wrap (H : Int) = (H : Int) := by rw [IntKind.wrap_i64]; omega
      have hH1 : i ≤ H := by omega
      have hH2 : H < j := by omega
      have bH : (H : Int) < (N : Int) := by omega
      have ba : (m : Int) < (N : Int) := by omega
      clear hK hH
      obtain ⟨xI, hxI⟩ : ∃ x, d[m]! = x := ⟨_, rfl⟩
      obtain ⟨xJ, hxJ⟩ : ∃ x, d[H]! = x := ⟨_, rfl⟩
      have lI := fun n os => S1.out.ld R (by omega) P m (by omega) n os
      have lJ := fun n os => S1.out.ld R (by omega) P H (by omega) n os
      have hcg := fun n os => S1.out.cmp HC.out (by omega) xI xJ n os
      have SG : Aside (∀ n os, SWK obC k w0 blk off d (grow (wr.drewN n) os)) := fun n os => S1.out.grown n os
      rw [hxI] at lI
      rw [hxJ] at lJ
      by_cases hlv : cf16 xI xJ < 0
      · have E3 : Aside (∀ t, H ≤ t → t < m → key16 d[m]! < key16 d[t]!) := fun t q1 q2 => by
          have z1 := (cf_neg _ _).1 hlv
          rw [← hxI, ← hxJ] at z1
          have z2 := srt_le U1.out (i := H) (j := t) (by omega) q1 q2
          omega
        have dl : decide (cf16 xI xJ < 0) = true := decide_eq_true hlv
        clear S1 E2 hxI hxJ hlv
        go_wp2_with fail
        go_quiet_grown (first | (go_at_fn g; refine Calls.grown_of (hcg _ _)))
        have S2 : Aside _ := SG.out nq osq
        clear SG lI lJ hcg
        generalize grow (wr.drewN nq) osq = w2 at S2 ⊢
        go_wp2
        go_roundg (H - i)
        case measure => omega
        case rel => exact ⟨i, H, rfl, by go_num, mi, by omega, by omega, Nat.le_refl _, S2, E1, E3⟩
      · have E3 : Aside (∀ t, a ≤ t → t < H + 1 → key16 d[t]! ≤ key16 d[m]!) := fun t q1 q2 => by
          have z1 : ¬ key16 xI < key16 xJ := fun q => hlv ((cf_neg _ _).2 q)
          rw [← hxI, ← hxJ] at z1
          have z2 := srt_le U1.out (i := t) (j := H) q1 (by omega) (by omega)
          omega
        have dl : decide (cf16 xI xJ < 0) = false := decide_eq_false hlv
        clear S1 E1 hxI hxJ hlv
        go_wp2_with fail
        go_quiet_grown (first | (go_at_fn g; refine Calls.grown_of (hcg _ _)))
        have S2 : Aside _ := SG.out nq osq
        clear SG lI lJ hcg
        generalize grow (wr.drewN nq) osq = w2 at S2 ⊢
        go_wp2
        go_roundg (j - (H + 1))
        case measure => omega
        case rel => exact ⟨H + 1, j, by go_num, rfl, by omega, by omega, jb, Nat.le_refl _, S2, E3, E2⟩
    · obtain rfl : i = j := by omega
      have EV : Aside (∀ d2 : Array Ob, d2.size = N → (∀ t, t < N → d2[t]! = rotI d i m (m + 1) t) → Mv key16 d d2 a b ∧ Srt key16 d2 a b) := fun d2 q1 q2 => by
        have := HM.out
        subst this
        exact one_right (key := key16) (by omega) (fun t ht => q2 t (by omega)) U1.out mi jb (by omega) E1.out E2.out
      clear E1 E2
      go_wp2
      go_loopg [17] (b - a) (fun kx s8 wr => ∃ (q : Nat) (dk : Array Ob), s8 = .int .i64 q ∧ i ≤ q ∧ q ≤ m ∧ q - i ≤ kx ∧ dk.size = N ∧ Aside (SWK obC k w0 blk off dk wr) ∧ Aside (∀ t, t < N → dk[t]! = rotI d q m (m + 1) t))
      case atStart => exact ⟨m, d, rfl, by omega, Nat.le_refl _, by omega, hN, S1, (show ∀ t, t < N → _ from fun t _ => (rot_same d m (m + 1) t).symm)⟩
      case round =>
        clear S1
        obtain ⟨q, dk, rfl, aq, qi, hkx2, hds, S1, F1⟩ := hrel
        by_cases hq : i < q
        · have hqz : (i : Int) < (q : Int) := by omega
          obtain ⟨B, hB⟩ : ∃ B, q = B + 1 := ⟨q - 1, by omega⟩
          have F2 : Aside (∀ t, t < N → (swp dk q B)[t]! = rotI d B m (m + 1) t) := by subst hB; subst hN; exact rot_down hds F1.out (by omega) (by omega)
          clear F1
          have rb : IntKind.i64.wrap ((q : Int) - 1) = (B : Int) := by rw [IntKind.wrap_i64]; omega
          have bq : (q : Int) < (N : Int) := by omega
          have bB : (B : Int) < (N : Int) := by omega
          have HB : Hid (q = B + 1) := hB
          have hBq : B < q := by omega
          have hBi : i ≤ B := by omega
          clear hB
          have S2 : Aside (SWK obC k w0 blk off (swp dk q B) ((wr.drew.setCells blk (off + q * k) (obC dk[B]!)).setCells blk (off + B * k) (obC dk[q]!))) := S1.out.swapped R q B (by omega) (by omega)
          have l1 := S1.out.ld1 R (by omega) P q (by omega)
          have l2 := S1.out.ld1 R (by omega) P B (by omega)
          have s1 := S1.out.st1 R (by omega) P q (by omega) dk[B]!
          have s2 := S1.out.st2 R (by omega) P q B (by omega) (by omega) dk[B]! dk[q]!
          have n1 : (obC dk[q]!).length = k := R.hk _
          have n2 : (obC dk[B]!).length = k := R.hk _
          generalize obC dk[q]! = cI at S2 l1 s2 n1
          generalize obC dk[B]! = cJ at S2 l2 s1 s2 n2
          clear S1
          go_wp2_with fail
          go_big_region_o
          clear l1 l2 s1 s2
          generalize (wr.drew.setCells blk (off + q * k) cJ).setCells blk (off + B * k) cI = w2 at S2 ⊢
          go_wp2
          go_roundg (B - i)
          case measure => omega
          case rel => exact ⟨B, swp dk q B, by first | rfl | go_num, by omega, by omega, Nat.le_refl _, by rw [size_swp]; exact hds, S2, F2⟩
        · have hqz : ¬ (i : Int) < (q : Int) := by omega
          go_wp2
          refine bodyPost_ret (results_none rfl _ _ _) rfl ?_
          obtain rfl : i = q := by omega
          exact ⟨rfl, dk, S1.out, hds, EV.out dk hds F1.out⟩
end
end Go.Proofs.Ytecgpdjgbdobbab
