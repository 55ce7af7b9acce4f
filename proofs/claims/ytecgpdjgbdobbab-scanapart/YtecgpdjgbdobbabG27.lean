/- Two parts in order brought together: slices' own symMerge, where both have more than one. -/
import Derived.Test.YtecgpdjgbdobbabG26
namespace Go.Proofs.Ytecgpdjgbdobbab
open Go.RowKit Go.Sort Go.Lib Go.Shelf
set_option linter.unusedVariables false
set_option linter.unusedSimpArgs false

section
variable {P : Program} {k : Nat}
set_option maxRecDepth 1000000 in
set_option maxHeartbeats 1000000 in
theorem sym_m1 (L : Open16 P k) (blk off cap a m b f : Nat) (g : Nat) (cb : Array Value) (N : Nat) (d0 d : Array Ob) (w0 w : World) (R : RowK obC k w0 blk off d0) (h0 : d0.size = N) (hN : d.size = N) (S : SWK obC k w0 blk off d w) (eg : ∀ args w, (callFunc g args).run P w = .ok (.enter g args) w) (hC : CmpLays P g cb obC k cf16 blk off N w0) (h1 : a + 1 < m) (h2 : m + 1 < b) (h3 : b ≤ N) (hsz : N ≤ 1000) (hM : m ≤ (a + b) / 2) (hf : b - a ≤ f + 1) (T1 : Srt key16 d a m) (T2 : Srt key16 d m b)
    (IH : ∀ (a m b : Nat) (d : Array Ob) (w : World), b - a ≤ f → d.size = N → SWK obC k w0 blk off d w → a < m → m < b → b ≤ N → Srt key16 d a m → Srt key16 d m b → Calls P 48 #[.slice (some ⟨blk, off, none⟩) N cap, .int .i64 a, .int .i64 m, .int .i64 b, .func (.func g) #[] cb] w fun e w' => e = .returned (.tuple #[]) ∧ ∃ d2 : Array Ob, SWK obC k w0 blk off d2 w' ∧ d2.size = N ∧ Mv key16 d d2 a b ∧ Srt key16 d2 a b) :
    Calls P 48 #[.slice (some ⟨blk, off, none⟩) N cap, .int .i64 a, .int .i64 m, .int .i64 b, .func (.func g) #[] cb] w fun e w' => e = .returned (.tuple #[]) ∧ ∃ d2 : Array Ob, SWK obC k w0 blk off d2 w' ∧ d2.size = N ∧ Mv key16 d d2 a b ∧ Srt key16 d2 a b := by
  have eR : ∀ args w, (callFunc 49 args).run P w = .ok (.enter 49 args) w := enters_of L.fro (by kernel_rfl) rfl
  have eM : ∀ args w, (callFunc 48 args).run P w = .ok (.enter 48 args) w := enters_of L.fsy (by kernel_rfl) rfl
  have HR : Aside (∀ (x y z : Nat) (u : World), SWK obC k w0 blk off d u → x < y → y < z → z ≤ N → _) := fun x y z u q1 q2 q3 q4 => rot16 L blk off cap x y z (.func (.func g) #[] cb) N d0 d w0 u R h0 hN q1 q2 q3 q4 hsz
  have HI : Aside (∀ (a m b : Nat) (d : Array Ob) (w : World), b - a ≤ f → d.size = N → SWK obC k w0 blk off d w → a < m → m < b → b ≤ N → Srt key16 d a m → Srt key16 d m b → Calls P 48 #[.slice (some ⟨blk, off, none⟩) N cap, .int .i64 a, .int .i64 m, .int .i64 b, .func (.func g) #[] cb] w fun e w' => e = .returned (.tuple #[]) ∧ ∃ d2 : Array Ob, SWK obC k w0 blk off d2 w' ∧ d2.size = N ∧ Mv key16 d d2 a b ∧ Srt key16 d2 a b) := IH
  have mixed := L.mixed; have tn0 := L.tn0; have an0 := L.an0; have zn0 := L.zn0; have vn0 := L.vn0; have tni := L.tni; have ani := L.ani; have zni := L.zni; have vni := L.vni; have tnb := L.tnb; have anb := L.anb; have znb := L.znb; have vnb := L.vnb; have tns := L.tns; have ans := L.ans; have zns := L.zns; have vns := L.vns; have tnf := L.tnf; have anf := L.anf; have znf := L.znf; have vnf := L.vnf; have tnu := L.tnu; have anu := L.anu; have znu := L.znu; have vnu := L.vnu; have aO := L.aO; have zO := L.zO
  have FG := L.fsy
  have S0 : Aside (SWK obC k w0 blk off d w) := S
  have HC : Aside (CmpLays P g cb obC k cf16 blk off N w0) := hC
  have U1 : Aside (Srt key16 d a m) := T1
  have U2 : Aside (Srt key16 d m b) := T2
  clear S L hC T1 T2 IH
  have r0 : IntKind.i64.wrap ((m : Int) - (a : Int)) = (m : Int) - (a : Int) := by rw [IntKind.wrap_i64]; omega
  have r9 : ((m : Int) - (a : Int) == 1) = false := by simp; omega
  have r1 : IntKind.i64.wrap ((b : Int) - (m : Int)) = (b : Int) - (m : Int) := by rw [IntKind.wrap_i64]; omega
  have r8 : ((b : Int) - (m : Int) == 1) = false := by simp; omega
  obtain ⟨K, hK⟩ : ∃ K, K = a + b := ⟨_, rfl⟩
  obtain ⟨M, hM⟩ : ∃ H, H = K / 2 := ⟨_, rfl⟩
  have rK : IntKind.i64.wrap ((a : Int) + (b : Int)) = (K : Int) := by rw [IntKind.wrap_i64]; omega
  have rU : IntKind.u64.wrap (K : Int) = (K : Int) := by rw [IntKind.wrap_u64]; omega
  have rH : (K : Int) / 2 = (M : Int) := by omega
  have rV : IntKind.u64.wrap (M : Int) = (M : Int) := by rw [IntKind.wrap_u64]; omega
  have rW : IntKind.i64.wrap (M : Int) = (M : Int) := by rw [IntKind.wrap_i64]; omega
  obtain ⟨n, hn⟩ : ∃ n, n = M + m := ⟨_, rfl⟩
  have rn : IntKind.i64.wrap ((M : Int) + (m : Int)) = (n : Int) := by rw [IntKind.wrap_i64]; omega
  obtain ⟨p, hp⟩ : ∃ p, p = n - 1 := ⟨_, rfl⟩
  have rp : IntKind.i64.wrap ((n : Int) - 1) = (p : Int) := by rw [IntKind.wrap_i64]; omega
  have gM : decide ((M : Int) < (m : Int)) = false := decide_eq_false (by omega)
  have hlo1 : a ≤ a := by omega
  have hhi : m ≤ m := by omega
  have hlh : a ≤ m := by omega
  have hp1 : m + m ≤ p + 1 := by omega
  have hp2 : p < b + a := by omega
  have HN : Hid (n = M + m ∧ p = n - 1 ∧ 2 * M ≤ a + b ∧ a + b ≤ 2 * M + 1) := ⟨hn, hp, by omega, by omega⟩
  have aM : a < M := by omega
  have Mb : M < b := by omega
  have nb : n ≤ 2 * N := by omega
  have hMm : m ≤ M := by omega
  have gMn : decide (M < m) = false := decide_eq_false (by omega)
  clear hn hp hK hM r0 r1 
  have r0 : IntKind.i64.wrap ((m : Int) - (a : Int)) = (m : Int) - (a : Int) := by rw [IntKind.wrap_i64]; omega
  have r1 : IntKind.i64.wrap ((b : Int) - (m : Int)) = (b : Int) - (m : Int) := by rw [IntKind.wrap_i64]; omega
  go_enter FG, Try.ntmps48
  go_wp2
  go_loopg [20, 21] (m - a) (fun kx s8 s9 wr => ∃ (s r : Nat), s8 = .int .i64 s ∧ s9 = .int .i64 r ∧ a ≤ s ∧ s ≤ r ∧ r ≤ m ∧ r - s ≤ kx ∧ Aside (SWK obC k w0 blk off d wr) ∧ Aside (∀ c, a ≤ c → c < s → key16 d[c]! ≤ key16 d[p - c]!) ∧ Aside (∀ c, r ≤ c → c < m → key16 d[p - c]! < key16 d[c]!))
  case atStart => exact ⟨a, m, rfl, rfl, Nat.le_refl _, hlh, Nat.le_refl _, Nat.le_refl _, S0, (show ∀ t, a ≤ t → t < a → _ from fun t q1 q2 => by omega), (show ∀ t, m ≤ t → t < m → _ from fun t q1 q2 => by omega)⟩
  case round =>
    clear S0 rn rp rH rK rU rV rW
    obtain ⟨s, r, rfl, rfl, ls, sr, rh, hkx, S1, E1, E2⟩ := hrel
    by_cases hlt : s < r
    · have hltz : (s : Int) < (r : Int) := by omega
      obtain ⟨K, hK⟩ : ∃ K, K = s + r := ⟨_, rfl⟩
      obtain ⟨H, hH⟩ : ∃ H, H = K / 2 := ⟨_, rfl⟩
      have rK : IntKind.i64.wrap ((s : Int) + (r : Int)) = (K : Int) := by rw [IntKind.wrap_i64]; omega
      have rU : IntKind.u64.wrap (K : Int) = (K : Int) := by rw [IntKind.wrap_u64]; omega
      have rH : (K : Int) / 2 = (H : Int) := by omega
      have rV : IntKind.u64.wrap (H : Int) = (H : Int) := by rw [IntKind.wrap_u64]; omega
      have rW : IntKind.i64.wrap (H : Int) = (H : Int) := by rw [IntKind.wrap_i64]; omega
      have hH1 : s ≤ H := by omega
      have hH2 : H < r := by omega
      obtain ⟨Q, hQ⟩ : ∃ Q, Q = p - H := ⟨_, rfl⟩
      have rQ : IntKind.i64.wrap ((p : Int) - (H : Int)) = (Q : Int) := by rw [IntKind.wrap_i64]; omega
      have bH : (H : Int) < (N : Int) := by omega
      have bQ : (Q : Int) < (N : Int) := by omega
      have hQ1 : m ≤ Q := by omega
      have hQ2 : Q < b := by omega
      have HQ : Hid (Q = p - H) := hQ
      clear hK hH hQ
      obtain ⟨xI, hxI⟩ : ∃ x, d[Q]! = x := ⟨_, rfl⟩
      obtain ⟨xJ, hxJ⟩ : ∃ x, d[H]! = x := ⟨_, rfl⟩
      have lI := fun n os => S1.out.ld R (by omega) P Q (by omega) n os
      have lJ := fun n os => S1.out.ld R (by omega) P H (by omega) n os
      have hcg := fun n os => S1.out.cmp HC.out (by omega) xI xJ n os
      have SG : Aside (∀ n os, SWK obC k w0 blk off d (grow (wr.drewN n) os)) := fun n os => S1.out.grown n os
      rw [hxI] at lI
      rw [hxJ] at lJ
      by_cases hlv : cf16 xI xJ < 0
      · have E3 : Aside (∀ c, H ≤ c → c < m → key16 d[p - c]! < key16 d[c]!) := fun c q1 q2 => by
          have z1 := (cf_neg _ _).1 hlv
          rw [← hxI, ← hxJ] at z1
          have z2 := srt_le U1.out (i := H) (j := c) (by omega) q1 (by omega)
          have z3 := srt_le U2.out (i := p - c) (j := Q) (by omega) (by have := HQ.out; omega) (by omega)
          omega
        have dl : decide (cf16 xI xJ < 0) = true := decide_eq_true hlv
        clear S1 E2 hxI hxJ hlv
        go_wp2_with fail
        go_quiet_grown (first | (go_at_fn g; refine Calls.grown_of (hcg _ _)))
        have S2 : Aside _ := SG.out nq osq
        clear SG lI lJ hcg
        generalize grow (wr.drewN nq) osq = w2 at S2 ⊢
        go_wp2
        go_roundg (H - s)
        case measure => omega
        case rel => exact ⟨s, H, rfl, by go_num, ls, by omega, by omega, Nat.le_refl _, S2, E1, E3⟩
      · have E3 : Aside (∀ c, a ≤ c → c < H + 1 → key16 d[c]! ≤ key16 d[p - c]!) := fun c q1 q2 => by
          have z1 : ¬ key16 xI < key16 xJ := fun q => hlv ((cf_neg _ _).2 q)
          rw [← hxI, ← hxJ] at z1
          have z2 := srt_le U1.out (i := c) (j := H) (by omega) (by omega) (by omega)
          have z3 := srt_le U2.out (i := Q) (j := p - c) (by omega) (by have := HQ.out; omega) (by omega)
          omega
        have dl : decide (cf16 xI xJ < 0) = false := decide_eq_false hlv
        clear S1 E1 hxI hxJ hlv
        go_wp2_with fail
        go_quiet_grown (first | (go_at_fn g; refine Calls.grown_of (hcg _ _)))
        have S2 : Aside _ := SG.out nq osq
        clear SG lI lJ hcg
        generalize grow (wr.drewN nq) osq = w2 at S2 ⊢
        go_wp2
        go_roundg (r - (H + 1))
        case measure => omega
        case rel => exact ⟨H + 1, r, by go_num, rfl, by omega, by omega, rh, Nat.le_refl _, S2, E3, E2⟩
    · obtain rfl : s = r := by omega
      have hltz : ¬ (s : Int) < (s : Int) := by omega
      obtain ⟨e, he⟩ : ∃ e, e = n - s := ⟨_, rfl⟩
      have re : IntKind.i64.wrap ((n : Int) - (s : Int)) = (e : Int) := by have := HN.out; rw [IntKind.wrap_i64]; omega
      have sm : s ≤ m := by omega
      have sa : a ≤ s := by omega
      have me : m ≤ e := by have := HN.out; omega
      have eb : e ≤ b := by have := HN.out; omega
      have sM : s ≤ M := by have := HN.out; omega
      have Me : M ≤ e := by have := HN.out; omega
      have HM : Hid (s + (e - m) = M) := by have := HN.out; show s + (e - m) = M; omega
      have EV : Aside (∀ e2 : Array Ob, e2.size = N → (∀ t, t < N → e2[t]! = rotI d s m e t) → Mv key16 d e2 a b ∧ Srt key16 e2 a s ∧ Srt key16 e2 s M ∧ Srt key16 e2 M e ∧ Srt key16 e2 e b ∧ ∀ p q, a ≤ p → p < M → M ≤ q → q < b → key16 e2[p]! ≤ key16 e2[q]!) := fun e2 q1 q2 => by
        have hN2 := HN.out
        rw [← HM.out]
        refine sym_rot (key := key16) (by omega) (fun t ht => q2 t (by omega)) U1.out U2.out sa sm me eb (by omega) (fun z1 z2 => ?_) (fun z1 z2 => ?_)
        · have := E2.out s (Nat.le_refl _) (by omega)
          rw [show p - s = e - 1 by omega] at this
          exact this
        · have := E1.out (s - 1) (by omega) (by omega)
          rw [show p - (s - 1) = e by omega] at this
          exact this
      clear E1 E2 he
      have FIN : Aside (∀ e2 f2 g2 : Array Ob, Mv key16 d e2 a b → (∀ p q, a ≤ p → p < M → M ≤ q → q < b → key16 e2[p]! ≤ key16 e2[q]!) → Mv key16 e2 f2 a M → Srt key16 f2 a M → Mv key16 f2 g2 M b → Srt key16 g2 M b → Mv key16 d g2 a b ∧ Srt key16 g2 a b) := fun e2 f2 g2 q1 q2 q3 q4 q5 q6 => by
        obtain ⟨z1, z2⟩ := sym_end q3 q4 q5 q6 (by omega) (by omega) q2
        exact ⟨q1.trans z1, z2⟩
      -- the right part
      have RT : Aside (∀ (f2 : Array Ob) (u : World), f2.size = N → SWK obC k w0 blk off f2 u → M < e → e < b → Srt key16 f2 M e → Srt key16 f2 e b → _) := fun f2 u q1 q2 q3 q4 q5 q6 => HI.out M e b f2 u (by omega) q1 q2 q3 q4 h3 q5 q6
      have LT : Aside (∀ (f2 : Array Ob) (u : World), f2.size = N → SWK obC k w0 blk off f2 u → a < s → s < M → Srt key16 f2 a s → Srt key16 f2 s M → _) := fun f2 u q1 q2 q3 q4 q5 q6 => HI.out a s M f2 u (by omega) q1 q2 q3 q4 (by omega) q5 q6
      clear HI
      by_cases cA : s < m ∧ m < e
      · have i1 : decide ((s : Int) < (m : Int)) = true := decide_eq_true (by omega)
        have i2 : decide ((m : Int) < (e : Int)) = true := decide_eq_true (by omega)
        have HP0 := HR.out s m e _ S1.out cA.1 cA.2 (by omega)
        go_wp2_with (go_at_fn 49; refine HP0.mono ?_; rintro e9 w7 ⟨rfl, e2, es, ez, er⟩; refine Hid.out ?_)
        have es : Aside _ := es
        have EE : Aside _ := EV.out e2 ez er
        clear er EV HP0 S1
        refine hid ?_
        by_cases cL : a < s ∧ s < M
        · have j1 : decide ((a : Int) < (s : Int)) = true := decide_eq_true (by omega)
          have j2 : decide ((s : Int) < (M : Int)) = true := decide_eq_true (by omega)
          have HP := LT.out e2 _ ez es.out cL.1 cL.2 EE.out.2.1 EE.out.2.2.1
          go_wp2_with (go_at_fn 48; refine HP.mono ?_; rintro e9 w8 ⟨rfl, f2, fs, fz, fm, ft⟩; refine Hid.out ?_)
          have fs : Aside _ := fs
          have V3 : Aside (Srt key16 f2 M e) := srt_out fm EE.out.2.2.2.1 (.inr (Nat.le_refl _))
          have V4 : Aside (Srt key16 f2 e b) := srt_out fm EE.out.2.2.2.2.1 (.inr Me)
          have FN : Aside (∀ g2 : Array Ob, Mv key16 f2 g2 M b → Srt key16 g2 M b → Mv key16 d g2 a b ∧ Srt key16 g2 a b) := fun g2 q5 q6 => FIN.out e2 f2 g2 EE.out.1 EE.out.2.2.2.2.2 fm ft q5 q6
          clear EE FIN es fm ft HP
          refine hid ?_
          by_cases cR : M < e ∧ e < b
          · have k1 : decide ((M : Int) < (e : Int)) = true := decide_eq_true (by omega)
            have k2 : decide ((e : Int) < (b : Int)) = true := decide_eq_true (by omega)
            have HQ := RT.out f2 _ fz fs.out cR.1 cR.2 (V3.out) (V4.out)
            clear RT LT HR
            go_wp2_with (go_at_fn 48; refine HQ.mono ?_; rintro e9 w9 ⟨rfl, g2, gs, gz, gm, gt⟩)
            all_goals go_end0
            all_goals exact ⟨rfl, g2, gs, gz, FN.out g2 gm gt⟩
          · have FX := FN.out f2 (Mv.refl _ _ _ _) (by
              by_cases c9 : M < e
              · have : e = b := by omega
                subst this
                exact V3.out
              · have : e = M := by omega
                subst this
                exact V4.out)
            have FX : Aside _ := FX
            clear V3 V4 FN RT LT HR
            by_cases c9 : M < e
            · have k1 : decide ((M : Int) < (e : Int)) = true := decide_eq_true (by omega)
              have k2 : decide ((e : Int) < (b : Int)) = false := decide_eq_false (by omega)
              go_wp2
              all_goals go_end0
              all_goals exact ⟨rfl, _, fs.out, fz, FX.out⟩
            · have k1 : decide ((M : Int) < (e : Int)) = false := decide_eq_false (by omega)
              go_wp2
              all_goals go_end0
              all_goals exact ⟨rfl, _, fs.out, fz, FX.out⟩
        · have ft : Srt key16 e2 a M := by
            by_cases c9 : a < s
            · have q : s = M := by omega
              have := EE.out.2.1
              rw [q] at this
              exact this
            · have q : s = a := by omega
              have := EE.out.2.2.1
              rw [q] at this
              exact this
          have fs := es
          have fz := ez
          have V3 : Aside (Srt key16 e2 M e) := EE.out.2.2.2.1
          have V4 : Aside (Srt key16 e2 e b) := EE.out.2.2.2.2.1
          have FN : Aside (∀ g2 : Array Ob, Mv key16 e2 g2 M b → Srt key16 g2 M b → Mv key16 d g2 a b ∧ Srt key16 g2 a b) := fun g2 q5 q6 => FIN.out e2 e2 g2 EE.out.1 EE.out.2.2.2.2.2 (Mv.refl _ _ _ _) ft q5 q6
          clear EE FIN es ft
          by_cases c8 : a < s
          · have j1 : decide ((a : Int) < (s : Int)) = true := decide_eq_true (by omega)
            have j2 : decide ((s : Int) < (M : Int)) = false := decide_eq_false (by omega)
            by_cases cR : M < e ∧ e < b
            · have k1 : decide ((M : Int) < (e : Int)) = true := decide_eq_true (by omega)
              have k2 : decide ((e : Int) < (b : Int)) = true := decide_eq_true (by omega)
              have HQ := RT.out e2 _ fz fs.out cR.1 cR.2 (V3.out) (V4.out)
              clear RT LT HR
              go_wp2_with (go_at_fn 48; refine HQ.mono ?_; rintro e9 w9 ⟨rfl, g2, gs, gz, gm, gt⟩)
              all_goals go_end0
              all_goals exact ⟨rfl, g2, gs, gz, FN.out g2 gm gt⟩
            · have FX := FN.out e2 (Mv.refl _ _ _ _) (by
                by_cases c9 : M < e
                · have : e = b := by omega
                  subst this
                  exact V3.out
                · have : e = M := by omega
                  subst this
                  exact V4.out)
              have FX : Aside _ := FX
              clear V3 V4 FN RT LT HR
              by_cases c9 : M < e
              · have k1 : decide ((M : Int) < (e : Int)) = true := decide_eq_true (by omega)
                have k2 : decide ((e : Int) < (b : Int)) = false := decide_eq_false (by omega)
                go_wp2
                all_goals go_end0
                all_goals exact ⟨rfl, _, fs.out, fz, FX.out⟩
              · have k1 : decide ((M : Int) < (e : Int)) = false := decide_eq_false (by omega)
                go_wp2
                all_goals go_end0
                all_goals exact ⟨rfl, _, fs.out, fz, FX.out⟩
          · have j1 : decide ((a : Int) < (s : Int)) = false := decide_eq_false (by omega)
            by_cases cR : M < e ∧ e < b
            · have k1 : decide ((M : Int) < (e : Int)) = true := decide_eq_true (by omega)
              have k2 : decide ((e : Int) < (b : Int)) = true := decide_eq_true (by omega)
              have HQ := RT.out e2 _ fz fs.out cR.1 cR.2 (V3.out) (V4.out)
              clear RT LT HR
              go_wp2_with (go_at_fn 48; refine HQ.mono ?_; rintro e9 w9 ⟨rfl, g2, gs, gz, gm, gt⟩)
              all_goals go_end0
              all_goals exact ⟨rfl, g2, gs, gz, FN.out g2 gm gt⟩
            · have FX := FN.out e2 (Mv.refl _ _ _ _) (by
                by_cases c9 : M < e
                · have : e = b := by omega
                  subst this
                  exact V3.out
                · have : e = M := by omega
                  subst this
                  exact V4.out)
              have FX : Aside _ := FX
              clear V3 V4 FN RT LT HR
              by_cases c9 : M < e
              · have k1 : decide ((M : Int) < (e : Int)) = true := decide_eq_true (by omega)
                have k2 : decide ((e : Int) < (b : Int)) = false := decide_eq_false (by omega)
                go_wp2
                all_goals go_end0
                all_goals exact ⟨rfl, _, fs.out, fz, FX.out⟩
              · have k1 : decide ((M : Int) < (e : Int)) = false := decide_eq_false (by omega)
                go_wp2
                all_goals go_end0
                all_goals exact ⟨rfl, _, fs.out, fz, FX.out⟩
      · have EE : Aside _ := EV.out d hN (fun t _ => by
          by_cases c7 : s < m
          · have q : m = e := by omega
            rw [← q]
            exact (rot_same2 d s m t).symm
          · have q : s = m := by omega
            rw [q]
            exact (rot_same d m e t).symm)
        have es := S1
        have ez := hN
        clear EV S1
        by_cases c7 : s < m
        · have i1 : decide ((s : Int) < (m : Int)) = true := decide_eq_true (by omega)
          have i2 : decide ((m : Int) < (e : Int)) = false := decide_eq_false (by omega)
          by_cases cL : a < s ∧ s < M
          · have j1 : decide ((a : Int) < (s : Int)) = true := decide_eq_true (by omega)
            have j2 : decide ((s : Int) < (M : Int)) = true := decide_eq_true (by omega)
            have HP := LT.out d _ ez es.out cL.1 cL.2 EE.out.2.1 EE.out.2.2.1
            go_wp2_with (go_at_fn 48; refine HP.mono ?_; rintro e9 w8 ⟨rfl, f2, fs, fz, fm, ft⟩; refine Hid.out ?_)
            have fs : Aside _ := fs
            have V3 : Aside (Srt key16 f2 M e) := srt_out fm EE.out.2.2.2.1 (.inr (Nat.le_refl _))
            have V4 : Aside (Srt key16 f2 e b) := srt_out fm EE.out.2.2.2.2.1 (.inr Me)
            have FN : Aside (∀ g2 : Array Ob, Mv key16 f2 g2 M b → Srt key16 g2 M b → Mv key16 d g2 a b ∧ Srt key16 g2 a b) := fun g2 q5 q6 => FIN.out d f2 g2 EE.out.1 EE.out.2.2.2.2.2 fm ft q5 q6
            clear EE FIN es fm ft HP
            refine hid ?_
            by_cases cR : M < e ∧ e < b
            · have k1 : decide ((M : Int) < (e : Int)) = true := decide_eq_true (by omega)
              have k2 : decide ((e : Int) < (b : Int)) = true := decide_eq_true (by omega)
              have HQ := RT.out f2 _ fz fs.out cR.1 cR.2 (V3.out) (V4.out)
              clear RT LT HR
              go_wp2_with (go_at_fn 48; refine HQ.mono ?_; rintro e9 w9 ⟨rfl, g2, gs, gz, gm, gt⟩)
              all_goals go_end0
              all_goals exact ⟨rfl, g2, gs, gz, FN.out g2 gm gt⟩
            · have FX := FN.out f2 (Mv.refl _ _ _ _) (by
                by_cases c9 : M < e
                · have : e = b := by omega
                  subst this
                  exact V3.out
                · have : e = M := by omega
                  subst this
                  exact V4.out)
              have FX : Aside _ := FX
              clear V3 V4 FN RT LT HR
              by_cases c9 : M < e
              · have k1 : decide ((M : Int) < (e : Int)) = true := decide_eq_true (by omega)
                have k2 : decide ((e : Int) < (b : Int)) = false := decide_eq_false (by omega)
                go_wp2
                all_goals go_end0
                all_goals exact ⟨rfl, _, fs.out, fz, FX.out⟩
              · have k1 : decide ((M : Int) < (e : Int)) = false := decide_eq_false (by omega)
                go_wp2
                all_goals go_end0
                all_goals exact ⟨rfl, _, fs.out, fz, FX.out⟩
          · have ft : Srt key16 d a M := by
              by_cases c9 : a < s
              · have q : s = M := by omega
                have := EE.out.2.1
                rw [q] at this
                exact this
              · have q : s = a := by omega
                have := EE.out.2.2.1
                rw [q] at this
                exact this
            have fs := es
            have fz := ez
            have V3 : Aside (Srt key16 d M e) := EE.out.2.2.2.1
            have V4 : Aside (Srt key16 d e b) := EE.out.2.2.2.2.1
            have FN : Aside (∀ g2 : Array Ob, Mv key16 d g2 M b → Srt key16 g2 M b → Mv key16 d g2 a b ∧ Srt key16 g2 a b) := fun g2 q5 q6 => FIN.out d d g2 EE.out.1 EE.out.2.2.2.2.2 (Mv.refl _ _ _ _) ft q5 q6
            clear EE FIN es ft
            by_cases c8 : a < s
            · have j1 : decide ((a : Int) < (s : Int)) = true := decide_eq_true (by omega)
              have j2 : decide ((s : Int) < (M : Int)) = false := decide_eq_false (by omega)
              by_cases cR : M < e ∧ e < b
              · have k1 : decide ((M : Int) < (e : Int)) = true := decide_eq_true (by omega)
                have k2 : decide ((e : Int) < (b : Int)) = true := decide_eq_true (by omega)
                have HQ := RT.out d _ fz fs.out cR.1 cR.2 (V3.out) (V4.out)
                clear RT LT HR
                go_wp2_with (go_at_fn 48; refine HQ.mono ?_; rintro e9 w9 ⟨rfl, g2, gs, gz, gm, gt⟩)
                all_goals go_end0
                all_goals exact ⟨rfl, g2, gs, gz, FN.out g2 gm gt⟩
              · have FX := FN.out d (Mv.refl _ _ _ _) (by
                  by_cases c9 : M < e
                  · have : e = b := by omega
                    subst this
                    exact V3.out
                  · have : e = M := by omega
                    subst this
                    exact V4.out)
                have FX : Aside _ := FX
                clear V3 V4 FN RT LT HR
                by_cases c9 : M < e
                · have k1 : decide ((M : Int) < (e : Int)) = true := decide_eq_true (by omega)
                  have k2 : decide ((e : Int) < (b : Int)) = false := decide_eq_false (by omega)
                  go_wp2
                  all_goals go_end0
                  all_goals exact ⟨rfl, _, fs.out, fz, FX.out⟩
                · have k1 : decide ((M : Int) < (e : Int)) = false := decide_eq_false (by omega)
                  go_wp2
                  all_goals go_end0
                  all_goals exact ⟨rfl, _, fs.out, fz, FX.out⟩
            · have j1 : decide ((a : Int) < (s : Int)) = false := decide_eq_false (by omega)
              by_cases cR : M < e ∧ e < b
              · have k1 : decide ((M : Int) < (e : Int)) = true := decide_eq_true (by omega)
                have k2 : decide ((e : Int) < (b : Int)) = true := decide_eq_true (by omega)
                have HQ := RT.out d _ fz fs.out cR.1 cR.2 (V3.out) (V4.out)
                clear RT LT HR
                go_wp2_with (go_at_fn 48; refine HQ.mono ?_; rintro e9 w9 ⟨rfl, g2, gs, gz, gm, gt⟩)
                all_goals go_end0
                all_goals exact ⟨rfl, g2, gs, gz, FN.out g2 gm gt⟩
              · have FX := FN.out d (Mv.refl _ _ _ _) (by
                  by_cases c9 : M < e
                  · have : e = b := by omega
                    subst this
                    exact V3.out
                  · have : e = M := by omega
                    subst this
                    exact V4.out)
                have FX : Aside _ := FX
                clear V3 V4 FN RT LT HR
                by_cases c9 : M < e
                · have k1 : decide ((M : Int) < (e : Int)) = true := decide_eq_true (by omega)
                  have k2 : decide ((e : Int) < (b : Int)) = false := decide_eq_false (by omega)
                  go_wp2
                  all_goals go_end0
                  all_goals exact ⟨rfl, _, fs.out, fz, FX.out⟩
                · have k1 : decide ((M : Int) < (e : Int)) = false := decide_eq_false (by omega)
                  go_wp2
                  all_goals go_end0
                  all_goals exact ⟨rfl, _, fs.out, fz, FX.out⟩
        · have i1 : decide ((s : Int) < (m : Int)) = false := decide_eq_false (by omega)
          by_cases cL : a < s ∧ s < M
          · have j1 : decide ((a : Int) < (s : Int)) = true := decide_eq_true (by omega)
            have j2 : decide ((s : Int) < (M : Int)) = true := decide_eq_true (by omega)
            have HP := LT.out d _ ez es.out cL.1 cL.2 EE.out.2.1 EE.out.2.2.1
            go_wp2_with (go_at_fn 48; refine HP.mono ?_; rintro e9 w8 ⟨rfl, f2, fs, fz, fm, ft⟩; refine Hid.out ?_)
            have fs : Aside _ := fs
            have V3 : Aside (Srt key16 f2 M e) := srt_out fm EE.out.2.2.2.1 (.inr (Nat.le_refl _))
            have V4 : Aside (Srt key16 f2 e b) := srt_out fm EE.out.2.2.2.2.1 (.inr Me)
            have FN : Aside (∀ g2 : Array Ob, Mv key16 f2 g2 M b → Srt key16 g2 M b → Mv key16 d g2 a b ∧ Srt key16 g2 a b) := fun g2 q5 q6 => FIN.out d f2 g2 EE.out.1 EE.out.2.2.2.2.2 fm ft q5 q6
            clear EE FIN es fm ft HP
            refine hid ?_
            by_cases cR : M < e ∧ e < b
            · have k1 : decide ((M : Int) < (e : Int)) = true := decide_eq_true (by omega)
              have k2 : decide ((e : Int) < (b : Int)) = true := decide_eq_true (by omega)
              have HQ := RT.out f2 _ fz fs.out cR.1 cR.2 (V3.out) (V4.out)
              clear RT LT HR
              go_wp2_with (go_at_fn 48; refine HQ.mono ?_; rintro e9 w9 ⟨rfl, g2, gs, gz, gm, gt⟩)
              all_goals go_end0
              all_goals exact ⟨rfl, g2, gs, gz, FN.out g2 gm gt⟩
            · have FX := FN.out f2 (Mv.refl _ _ _ _) (by
                by_cases c9 : M < e
                · have : e = b := by omega
                  subst this
                  exact V3.out
                · have : e = M := by omega
                  subst this
                  exact V4.out)
              have FX : Aside _ := FX
              clear V3 V4 FN RT LT HR
              by_cases c9 : M < e
              · have k1 : decide ((M : Int) < (e : Int)) = true := decide_eq_true (by omega)
                have k2 : decide ((e : Int) < (b : Int)) = false := decide_eq_false (by omega)
                go_wp2
                all_goals go_end0
                all_goals exact ⟨rfl, _, fs.out, fz, FX.out⟩
              · have k1 : decide ((M : Int) < (e : Int)) = false := decide_eq_false (by omega)
                go_wp2
                all_goals go_end0
                all_goals exact ⟨rfl, _, fs.out, fz, FX.out⟩
          · have ft : Srt key16 d a M := by
              by_cases c9 : a < s
              · have q : s = M := by omega
                have := EE.out.2.1
                rw [q] at this
                exact this
              · have q : s = a := by omega
                have := EE.out.2.2.1
                rw [q] at this
                exact this
            have fs := es
            have fz := ez
            have V3 : Aside (Srt key16 d M e) := EE.out.2.2.2.1
            have V4 : Aside (Srt key16 d e b) := EE.out.2.2.2.2.1
            have FN : Aside (∀ g2 : Array Ob, Mv key16 d g2 M b → Srt key16 g2 M b → Mv key16 d g2 a b ∧ Srt key16 g2 a b) := fun g2 q5 q6 => FIN.out d d g2 EE.out.1 EE.out.2.2.2.2.2 (Mv.refl _ _ _ _) ft q5 q6
            clear EE FIN es ft
            by_cases c8 : a < s
            · have j1 : decide ((a : Int) < (s : Int)) = true := decide_eq_true (by omega)
              have j2 : decide ((s : Int) < (M : Int)) = false := decide_eq_false (by omega)
              by_cases cR : M < e ∧ e < b
              · have k1 : decide ((M : Int) < (e : Int)) = true := decide_eq_true (by omega)
                have k2 : decide ((e : Int) < (b : Int)) = true := decide_eq_true (by omega)
                have HQ := RT.out d _ fz fs.out cR.1 cR.2 (V3.out) (V4.out)
                clear RT LT HR
                go_wp2_with (go_at_fn 48; refine HQ.mono ?_; rintro e9 w9 ⟨rfl, g2, gs, gz, gm, gt⟩)
                all_goals go_end0
                all_goals exact ⟨rfl, g2, gs, gz, FN.out g2 gm gt⟩
              · have FX := FN.out d (Mv.refl _ _ _ _) (by
                  by_cases c9 : M < e
                  · have : e = b := by omega
                    subst this
                    exact V3.out
                  · have : e = M := by omega
                    subst this
                    exact V4.out)
                have FX : Aside _ := FX
                clear V3 V4 FN RT LT HR
                by_cases c9 : M < e
                · have k1 : decide ((M : Int) < (e : Int)) = true := decide_eq_true (by omega)
                  have k2 : decide ((e : Int) < (b : Int)) = false := decide_eq_false (by omega)
                  go_wp2
                  all_goals go_end0
                  all_goals exact ⟨rfl, _, fs.out, fz, FX.out⟩
                · have k1 : decide ((M : Int) < (e : Int)) = false := decide_eq_false (by omega)
                  go_wp2
                  all_goals go_end0
                  all_goals exact ⟨rfl, _, fs.out, fz, FX.out⟩
            · have j1 : decide ((a : Int) < (s : Int)) = false := decide_eq_false (by omega)
              by_cases cR : M < e ∧ e < b
              · have k1 : decide ((M : Int) < (e : Int)) = true := decide_eq_true (by omega)
                have k2 : decide ((e : Int) < (b : Int)) = true := decide_eq_true (by omega)
                have HQ := RT.out d _ fz fs.out cR.1 cR.2 (V3.out) (V4.out)
                clear RT LT HR
                go_wp2_with (go_at_fn 48; refine HQ.mono ?_; rintro e9 w9 ⟨rfl, g2, gs, gz, gm, gt⟩)
                all_goals go_end0
                all_goals exact ⟨rfl, g2, gs, gz, FN.out g2 gm gt⟩
              · have FX := FN.out d (Mv.refl _ _ _ _) (by
                  by_cases c9 : M < e
                  · have : e = b := by omega
                    subst this
                    exact V3.out
                  · have : e = M := by omega
                    subst this
                    exact V4.out)
                have FX : Aside _ := FX
                clear V3 V4 FN RT LT HR
                by_cases c9 : M < e
                · have k1 : decide ((M : Int) < (e : Int)) = true := decide_eq_true (by omega)
                  have k2 : decide ((e : Int) < (b : Int)) = false := decide_eq_false (by omega)
                  go_wp2
                  all_goals go_end0
                  all_goals exact ⟨rfl, _, fs.out, fz, FX.out⟩
                · have k1 : decide ((M : Int) < (e : Int)) = false := decide_eq_false (by omega)
                  go_wp2
                  all_goals go_end0
                  all_goals exact ⟨rfl, _, fs.out, fz, FX.out⟩
end
end Go.Proofs.Ytecgpdjgbdobbab
