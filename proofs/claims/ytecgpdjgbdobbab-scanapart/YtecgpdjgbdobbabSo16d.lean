/- slices' own stable sort. -/
import Derived.Test.YtecgpdjgbdobbabSo16c
import Derived.Test.YtecgpdjgbdobbabSo16m1
import Derived.Test.YtecgpdjgbdobbabSo16m2
namespace Go.Proofs.Ytecgpdjgbdobbab
open Go.RowKit Go.Sort Go.Lib Go.Shelf
set_option linter.unusedVariables false
set_option linter.unusedSimpArgs false

section
variable {P : Program} {k : Nat}
theorem sym16 (L : Open16 P k) (blk off cap N : Nat) (g : Nat) (cb : Array Value) (d0 : Array Ob) (w0 : World) (R : RowK obC k w0 blk off d0) (h0 : d0.size = N) (eg : ∀ args w, (callFunc g args).run P w = .ok (.enter g args) w) (hC : CmpLays P g cb obC k cf16 blk off N w0) (hsz : N ≤ 1000) : ∀ f : Nat, ∀ (a m b : Nat) (d : Array Ob) (w : World), b - a ≤ f → d.size = N → SWK obC k w0 blk off d w → a < m → m < b → b ≤ N → Srt key16 d a m → Srt key16 d m b → Calls P 48 #[.slice (some ⟨blk, off, none⟩) N cap, .int .i64 a, .int .i64 m, .int .i64 b, .func (.func g) #[] cb] w fun e w' => e = .returned (.tuple #[]) ∧ ∃ d2 : Array Ob, SWK obC k w0 blk off d2 w' ∧ d2.size = N ∧ Mv key16 d d2 a b ∧ Srt key16 d2 a b
  | 0 => fun a m b d w hf _ _ h1 h2 _ _ _ => by omega
  | f + 1 => fun a m b d w hf hN S h1 h2 h3 T1 T2 => by
    have IH := sym16 L blk off cap N g cb d0 w0 R h0 eg hC hsz f
    by_cases c1 : m = a + 1
    · exact sym_l L blk off cap a m b g cb N d0 d w0 w R h0 hN S eg hC c1 h2 h3 hsz T1 T2
    · by_cases c2 : b = m + 1
      · exact sym_r L blk off cap a m b g cb N d0 d w0 w R h0 hN S eg hC (by omega) c2 h3 hsz T1 T2
      · by_cases c3 : m ≤ (a + b) / 2
        · exact sym_m1 L blk off cap a m b f g cb N d0 d w0 w R h0 hN S eg hC (by omega) (by omega) h3 hsz c3 hf T1 T2 IH
        · exact sym_m2 L blk off cap a m b f g cb N d0 d w0 w R h0 hN S eg hC (by omega) (by omega) h3 hsz (by omega) hf T1 T2 IH
set_option maxRecDepth 1000000 in
set_option maxHeartbeats 1000000 in
theorem stable16 (L : Open16 P k) (blk off cap : Nat) (g : Nat) (cb : Array Value) (N : Nat) (d0 d : Array Ob) (w0 w : World) (R : RowK obC k w0 blk off d0) (h0 : d0.size = N) (hN : d.size = N) (S : SWK obC k w0 blk off d w) (eg : ∀ args w, (callFunc g args).run P w = .ok (.enter g args) w) (hC : CmpLays P g cb obC k cf16 blk off N w0) (hsz : N ≤ 1000) (eI : ∀ args w, (callFunc 47 args).run P w = .ok (.enter 47 args) w) (hI : ∀ (a b : Nat) (d : Array Ob) (w : World), d.size = N → SWK obC k w0 blk off d w → a ≤ b → b ≤ N → Calls P 47 #[.slice (some ⟨blk, off, none⟩) N cap, .int .i64 a, .int .i64 b, .func (.func g) #[] cb] w fun e w' => e = .returned (.tuple #[]) ∧ ∃ d2 : Array Ob, SWK obC k w0 blk off d2 w' ∧ d2.size = N ∧ Mv key16 d d2 a b ∧ Srt key16 d2 a b) :
    Calls P 45 #[.slice (some ⟨blk, off, none⟩) N cap, .int .i64 N, .func (.func g) #[] cb] w fun e w' => e = .returned (.tuple #[]) ∧ ∃ d2 : Array Ob, SWK obC k w0 blk off d2 w' ∧ d2.size = N ∧ Mv key16 d d2 0 N ∧ Srt key16 d2 0 N := by
  have eM : ∀ args w, (callFunc 48 args).run P w = .ok (.enter 48 args) w := enters_of L.fsy (by kernel_rfl) rfl
  have HI : Aside (∀ (a b : Nat) (d : Array Ob) (w : World), d.size = N → SWK obC k w0 blk off d w → a ≤ b → b ≤ N → Calls P 47 #[.slice (some ⟨blk, off, none⟩) N cap, .int .i64 a, .int .i64 b, .func (.func g) #[] cb] w fun e w' => e = .returned (.tuple #[]) ∧ ∃ d2 : Array Ob, SWK obC k w0 blk off d2 w' ∧ d2.size = N ∧ Mv key16 d d2 a b ∧ Srt key16 d2 a b) := hI
  have HM : Aside (∀ (a m b : Nat) (d : Array Ob) (w : World), d.size = N → SWK obC k w0 blk off d w → a < m → m < b → b ≤ N → Srt key16 d a m → Srt key16 d m b → Calls P 48 #[.slice (some ⟨blk, off, none⟩) N cap, .int .i64 a, .int .i64 m, .int .i64 b, .func (.func g) #[] cb] w fun e w' => e = .returned (.tuple #[]) ∧ ∃ d2 : Array Ob, SWK obC k w0 blk off d2 w' ∧ d2.size = N ∧ Mv key16 d d2 a b ∧ Srt key16 d2 a b) := fun a m b d w => sym16 L blk off cap N g cb d0 w0 R h0 eg hC hsz (b - a) a m b d w (Nat.le_refl _)
  have mixed := L.mixed; have tn0 := L.tn0; have an0 := L.an0; have zn0 := L.zn0; have vn0 := L.vn0; have tni := L.tni; have ani := L.ani; have zni := L.zni; have vni := L.vni; have tnb := L.tnb; have anb := L.anb; have znb := L.znb; have vnb := L.vnb; have tns := L.tns; have ans := L.ans; have zns := L.zns; have vns := L.vns; have tnf := L.tnf; have anf := L.anf; have znf := L.znf; have vnf := L.vnf; have tnu := L.tnu; have anu := L.anu; have znu := L.znu; have vnu := L.vnu; have aO := L.aO; have zO := L.zO
  have FG := L.fst
  have S0 : Aside (SWK obC k w0 blk off d w) := S
  clear S L hC hI R
  go_enter FG, Try.ntmps45
  go_wp2
  go_loopg [7, 8] N (fun kx s8 s9 wr => ∃ (p a b : Nat) (dk : Array Ob), s8 = .int .i64 a ∧ s9 = .int .i64 b ∧ Hid (a = p * 20) ∧ b = a + 20 ∧ a ≤ N ∧ N - a ≤ kx ∧ dk.size = N ∧ Aside (SWK obC k w0 blk off dk wr) ∧ Aside (Mv key16 d dk 0 N) ∧ Aside (∀ q, q < p → Srt key16 dk (q * 20) ((q + 1) * 20)))
  case atStart => exact ⟨0, 0, 20, d, rfl, rfl, rfl, rfl, Nat.zero_le _, by omega, hN, S0, Mv.refl _ _ _ _, (show ∀ q, q < 0 → _ from fun q hq => by omega)⟩
  case round =>
    clear S0
    obtain ⟨p, a, b, dk, rfl, rfl, HP, hb, aN, hkx, hds, S1, M1, T1⟩ := hrel
    by_cases hlt : b ≤ N
    · have hltz : (b : Int) ≤ (N : Int) := by omega
      have HQ := HI.out a b dk wr hds S1.out (by omega) hlt
      have NX : Aside (∀ c2 : Array Ob, Mv key16 dk c2 a b → Srt key16 c2 a b → Mv key16 d c2 0 N ∧ ∀ q, q < p + 1 → Srt key16 c2 (q * 20) ((q + 1) * 20)) := fun c2 q1 q2 => by
        refine ⟨M1.out.trans (q1.wide (Nat.zero_le _) hlt), fun q hq => ?_⟩
        have e := HP.out
        by_cases c : q = p
        · subst c
          rw [show q * 20 = a by omega, show (q + 1) * 20 = b by omega]
          exact q2
        · exact srt_out q1 (T1.out q (by omega)) (.inl (by omega))
      have r1 : IntKind.i64.wrap ((b : Int) + 20) = ((b + 20 : Nat) : Int) := by rw [IntKind.wrap_i64]; omega
      have HB : Hid (b = a + 20) := hb
      have ab : a < b := by omega
      clear S1 M1 T1 hb
      generalize hz : b + 20 = z at r1
      have HZ : Hid (b + 20 = z) := hz
      clear hz
      go_wp2_with (go_at_fn 47; refine HQ.mono ?_; rintro e9 w9 ⟨rfl, c2, S2, z2, q1, q2⟩; have S2 : Aside _ := S2; have N2 : Aside _ := NX.out c2 q1 q2; clear q1 q2)
      go_roundg (N - b)
      case measure => omega
      case rel =>
        have e1 := HZ.out
        have e2 := HB.out
        have e3 := HP.out
        exact ⟨p + 1, b, z, c2, by first | rfl | go_num, by first | rfl | go_num, (show b = (p + 1) * 20 by omega), by omega, hlt, Nat.le_refl _, z2, S2, N2.out.1, N2.out.2⟩
    · have hltz : ¬ (b : Int) ≤ (N : Int) := by omega
      have HQ := HI.out a N dk wr hds S1.out (by omega) (Nat.le_refl _)
      have NX : Aside (∀ c2 : Array Ob, Mv key16 dk c2 a N → Srt key16 c2 a N → Mv key16 d c2 0 N ∧ Runs key16 c2 20 N) := fun c2 q1 q2 => by
        refine ⟨M1.out.trans (q1.wide (Nat.zero_le _) (Nat.le_refl _)), ?_⟩
        have e := HP.out
        refine runs_done (p := p) (fun q hq => srt_out q1 (T1.out q hq) (.inl (by omega))) ?_ (by omega)
        rw [← e]
        exact q2
      clear S1 M1 T1
      go_wp2_with (go_at_fn 47; refine HQ.mono ?_; rintro e9 w9 ⟨rfl, c2, S2, z2, q1, q2⟩; have S2 : Aside _ := S2; have N2 : Aside _ := NX.out c2 q1 q2; clear q1 q2)
      clear NX HQ HI
      go_loopg [6] (2 * N) (fun kx s8 wr => ∃ (s : Nat) (dk : Array Ob), s8 = .int .i64 s ∧ 0 < s ∧ s ≤ 2000 ∧ 2 * N - s ≤ kx ∧ dk.size = N ∧ Aside (SWK obC k w0 blk off dk wr) ∧ Aside (Mv key16 d dk 0 N) ∧ Aside (Runs key16 dk s N))
      case atStart => exact ⟨20, c2, rfl, by omega, by omega, by omega, z2, S2, N2.out.1, N2.out.2⟩
      case round =>
        clear S2 N2 z2
        obtain ⟨s, dk, rfl, s0, s1, hkx, hds, S1, M1, U1⟩ := hrel
        by_cases hlt : s < N
        · have hltz : (s : Int) < (N : Int) := by omega
          obtain ⟨t, ht⟩ : ∃ t, t = 2 * s := ⟨_, rfl⟩
          have r1 : IntKind.i64.wrap (2 * (s : Int)) = (t : Int) := by rw [IntKind.wrap_i64]; omega
          have r2 : IntKind.i64.wrap ((s : Int) * 2) = (t : Int) := by rw [IntKind.wrap_i64]; omega
          have HT : Hid (t = 2 * s) := ht
          have st : s < t := by omega
          have t1 : t ≤ 2000 := by omega
          clear ht
          go_wp2
          go_loopg [7, 8] N (fun ky s8 s9 wr => ∃ (p a b : Nat) (dk : Array Ob), s8 = .int .i64 a ∧ s9 = .int .i64 b ∧ Hid (a = p * t) ∧ b = a + t ∧ a ≤ N ∧ N - a ≤ ky ∧ dk.size = N ∧ Aside (SWK obC k w0 blk off dk wr) ∧ Aside (Mv key16 d dk 0 N) ∧ Aside (∀ q, q < p → Srt key16 dk (q * t) ((q + 1) * t)) ∧ Aside (∀ q, p ≤ q → Srt key16 dk (q * t) (min (q * t + s) N) ∧ Srt key16 dk (q * t + s) (min (q * t + t) N)))
          case atStart =>
            refine ⟨0, 0, t, dk, rfl, by first | rfl | go_num, (show 0 = 0 * t by omega), by omega, Nat.zero_le _, by omega, hds, S1, M1, (show ∀ q, q < 0 → _ from fun q hq => by omega), (show ∀ q, 0 ≤ q → _ from fun q _ => ?_)⟩
            have := runs_two (p := q) U1.out
            rw [← HT.out] at this
            exact this
          case round =>
            clear S1 M1 U1
            obtain ⟨p, a, b, dk, rfl, rfl, HP, hb, aN, hky, hds, S1, M1, T1, T2⟩ := hrel
            obtain ⟨m, hm⟩ : ∃ m, m = a + s := ⟨_, rfl⟩
            have rm : IntKind.i64.wrap ((a : Int) + (s : Int)) = (m : Int) := by rw [IntKind.wrap_i64]; omega
            by_cases hle : b ≤ N
            · have hlez : (b : Int) ≤ (N : Int) := by omega
              have V := T2.out p (Nat.le_refl _)
              rw [← HP.out, ← hm, ← hb, Nat.min_eq_left hle, Nat.min_eq_left (by omega)] at V
              have HQ := HM.out a m b dk wr hds S1.out (by omega) (by omega) hle V.1 V.2
              have NX : Aside (∀ c2 : Array Ob, Mv key16 dk c2 a b → Srt key16 c2 a b → Mv key16 d c2 0 N ∧ (∀ q, q < p + 1 → Srt key16 c2 (q * t) ((q + 1) * t)) ∧ ∀ q, p + 1 ≤ q → Srt key16 c2 (q * t) (min (q * t + s) N) ∧ Srt key16 c2 (q * t + s) (min (q * t + t) N)) := fun c2 q1 q2 => by
                have e := HP.out
                refine ⟨M1.out.trans (q1.wide (Nat.zero_le _) hle), fun q hq => ?_, fun q hq => ?_⟩
                · by_cases c : q = p
                  · subst c
                    rw [Nat.add_mul, Nat.one_mul, ← e, ← hb]
                    exact q2
                  · have : (q + 1) * t ≤ p * t := Nat.mul_le_mul_right _ (by omega)
                    exact srt_out q1 (T1.out q (by omega)) (.inl (by omega))
                · have : (p + 1) * t ≤ q * t := Nat.mul_le_mul_right _ hq
                  rw [Nat.add_mul, Nat.one_mul] at this
                  have z := T2.out q (by omega)
                  exact ⟨srt_out q1 z.1 (.inr (by omega)), srt_out q1 z.2 (.inr (by omega))⟩
              have rz : IntKind.i64.wrap ((b : Int) + (t : Int)) = ((b + t : Nat) : Int) := by rw [IntKind.wrap_i64]; omega
              have HB : Hid (b = a + t) := hb
              have ab : a < b := by omega
              clear S1 M1 T1 T2 hb hm V
              generalize hz : b + t = z at rz
              have HZ : Hid (b + t = z) := hz
              clear hz
              go_wp2_with (go_at_fn 48; refine HQ.mono ?_; rintro e9 w9 ⟨rfl, c2, S2, z2, q1, q2⟩; have S2 : Aside _ := S2; have N2 : Aside _ := NX.out c2 q1 q2; clear q1 q2)
              go_roundg (N - b)
              case measure => omega
              case rel =>
                have e1 := HZ.out
                have e2 := HB.out
                have e3 := HP.out
                exact ⟨p + 1, b, z, c2, by first | rfl | go_num, by first | rfl | go_num, (show b = (p + 1) * t by rw [Nat.add_mul, Nat.one_mul]; omega), by omega, hle, Nat.le_refl _, z2, S2, N2.out.1, N2.out.2.1, N2.out.2.2⟩
            · have hlez : ¬ (b : Int) ≤ (N : Int) := by omega
              by_cases hmN : m < N
              · have hmz : (m : Int) < (N : Int) := by omega
                have V := T2.out p (Nat.le_refl _)
                rw [← HP.out, ← hm, ← hb, Nat.min_eq_right (show N ≤ b by omega), Nat.min_eq_left (by omega)] at V
                have HQ := HM.out a m N dk wr hds S1.out (by omega) hmN (Nat.le_refl _) V.1 V.2
                have NX : Aside (∀ c2 : Array Ob, Mv key16 dk c2 a N → Srt key16 c2 a N → Mv key16 d c2 0 N ∧ Runs key16 c2 t N) := fun c2 q1 q2 => by
                  have e := HP.out
                  refine ⟨M1.out.trans (q1.wide (Nat.zero_le _) (Nat.le_refl _)), runs_done (p := p) (fun q hq => ?_) ?_ (by omega)⟩
                  · have : (q + 1) * t ≤ p * t := Nat.mul_le_mul_right _ hq
                    exact srt_out q1 (T1.out q hq) (.inl (by omega))
                  · rw [← e]; exact q2
                clear S1 M1 T1 T2 hb hm V
                go_wp2_with (go_at_fn 48; refine HQ.mono ?_; rintro e9 w9 ⟨rfl, c2, S2, z2, q1, q2⟩; have S2 : Aside _ := S2; have N2 : Aside _ := NX.out c2 q1 q2; clear q1 q2)
                go_roundg (2 * N - t)
                case measure => omega
                case rel => exact ⟨t, c2, by first | rfl | go_num, by omega, t1, Nat.le_refl _, z2, S2, N2.out.1, N2.out.2⟩
              · have hmz : ¬ (m : Int) < (N : Int) := by omega
                have N2 : Aside (Runs key16 dk t N) := by
                  have V := T2.out p (Nat.le_refl _)
                  have e := HP.out
                  rw [← e, ← hm, Nat.min_eq_right (show N ≤ m by omega)] at V
                  refine runs_done (p := p) (fun q hq => T1.out q hq) ?_ (by omega)
                  rw [← e]; exact V.1
                clear T1 T2 hb hm
                go_wp2
                go_roundg (2 * N - t)
                case measure => omega
                case rel => exact ⟨t, dk, by first | rfl | go_num, by omega, t1, Nat.le_refl _, hds, S1, M1, N2⟩
        · have hltz : ¬ (s : Int) < (N : Int) := by omega
          go_wp2
          go_end0
          exact ⟨rfl, dk, S1.out, hds, M1.out, runs_all U1.out (by omega)⟩
end
/-- slices.SortStableFunc, by the order's closure. -/
theorem sort16 (blk cap : Nat) (d : Array Ob) (w : World) (hH : HoldsK obC 5 w blk 0 d) (hb : blk < w.heap.size) (hsz : d.size ≤ 1000) :
    Calls Try.prog 45 #[.slice (some ⟨blk, 0, none⟩) d.size cap, .int .i64 d.size, .func (.func 38) #[] #[]] w fun e w' => e = .returned (.tuple #[]) ∧ ∃ d2 : Array Ob, SWK obC 5 w blk 0 d2 w' ∧ d2.size = d.size ∧ Mv key16 d d2 0 d.size ∧ Srt key16 d2 0 d.size := by
  have R := rowK16 hH hb
  have eg : ∀ args w, (callFunc 38 args).run Try.prog w = .ok (.enter 38 args) w := enters_of Try.func38 (by kernel_rfl) rfl
  have eI : ∀ args w, (callFunc 47 args).run Try.prog w = .ok (.enter 47 args) w := enters_of Try.func47 (by kernel_rfl) rfl
  refine stable16 open16 blk 0 cap 38 #[] d.size d d w w R rfl rfl (SWK.start hH) eg (lays16 _ _ _ _) hsz eI ?_
  intro a b dk u hN S hab hbn
  have := insC16 blk 0 cap a b d dk w u R hN S hab (by omega) (by omega)
  rw [hN] at this
  refine this.mono ?_
  rintro e u2 ⟨rfl, d2, q1, q2, q3⟩
  exact ⟨rfl, d2, q1, q2.size.trans hN, q2, q3⟩
set_option maxRecDepth 100000 in
set_option maxHeartbeats 4000000 in
theorem sortS16 (blk cap : Nat) (d : Array Ob) (w : World) (hH : HoldsK obC 5 w blk 0 d) (hb : blk < w.heap.size) (hsz : d.size ≤ 1000) :
    Calls Try.prog 37 #[.slice (some ⟨blk, 0, none⟩) d.size cap, .func (.func 38) #[] #[]] w fun e w' => e = .returned (.tuple #[]) ∧ ∃ d2 : Array Ob, SWK obC 5 w blk 0 d2 w' ∧ d2.size = d.size ∧ Mv key16 d d2 0 d.size ∧ Srt key16 d2 0 d.size := by
  have H := hid (sort16 blk cap d w hH hb hsz)
  clear hH
  go_enter Try.func37, Try.ntmps37
  go_wp2_with (go_at_call 45; refine H.out.mono ?_; rintro e u ⟨rfl, h⟩)
  go_end0
  exact ⟨rfl, h⟩
end Go.Proofs.Ytecgpdjgbdobbab
