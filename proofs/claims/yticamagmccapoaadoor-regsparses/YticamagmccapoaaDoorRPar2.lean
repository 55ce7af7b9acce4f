/- What Parse of the document's answers of layer 4 comes to. -/
import Derived.Test.YticamagmccapoaaDoorRPar1
import Derived.Deep.QuietTactic
namespace Go.Proofs.YticamagmccapoaaDoor
open Go.RowKit
set_option linter.unusedVariables false
set_option linter.unusedSimpArgs false

def rst (s : ByteArray) (k : Nat) : Rg := if k = 6 then endR s else partR s k
theorem has_drewN {w : World} {b n : Nat} {cs : Array Value} (h : Has w b cs) : Has (w.drewN n) b cs := h
theorem allp {s : ByteArray} {k : Nat} (h : ∀ j, j < k → PartOk s j) (p : PartOk s k) : ∀ j, j < k + 1 → PartOk s j := fun j hj => by
  by_cases e : j = k
  · rw [e]; exact p
  · exact h j (by omega)
theorem good_no (s : ByteArray) (k : Nat) (hk : k < 6) (h : ¬ PartOk s k) : ¬ good s := fun g => h (g k hk)
set_option maxRecDepth 100000 in
set_option maxHeartbeats 8000000 in
theorem rparse_any (s : ByteArray) (w : World) (hs : s.size = 47) : Calls Tryd.prog 7 #[.string s] w fun e w' => ((good s ∧ e = .returned (.tuple #[.agg #[.int .u8 (endR s).a, .int .u8 (endR s).f, .int .u8 (endR s).b, .int .u8 (endR s).c, .int .u8 (endR s).d, .int .u8 (endR s).e, .int .u8 (endR s).h, .int .u8 (endR s).l, .int .u16 (endR s).s, .int .u16 (endR s).p], .int .i64 0])) ∨ (¬ good s ∧ e = .returned (.tuple #[.agg #[.int .u8 0, .int .u8 0, .int .u8 0, .int .u8 0, .int .u8 0, .int .u8 0, .int .u8 0, .int .u8 0, .int .u16 0, .int .u16 0], .int .i64 6]))) ∧ Grown w w' := by
  go_enter Tryd.func7, Tryd.ntmps7
  go_wp2
  go_loopw [5] (fun i wr => ∃ k : Nat, k ≤ 6 ∧ i = .int .i64 (k : Int) ∧ (∀ j, j < k → PartOk s j) ∧ Has wr (w.heap.size + 1) #[.int .u8 (rst s k).a, .int .u8 (rst s k).f, .int .u8 (rst s k).b, .int .u8 (rst s k).c, .int .u8 (rst s k).d, .int .u8 (rst s k).e, .int .u8 (rst s k).h, .int .u8 (rst s k).l, .int .u16 (rst s k).s, .int .u16 (rst s k).p] ∧ Grown (w.alloc (.cells #[.int .u8 0, .int .u8 0, .int .u8 0, .int .u8 0, .int .u8 0, .int .u8 0, .int .u8 0, .int .u8 0, .int .u16 0, .int .u16 0] 25)) wr) (fun i _ => 6 - (intOf i).toNat)
  case atStart => exact ⟨0, Nat.zero_le _, rfl, fun j h => absurd h (by omega), (by have h := has_alloc (w.alloc (.cells #[.int .u8 0, .int .u8 0, .int .u8 0, .int .u8 0, .int .u8 0, .int .u8 0, .int .u8 0, .int .u8 0, .int .u16 0, .int .u16 0] 25)) #[.int .u8 0, .int .u8 0, .int .u8 0, .int .u8 0, .int .u8 0, .int .u8 0, .int .u8 0, .int .u8 0, .int .u16 0, .int .u16 0] 25; simp only [World.size_alloc] at h; exact h), (Grown.refl _).alloc _ _⟩
  case round =>
    obtain ⟨k, hk, rfl, hp, B, G⟩ := hrel
    have HP := hid hp
    have HB := hid B
    have GR := hid G
    have GG := hid (grown_trans (alloc1 w _ _) G)
    obtain ⟨zA, cA⟩ := has_grown G (has_alloc w _ _)
    have fA := fun o => grown_froz GG.out (Nat.le_refl w.heap.size) o
    have a0 := cA 0
    have a1 := cA 1
    have a2 := cA 2
    have a3 := cA 3
    have a4 := cA 4
    have a5 := cA 5
    have a6 := cA 6
    have a7 := cA 7
    have a8 := cA 8
    have a9 := cA 9
    simp at a0 a1 a2 a3 a4 a5 a6 a7 a8 a9
    clear hp B G cA
    by_cases hlt : k < 6
    · rcases (show k = 0 ∨ k = 1 ∨ k = 2 ∨ k = 3 ∨ k = 4 ∨ k = 5 by omega) with rfl | rfl | rfl | rfl | rfl | rfl
      · skip
        by_cases hb : byteAt s 7 = 32
        rotate_left
        · have NO := hid (good_no s 0 (by decide) (fun h => hb (h.1 (by decide))))
          obtain ⟨c, hc⟩ : ∃ c, byteAt s 7 = c := ⟨_, rfl⟩
          have ix := sign_run s 7 7 c (by rw [hs]; decide) rfl hc
          have cb : (c != 32) = true := by rw [← hc]; simp [hb]
          clear hb hc HB
          go_wp2
          go_quiet ((go_at_call 19; exact Calls.quiet_of_same (names_any 0 _ (by decide))))
          go_wp2
          exact bodyPost_ret (v := .tuple #[.agg #[.int .u8 0, .int .u8 0, .int .u8 0, .int .u8 0, .int .u8 0, .int .u8 0, .int .u8 0, .int .u8 0, .int .u16 0, .int .u16 0], .int .i64 6]) (by simp [results, Tryd.results7, go_sem, a0, a1, a2, a3, a4, a5, a6, a7, a8, a9, zA]) rfl ⟨.inr ⟨NO.out, rfl⟩, (((((((((((drewN1 GG.out).setCell (Nat.le_refl _) _).setCell (Nat.le_refl _) _).setCell (Nat.le_refl _) _).setCell (Nat.le_refl _) _).setCell (Nat.le_refl _) _).setCell (Nat.le_refl _) _).setCell (Nat.le_refl _) _).setCell (Nat.le_refl _) _).setCell (Nat.le_refl _) _).setCell (Nat.le_refl _) _)⟩
        have ix := sign_run s 7 7 32 (by rw [hs]; decide) rfl hb
        by_cases hm : s.extract 0 3 = name3 0
        rotate_left
        · have NO := hid (good_no s 0 (by decide) (fun h => hm h.2.1))
          have hl := list_ne hm
          clear hm hb HB
          go_wp2
          go_quiet ((go_at_call 19; exact Calls.quiet_of_same (names_any 0 _ (by decide))))
          go_wp2
          exact bodyPost_ret (v := .tuple #[.agg #[.int .u8 0, .int .u8 0, .int .u8 0, .int .u8 0, .int .u8 0, .int .u8 0, .int .u8 0, .int .u8 0, .int .u16 0, .int .u16 0], .int .i64 6]) (by simp [results, Tryd.results7, go_sem, a0, a1, a2, a3, a4, a5, a6, a7, a8, a9, zA]) rfl ⟨.inr ⟨NO.out, rfl⟩, (((((((((((drewN1 GG.out).setCell (Nat.le_refl _) _).setCell (Nat.le_refl _) _).setCell (Nat.le_refl _) _).setCell (Nat.le_refl _) _).setCell (Nat.le_refl _) _).setCell (Nat.le_refl _) _).setCell (Nat.le_refl _) _).setCell (Nat.le_refl _) _).setCell (Nat.le_refl _) _).setCell (Nat.le_refl _) _)⟩
        have hl : ((s.extract 0 3).toList == (name3 0).toList) = true := by rw [hm]; simp
        have BL := hid (show blankOk s 0 from fun _ => hb)
        have NM := hid (show nameOk s 0 from hm)
        clear hm hb
        go_wp2
        go_quiet ((go_at_call 19; exact Calls.quiet_of_same (names_any 0 _ (by decide))))
        go_wp2
        go_loopw [7] (fun kk wq => ∃ m : Nat, m ≤ 4 ∧ kk = .int .i64 (3 + (m : Int)) ∧ capsTo s 0 m ∧ ∃ nd : Nat, wq = wr.drewN nd) (fun kk _ => (7 - intOf kk).toNat)
        case atStart => exact ⟨0, Nat.zero_le _, rfl, fun i h => absurd h (by omega), _, rfl⟩
        case round =>
          obtain ⟨m, hm4, rfl, hcap, nd, rfl⟩ := hrel
          have HCAP := hid hcap
          clear hcap hl ix
          by_cases hm5 : m < 4
          · obtain ⟨c, hc⟩ : ∃ c, byteAt s (3 + m) = c := ⟨_, rfl⟩
            have iy := sign_run s (3 + m) (3 + (m : Int)) c (by rw [hs]; omega) (by omega) hc
            cases hcc : capOf c
            · have NO := hid (good_no s 0 (by decide) (fun h => by have := h.2.2.1 m hm5; rw [show 8 * 0 + 3 + m = 3 + m by omega, hc, hcc] at this; cases this))
              have CC := hid hcc
              clear hc hcc HB
              go_wp2_with (first | (go_at_call 20; refine (capital_any _ _).mono ?_; rintro e w' ⟨rfl, rfl⟩; rw [CC.out]))
              exact bodyPost_ret (v := .tuple #[.agg #[.int .u8 0, .int .u8 0, .int .u8 0, .int .u8 0, .int .u8 0, .int .u8 0, .int .u8 0, .int .u8 0, .int .u16 0, .int .u16 0], .int .i64 6]) (by simp [results, Tryd.results7, go_sem, a0, a1, a2, a3, a4, a5, a6, a7, a8, a9, zA]) rfl ⟨.inr ⟨NO.out, rfl⟩, (((((((((((drewN1 GG.out).setCell (Nat.le_refl _) _).setCell (Nat.le_refl _) _).setCell (Nat.le_refl _) _).setCell (Nat.le_refl _) _).setCell (Nat.le_refl _) _).setCell (Nat.le_refl _) _).setCell (Nat.le_refl _) _).setCell (Nat.le_refl _) _).setCell (Nat.le_refl _) _).setCell (Nat.le_refl _) _)⟩
            · have CC := hid hcc
              have CX := hid (show capsTo s 0 (m + 1) from fun i hi => by
                by_cases e : i = m
                · rw [e, show 8 * 0 + 3 + m = 3 + m by omega, hc]; exact hcc
                · exact HCAP.out i (by omega))
              clear hc hcc HB
              go_wp2_with (first | (go_at_call 20; refine (capital_any _ _).mono ?_; rintro e w' ⟨rfl, rfl⟩; rw [CC.out]))
              refine ⟨?_, ?measure⟩
              (repeat apply Exists.intro)
              (repeat apply Exists.intro)
              (repeat apply Exists.intro)
              (repeat apply Exists.intro)
              refine ⟨?rel, rfl⟩
              case rel => exact ⟨m + 1, by omega, by go_num, CX.out, nd, rfl⟩
              case measure => first | omega | (simp; omega) | (simp [intOf]; omega)
          · obtain rfl : m = 4 := by omega
            have z4 : (s.extract 3 7).size ≤ maxLen := by have := sl_size s 0 hs (by decide); unfold sl at this; rw [this]; decide
            obtain ⟨V, hV⟩ : ∃ V, wd s 0 = V := ⟨_, rfl⟩
            have WV := hid (show readVal (s.extract 3 7) 4 = V from hV)
            obtain ⟨v0, v1⟩ : 0 ≤ V ∧ V ≤ 65535 := by rw [← hV]; exact wd_bd s 0
            obtain ⟨Q, hQ⟩ : ∃ Q, rst s 0 = Q := ⟨_, rfl⟩
            have E := hid (show rst s 1 = putP 4 V Q by rw [← hV, ← hQ]; rfl)
            have BQ := HB.out
            rw [hQ] at BQ
            obtain ⟨zQ, cQ⟩ := id BQ
            have q0 := cQ 0
            have q1 := cQ 1
            have q2 := cQ 2
            have q3 := cQ 3
            have q4 := cQ 4
            have q5 := cQ 5
            have q6 := cQ 6
            have q7 := cQ 7
            have q8 := cQ 8
            have q9 := cQ 9
            simp at q0 q1 q2 q3 q4 q5 q6 q7 q8 q9
            have fQ := fun o => grown_froz GG.out (Nat.le_succ w.heap.size) o
            have HQ := hid BQ
            clear HB hQ cQ BQ
            by_cases hlow : V % 16 = 0
            rotate_left
            · have NO := hid (good_no s 0 (by decide) (fun h => hlow (by rw [← hV]; exact h.2.2.2 rfl)))
              have lw : (V % 16 != 0) = true := by simp [hlow]
              clear hV hlow
              go_wp2_with (first | (go_at_call 21; refine (rread_any _ _ _ z4).mono ?_; rintro e w' ⟨rfl, rfl⟩; rw [WV.out]))
              exact bodyPost_ret (v := .tuple #[.agg #[.int .u8 0, .int .u8 0, .int .u8 0, .int .u8 0, .int .u8 0, .int .u8 0, .int .u8 0, .int .u8 0, .int .u16 0, .int .u16 0], .int .i64 6]) (by simp [results, Tryd.results7, go_sem, a0, a1, a2, a3, a4, a5, a6, a7, a8, a9, zA]) rfl ⟨.inr ⟨NO.out, rfl⟩, (((((((((((drewN1 GG.out).setCell (Nat.le_refl _) _).setCell (Nat.le_refl _) _).setCell (Nat.le_refl _) _).setCell (Nat.le_refl _) _).setCell (Nat.le_refl _) _).setCell (Nat.le_refl _) _).setCell (Nat.le_refl _) _).setCell (Nat.le_refl _) _).setCell (Nat.le_refl _) _).setCell (Nat.le_refl _) _)⟩
            have lw : (V % 16 != 0) = false := by simp [hlow]
            have PK := hid (show PartOk s 0 from ⟨BL.out, NM.out, HCAP.out, fun _ => by rw [hV]; exact hlow⟩)
            clear hV hlow
            go_wp2_with (first | (go_at_call 21; refine (rread_any _ _ _ z4).mono ?_; rintro e w' ⟨rfl, rfl⟩; rw [WV.out]))
            refine (rputPair_any Q 4 V _ v0 v1).mono ?_
            rintro e u4 ⟨rfl, g4⟩
            obtain ⟨U, hU⟩ : ∃ U, putP 4 V Q = U := ⟨_, rfl⟩
            rw [hU] at E
            rw [hU]
            have HQ4 := hid (has_grown g4 HQ.out)
            obtain ⟨zU, cU⟩ := id HQ4.out
            have fU := fun o => grown_froz (grown_trans (drewN1 GG.out) g4) (Nat.le_succ w.heap.size) o
            clear hU
            go_wp2
            go_roundw
            case rel => exact ⟨1, by decide, by first | rfl | go_num, allp (k := 0) HP.out PK.out, by rw [E.out]; exact has_set10 HQ4.out _ _ _ _ _ _ _ _ _ _, ((((((((((grown_trans (drewN1 GR.out) g4).setCell (by simp) _).setCell (by simp) _).setCell (by simp) _).setCell (by simp) _).setCell (by simp) _).setCell (by simp) _).setCell (by simp) _).setCell (by simp) _).setCell (by simp) _).setCell (by simp) _⟩
            case measure => first | omega | (simp; omega) | (simp [intOf]; omega) | decide
      · skip
        by_cases hb : byteAt s 15 = 32
        rotate_left
        · have NO := hid (good_no s 1 (by decide) (fun h => hb (h.1 (by decide))))
          obtain ⟨c, hc⟩ : ∃ c, byteAt s 15 = c := ⟨_, rfl⟩
          have ix := sign_run s 15 15 c (by rw [hs]; decide) rfl hc
          have cb : (c != 32) = true := by rw [← hc]; simp [hb]
          clear hb hc HB
          go_wp2
          go_quiet ((go_at_call 19; exact Calls.quiet_of_same (names_any 1 _ (by decide))))
          go_wp2
          exact bodyPost_ret (v := .tuple #[.agg #[.int .u8 0, .int .u8 0, .int .u8 0, .int .u8 0, .int .u8 0, .int .u8 0, .int .u8 0, .int .u8 0, .int .u16 0, .int .u16 0], .int .i64 6]) (by simp [results, Tryd.results7, go_sem, a0, a1, a2, a3, a4, a5, a6, a7, a8, a9, zA]) rfl ⟨.inr ⟨NO.out, rfl⟩, (((((((((((drewN1 GG.out).setCell (Nat.le_refl _) _).setCell (Nat.le_refl _) _).setCell (Nat.le_refl _) _).setCell (Nat.le_refl _) _).setCell (Nat.le_refl _) _).setCell (Nat.le_refl _) _).setCell (Nat.le_refl _) _).setCell (Nat.le_refl _) _).setCell (Nat.le_refl _) _).setCell (Nat.le_refl _) _)⟩
        have ix := sign_run s 15 15 32 (by rw [hs]; decide) rfl hb
        by_cases hm : s.extract 8 11 = name3 1
        rotate_left
        · have NO := hid (good_no s 1 (by decide) (fun h => hm h.2.1))
          have hl := list_ne hm
          clear hm hb HB
          go_wp2
          go_quiet ((go_at_call 19; exact Calls.quiet_of_same (names_any 1 _ (by decide))))
          go_wp2
          exact bodyPost_ret (v := .tuple #[.agg #[.int .u8 0, .int .u8 0, .int .u8 0, .int .u8 0, .int .u8 0, .int .u8 0, .int .u8 0, .int .u8 0, .int .u16 0, .int .u16 0], .int .i64 6]) (by simp [results, Tryd.results7, go_sem, a0, a1, a2, a3, a4, a5, a6, a7, a8, a9, zA]) rfl ⟨.inr ⟨NO.out, rfl⟩, (((((((((((drewN1 GG.out).setCell (Nat.le_refl _) _).setCell (Nat.le_refl _) _).setCell (Nat.le_refl _) _).setCell (Nat.le_refl _) _).setCell (Nat.le_refl _) _).setCell (Nat.le_refl _) _).setCell (Nat.le_refl _) _).setCell (Nat.le_refl _) _).setCell (Nat.le_refl _) _).setCell (Nat.le_refl _) _)⟩
        have hl : ((s.extract 8 11).toList == (name3 1).toList) = true := by rw [hm]; simp
        have BL := hid (show blankOk s 1 from fun _ => hb)
        have NM := hid (show nameOk s 1 from hm)
        clear hm hb
        go_wp2
        go_quiet ((go_at_call 19; exact Calls.quiet_of_same (names_any 1 _ (by decide))))
        go_wp2
        go_loopw [7] (fun kk wq => ∃ m : Nat, m ≤ 4 ∧ kk = .int .i64 (11 + (m : Int)) ∧ capsTo s 1 m ∧ ∃ nd : Nat, wq = wr.drewN nd) (fun kk _ => (15 - intOf kk).toNat)
        case atStart => exact ⟨0, Nat.zero_le _, rfl, fun i h => absurd h (by omega), _, rfl⟩
        case round =>
          obtain ⟨m, hm4, rfl, hcap, nd, rfl⟩ := hrel
          have HCAP := hid hcap
          clear hcap hl ix
          by_cases hm5 : m < 4
          · obtain ⟨c, hc⟩ : ∃ c, byteAt s (11 + m) = c := ⟨_, rfl⟩
            have iy := sign_run s (11 + m) (11 + (m : Int)) c (by rw [hs]; omega) (by omega) hc
            cases hcc : capOf c
            · have NO := hid (good_no s 1 (by decide) (fun h => by have := h.2.2.1 m hm5; rw [show 8 * 1 + 3 + m = 11 + m by omega, hc, hcc] at this; cases this))
              have CC := hid hcc
              clear hc hcc HB
              go_wp2_with (first | (go_at_call 20; refine (capital_any _ _).mono ?_; rintro e w' ⟨rfl, rfl⟩; rw [CC.out]))
              exact bodyPost_ret (v := .tuple #[.agg #[.int .u8 0, .int .u8 0, .int .u8 0, .int .u8 0, .int .u8 0, .int .u8 0, .int .u8 0, .int .u8 0, .int .u16 0, .int .u16 0], .int .i64 6]) (by simp [results, Tryd.results7, go_sem, a0, a1, a2, a3, a4, a5, a6, a7, a8, a9, zA]) rfl ⟨.inr ⟨NO.out, rfl⟩, (((((((((((drewN1 GG.out).setCell (Nat.le_refl _) _).setCell (Nat.le_refl _) _).setCell (Nat.le_refl _) _).setCell (Nat.le_refl _) _).setCell (Nat.le_refl _) _).setCell (Nat.le_refl _) _).setCell (Nat.le_refl _) _).setCell (Nat.le_refl _) _).setCell (Nat.le_refl _) _).setCell (Nat.le_refl _) _)⟩
            · have CC := hid hcc
              have CX := hid (show capsTo s 1 (m + 1) from fun i hi => by
                by_cases e : i = m
                · rw [e, show 8 * 1 + 3 + m = 11 + m by omega, hc]; exact hcc
                · exact HCAP.out i (by omega))
              clear hc hcc HB
              go_wp2_with (first | (go_at_call 20; refine (capital_any _ _).mono ?_; rintro e w' ⟨rfl, rfl⟩; rw [CC.out]))
              refine ⟨?_, ?measure⟩
              (repeat apply Exists.intro)
              (repeat apply Exists.intro)
              (repeat apply Exists.intro)
              (repeat apply Exists.intro)
              refine ⟨?rel, rfl⟩
              case rel => exact ⟨m + 1, by omega, by go_num, CX.out, nd, rfl⟩
              case measure => first | omega | (simp; omega) | (simp [intOf]; omega)
          · obtain rfl : m = 4 := by omega
            have z4 : (s.extract 11 15).size ≤ maxLen := by have := sl_size s 1 hs (by decide); unfold sl at this; rw [this]; decide
            obtain ⟨V, hV⟩ : ∃ V, wd s 1 = V := ⟨_, rfl⟩
            have WV := hid (show readVal (s.extract 11 15) 4 = V from hV)
            obtain ⟨v0, v1⟩ : 0 ≤ V ∧ V ≤ 65535 := by rw [← hV]; exact wd_bd s 1
            obtain ⟨Q, hQ⟩ : ∃ Q, rst s 1 = Q := ⟨_, rfl⟩
            have E := hid (show rst s 2 = putP 0 V Q by rw [← hV, ← hQ]; rfl)
            have BQ := HB.out
            rw [hQ] at BQ
            obtain ⟨zQ, cQ⟩ := id BQ
            have q0 := cQ 0
            have q1 := cQ 1
            have q2 := cQ 2
            have q3 := cQ 3
            have q4 := cQ 4
            have q5 := cQ 5
            have q6 := cQ 6
            have q7 := cQ 7
            have q8 := cQ 8
            have q9 := cQ 9
            simp at q0 q1 q2 q3 q4 q5 q6 q7 q8 q9
            have fQ := fun o => grown_froz GG.out (Nat.le_succ w.heap.size) o
            have HQ := hid BQ
            clear HB hQ cQ BQ
            have PK := hid (show PartOk s 1 from ⟨BL.out, NM.out, HCAP.out, fun h => absurd h (by decide)⟩)
            clear hV
            go_wp2_with (first | (go_at_call 21; refine (rread_any _ _ _ z4).mono ?_; rintro e w' ⟨rfl, rfl⟩; rw [WV.out]))
            refine (rputPair_any Q 0 V _ v0 v1).mono ?_
            rintro e u4 ⟨rfl, g4⟩
            obtain ⟨U, hU⟩ : ∃ U, putP 0 V Q = U := ⟨_, rfl⟩
            rw [hU] at E
            rw [hU]
            have HQ4 := hid (has_grown g4 HQ.out)
            obtain ⟨zU, cU⟩ := id HQ4.out
            have fU := fun o => grown_froz (grown_trans (drewN1 GG.out) g4) (Nat.le_succ w.heap.size) o
            clear hU
            go_wp2
            go_roundw
            case rel => exact ⟨2, by decide, by first | rfl | go_num, allp (k := 1) HP.out PK.out, by rw [E.out]; exact has_set10 HQ4.out _ _ _ _ _ _ _ _ _ _, ((((((((((grown_trans (drewN1 GR.out) g4).setCell (by simp) _).setCell (by simp) _).setCell (by simp) _).setCell (by simp) _).setCell (by simp) _).setCell (by simp) _).setCell (by simp) _).setCell (by simp) _).setCell (by simp) _).setCell (by simp) _⟩
            case measure => first | omega | (simp; omega) | (simp [intOf]; omega) | decide
      · skip
        by_cases hb : byteAt s 23 = 32
        rotate_left
        · have NO := hid (good_no s 2 (by decide) (fun h => hb (h.1 (by decide))))
          obtain ⟨c, hc⟩ : ∃ c, byteAt s 23 = c := ⟨_, rfl⟩
          have ix := sign_run s 23 23 c (by rw [hs]; decide) rfl hc
          have cb : (c != 32) = true := by rw [← hc]; simp [hb]
          clear hb hc HB
          go_wp2
          go_quiet ((go_at_call 19; exact Calls.quiet_of_same (names_any 2 _ (by decide))))
          go_wp2
          exact bodyPost_ret (v := .tuple #[.agg #[.int .u8 0, .int .u8 0, .int .u8 0, .int .u8 0, .int .u8 0, .int .u8 0, .int .u8 0, .int .u8 0, .int .u16 0, .int .u16 0], .int .i64 6]) (by simp [results, Tryd.results7, go_sem, a0, a1, a2, a3, a4, a5, a6, a7, a8, a9, zA]) rfl ⟨.inr ⟨NO.out, rfl⟩, (((((((((((drewN1 GG.out).setCell (Nat.le_refl _) _).setCell (Nat.le_refl _) _).setCell (Nat.le_refl _) _).setCell (Nat.le_refl _) _).setCell (Nat.le_refl _) _).setCell (Nat.le_refl _) _).setCell (Nat.le_refl _) _).setCell (Nat.le_refl _) _).setCell (Nat.le_refl _) _).setCell (Nat.le_refl _) _)⟩
        have ix := sign_run s 23 23 32 (by rw [hs]; decide) rfl hb
        by_cases hm : s.extract 16 19 = name3 2
        rotate_left
        · have NO := hid (good_no s 2 (by decide) (fun h => hm h.2.1))
          have hl := list_ne hm
          clear hm hb HB
          go_wp2
          go_quiet ((go_at_call 19; exact Calls.quiet_of_same (names_any 2 _ (by decide))))
          go_wp2
          exact bodyPost_ret (v := .tuple #[.agg #[.int .u8 0, .int .u8 0, .int .u8 0, .int .u8 0, .int .u8 0, .int .u8 0, .int .u8 0, .int .u8 0, .int .u16 0, .int .u16 0], .int .i64 6]) (by simp [results, Tryd.results7, go_sem, a0, a1, a2, a3, a4, a5, a6, a7, a8, a9, zA]) rfl ⟨.inr ⟨NO.out, rfl⟩, (((((((((((drewN1 GG.out).setCell (Nat.le_refl _) _).setCell (Nat.le_refl _) _).setCell (Nat.le_refl _) _).setCell (Nat.le_refl _) _).setCell (Nat.le_refl _) _).setCell (Nat.le_refl _) _).setCell (Nat.le_refl _) _).setCell (Nat.le_refl _) _).setCell (Nat.le_refl _) _).setCell (Nat.le_refl _) _)⟩
        have hl : ((s.extract 16 19).toList == (name3 2).toList) = true := by rw [hm]; simp
        have BL := hid (show blankOk s 2 from fun _ => hb)
        have NM := hid (show nameOk s 2 from hm)
        clear hm hb
        go_wp2
        go_quiet ((go_at_call 19; exact Calls.quiet_of_same (names_any 2 _ (by decide))))
        go_wp2
        go_loopw [7] (fun kk wq => ∃ m : Nat, m ≤ 4 ∧ kk = .int .i64 (19 + (m : Int)) ∧ capsTo s 2 m ∧ ∃ nd : Nat, wq = wr.drewN nd) (fun kk _ => (23 - intOf kk).toNat)
        case atStart => exact ⟨0, Nat.zero_le _, rfl, fun i h => absurd h (by omega), _, rfl⟩
        case round =>
          obtain ⟨m, hm4, rfl, hcap, nd, rfl⟩ := hrel
          have HCAP := hid hcap
          clear hcap hl ix
          by_cases hm5 : m < 4
          · obtain ⟨c, hc⟩ : ∃ c, byteAt s (19 + m) = c := ⟨_, rfl⟩
            have iy := sign_run s (19 + m) (19 + (m : Int)) c (by rw [hs]; omega) (by omega) hc
            cases hcc : capOf c
            · have NO := hid (good_no s 2 (by decide) (fun h => by have := h.2.2.1 m hm5; rw [show 8 * 2 + 3 + m = 19 + m by omega, hc, hcc] at this; cases this))
              have CC := hid hcc
              clear hc hcc HB
              go_wp2_with (first | (go_at_call 20; refine (capital_any _ _).mono ?_; rintro e w' ⟨rfl, rfl⟩; rw [CC.out]))
              exact bodyPost_ret (v := .tuple #[.agg #[.int .u8 0, .int .u8 0, .int .u8 0, .int .u8 0, .int .u8 0, .int .u8 0, .int .u8 0, .int .u8 0, .int .u16 0, .int .u16 0], .int .i64 6]) (by simp [results, Tryd.results7, go_sem, a0, a1, a2, a3, a4, a5, a6, a7, a8, a9, zA]) rfl ⟨.inr ⟨NO.out, rfl⟩, (((((((((((drewN1 GG.out).setCell (Nat.le_refl _) _).setCell (Nat.le_refl _) _).setCell (Nat.le_refl _) _).setCell (Nat.le_refl _) _).setCell (Nat.le_refl _) _).setCell (Nat.le_refl _) _).setCell (Nat.le_refl _) _).setCell (Nat.le_refl _) _).setCell (Nat.le_refl _) _).setCell (Nat.le_refl _) _)⟩
            · have CC := hid hcc
              have CX := hid (show capsTo s 2 (m + 1) from fun i hi => by
                by_cases e : i = m
                · rw [e, show 8 * 2 + 3 + m = 19 + m by omega, hc]; exact hcc
                · exact HCAP.out i (by omega))
              clear hc hcc HB
              go_wp2_with (first | (go_at_call 20; refine (capital_any _ _).mono ?_; rintro e w' ⟨rfl, rfl⟩; rw [CC.out]))
              refine ⟨?_, ?measure⟩
              (repeat apply Exists.intro)
              (repeat apply Exists.intro)
              (repeat apply Exists.intro)
              (repeat apply Exists.intro)
              refine ⟨?rel, rfl⟩
              case rel => exact ⟨m + 1, by omega, by go_num, CX.out, nd, rfl⟩
              case measure => first | omega | (simp; omega) | (simp [intOf]; omega)
          · obtain rfl : m = 4 := by omega
            have z4 : (s.extract 19 23).size ≤ maxLen := by have := sl_size s 2 hs (by decide); unfold sl at this; rw [this]; decide
            obtain ⟨V, hV⟩ : ∃ V, wd s 2 = V := ⟨_, rfl⟩
            have WV := hid (show readVal (s.extract 19 23) 4 = V from hV)
            obtain ⟨v0, v1⟩ : 0 ≤ V ∧ V ≤ 65535 := by rw [← hV]; exact wd_bd s 2
            obtain ⟨Q, hQ⟩ : ∃ Q, rst s 2 = Q := ⟨_, rfl⟩
            have E := hid (show rst s 3 = putP 1 V Q by rw [← hV, ← hQ]; rfl)
            have BQ := HB.out
            rw [hQ] at BQ
            obtain ⟨zQ, cQ⟩ := id BQ
            have q0 := cQ 0
            have q1 := cQ 1
            have q2 := cQ 2
            have q3 := cQ 3
            have q4 := cQ 4
            have q5 := cQ 5
            have q6 := cQ 6
            have q7 := cQ 7
            have q8 := cQ 8
            have q9 := cQ 9
            simp at q0 q1 q2 q3 q4 q5 q6 q7 q8 q9
            have fQ := fun o => grown_froz GG.out (Nat.le_succ w.heap.size) o
            have HQ := hid BQ
            clear HB hQ cQ BQ
            have PK := hid (show PartOk s 2 from ⟨BL.out, NM.out, HCAP.out, fun h => absurd h (by decide)⟩)
            clear hV
            go_wp2_with (first | (go_at_call 21; refine (rread_any _ _ _ z4).mono ?_; rintro e w' ⟨rfl, rfl⟩; rw [WV.out]))
            refine (rputPair_any Q 1 V _ v0 v1).mono ?_
            rintro e u4 ⟨rfl, g4⟩
            obtain ⟨U, hU⟩ : ∃ U, putP 1 V Q = U := ⟨_, rfl⟩
            rw [hU] at E
            rw [hU]
            have HQ4 := hid (has_grown g4 HQ.out)
            obtain ⟨zU, cU⟩ := id HQ4.out
            have fU := fun o => grown_froz (grown_trans (drewN1 GG.out) g4) (Nat.le_succ w.heap.size) o
            clear hU
            go_wp2
            go_roundw
            case rel => exact ⟨3, by decide, by first | rfl | go_num, allp (k := 2) HP.out PK.out, by rw [E.out]; exact has_set10 HQ4.out _ _ _ _ _ _ _ _ _ _, ((((((((((grown_trans (drewN1 GR.out) g4).setCell (by simp) _).setCell (by simp) _).setCell (by simp) _).setCell (by simp) _).setCell (by simp) _).setCell (by simp) _).setCell (by simp) _).setCell (by simp) _).setCell (by simp) _).setCell (by simp) _⟩
            case measure => first | omega | (simp; omega) | (simp [intOf]; omega) | decide
      · skip
        by_cases hb : byteAt s 31 = 32
        rotate_left
        · have NO := hid (good_no s 3 (by decide) (fun h => hb (h.1 (by decide))))
          obtain ⟨c, hc⟩ : ∃ c, byteAt s 31 = c := ⟨_, rfl⟩
          have ix := sign_run s 31 31 c (by rw [hs]; decide) rfl hc
          have cb : (c != 32) = true := by rw [← hc]; simp [hb]
          clear hb hc HB
          go_wp2
          go_quiet ((go_at_call 19; exact Calls.quiet_of_same (names_any 3 _ (by decide))))
          go_wp2
          exact bodyPost_ret (v := .tuple #[.agg #[.int .u8 0, .int .u8 0, .int .u8 0, .int .u8 0, .int .u8 0, .int .u8 0, .int .u8 0, .int .u8 0, .int .u16 0, .int .u16 0], .int .i64 6]) (by simp [results, Tryd.results7, go_sem, a0, a1, a2, a3, a4, a5, a6, a7, a8, a9, zA]) rfl ⟨.inr ⟨NO.out, rfl⟩, (((((((((((drewN1 GG.out).setCell (Nat.le_refl _) _).setCell (Nat.le_refl _) _).setCell (Nat.le_refl _) _).setCell (Nat.le_refl _) _).setCell (Nat.le_refl _) _).setCell (Nat.le_refl _) _).setCell (Nat.le_refl _) _).setCell (Nat.le_refl _) _).setCell (Nat.le_refl _) _).setCell (Nat.le_refl _) _)⟩
        have ix := sign_run s 31 31 32 (by rw [hs]; decide) rfl hb
        by_cases hm : s.extract 24 27 = name3 3
        rotate_left
        · have NO := hid (good_no s 3 (by decide) (fun h => hm h.2.1))
          have hl := list_ne hm
          clear hm hb HB
          go_wp2
          go_quiet ((go_at_call 19; exact Calls.quiet_of_same (names_any 3 _ (by decide))))
          go_wp2
          exact bodyPost_ret (v := .tuple #[.agg #[.int .u8 0, .int .u8 0, .int .u8 0, .int .u8 0, .int .u8 0, .int .u8 0, .int .u8 0, .int .u8 0, .int .u16 0, .int .u16 0], .int .i64 6]) (by simp [results, Tryd.results7, go_sem, a0, a1, a2, a3, a4, a5, a6, a7, a8, a9, zA]) rfl ⟨.inr ⟨NO.out, rfl⟩, (((((((((((drewN1 GG.out).setCell (Nat.le_refl _) _).setCell (Nat.le_refl _) _).setCell (Nat.le_refl _) _).setCell (Nat.le_refl _) _).setCell (Nat.le_refl _) _).setCell (Nat.le_refl _) _).setCell (Nat.le_refl _) _).setCell (Nat.le_refl _) _).setCell (Nat.le_refl _) _).setCell (Nat.le_refl _) _)⟩
        have hl : ((s.extract 24 27).toList == (name3 3).toList) = true := by rw [hm]; simp
        have BL := hid (show blankOk s 3 from fun _ => hb)
        have NM := hid (show nameOk s 3 from hm)
        clear hm hb
        go_wp2
        go_quiet ((go_at_call 19; exact Calls.quiet_of_same (names_any 3 _ (by decide))))
        go_wp2
        go_loopw [7] (fun kk wq => ∃ m : Nat, m ≤ 4 ∧ kk = .int .i64 (27 + (m : Int)) ∧ capsTo s 3 m ∧ ∃ nd : Nat, wq = wr.drewN nd) (fun kk _ => (31 - intOf kk).toNat)
        case atStart => exact ⟨0, Nat.zero_le _, rfl, fun i h => absurd h (by omega), _, rfl⟩
        case round =>
          obtain ⟨m, hm4, rfl, hcap, nd, rfl⟩ := hrel
          have HCAP := hid hcap
          clear hcap hl ix
          by_cases hm5 : m < 4
          · obtain ⟨c, hc⟩ : ∃ c, byteAt s (27 + m) = c := ⟨_, rfl⟩
            have iy := sign_run s (27 + m) (27 + (m : Int)) c (by rw [hs]; omega) (by omega) hc
            cases hcc : capOf c
            · have NO := hid (good_no s 3 (by decide) (fun h => by have := h.2.2.1 m hm5; rw [show 8 * 3 + 3 + m = 27 + m by omega, hc, hcc] at this; cases this))
              have CC := hid hcc
              clear hc hcc HB
              go_wp2_with (first | (go_at_call 20; refine (capital_any _ _).mono ?_; rintro e w' ⟨rfl, rfl⟩; rw [CC.out]))
              exact bodyPost_ret (v := .tuple #[.agg #[.int .u8 0, .int .u8 0, .int .u8 0, .int .u8 0, .int .u8 0, .int .u8 0, .int .u8 0, .int .u8 0, .int .u16 0, .int .u16 0], .int .i64 6]) (by simp [results, Tryd.results7, go_sem, a0, a1, a2, a3, a4, a5, a6, a7, a8, a9, zA]) rfl ⟨.inr ⟨NO.out, rfl⟩, (((((((((((drewN1 GG.out).setCell (Nat.le_refl _) _).setCell (Nat.le_refl _) _).setCell (Nat.le_refl _) _).setCell (Nat.le_refl _) _).setCell (Nat.le_refl _) _).setCell (Nat.le_refl _) _).setCell (Nat.le_refl _) _).setCell (Nat.le_refl _) _).setCell (Nat.le_refl _) _).setCell (Nat.le_refl _) _)⟩
            · have CC := hid hcc
              have CX := hid (show capsTo s 3 (m + 1) from fun i hi => by
                by_cases e : i = m
                · rw [e, show 8 * 3 + 3 + m = 27 + m by omega, hc]; exact hcc
                · exact HCAP.out i (by omega))
              clear hc hcc HB
              go_wp2_with (first | (go_at_call 20; refine (capital_any _ _).mono ?_; rintro e w' ⟨rfl, rfl⟩; rw [CC.out]))
              refine ⟨?_, ?measure⟩
              (repeat apply Exists.intro)
              (repeat apply Exists.intro)
              (repeat apply Exists.intro)
              (repeat apply Exists.intro)
              refine ⟨?rel, rfl⟩
              case rel => exact ⟨m + 1, by omega, by go_num, CX.out, nd, rfl⟩
              case measure => first | omega | (simp; omega) | (simp [intOf]; omega)
          · obtain rfl : m = 4 := by omega
            have z4 : (s.extract 27 31).size ≤ maxLen := by have := sl_size s 3 hs (by decide); unfold sl at this; rw [this]; decide
            obtain ⟨V, hV⟩ : ∃ V, wd s 3 = V := ⟨_, rfl⟩
            have WV := hid (show readVal (s.extract 27 31) 4 = V from hV)
            obtain ⟨v0, v1⟩ : 0 ≤ V ∧ V ≤ 65535 := by rw [← hV]; exact wd_bd s 3
            obtain ⟨Q, hQ⟩ : ∃ Q, rst s 3 = Q := ⟨_, rfl⟩
            have E := hid (show rst s 4 = putP 2 V Q by rw [← hV, ← hQ]; rfl)
            have BQ := HB.out
            rw [hQ] at BQ
            obtain ⟨zQ, cQ⟩ := id BQ
            have q0 := cQ 0
            have q1 := cQ 1
            have q2 := cQ 2
            have q3 := cQ 3
            have q4 := cQ 4
            have q5 := cQ 5
            have q6 := cQ 6
            have q7 := cQ 7
            have q8 := cQ 8
            have q9 := cQ 9
            simp at q0 q1 q2 q3 q4 q5 q6 q7 q8 q9
            have fQ := fun o => grown_froz GG.out (Nat.le_succ w.heap.size) o
            have HQ := hid BQ
            clear HB hQ cQ BQ
            have PK := hid (show PartOk s 3 from ⟨BL.out, NM.out, HCAP.out, fun h => absurd h (by decide)⟩)
            clear hV
            go_wp2_with (first | (go_at_call 21; refine (rread_any _ _ _ z4).mono ?_; rintro e w' ⟨rfl, rfl⟩; rw [WV.out]))
            refine (rputPair_any Q 2 V _ v0 v1).mono ?_
            rintro e u4 ⟨rfl, g4⟩
            obtain ⟨U, hU⟩ : ∃ U, putP 2 V Q = U := ⟨_, rfl⟩
            rw [hU] at E
            rw [hU]
            have HQ4 := hid (has_grown g4 HQ.out)
            obtain ⟨zU, cU⟩ := id HQ4.out
            have fU := fun o => grown_froz (grown_trans (drewN1 GG.out) g4) (Nat.le_succ w.heap.size) o
            clear hU
            go_wp2
            go_roundw
            case rel => exact ⟨4, by decide, by first | rfl | go_num, allp (k := 3) HP.out PK.out, by rw [E.out]; exact has_set10 HQ4.out _ _ _ _ _ _ _ _ _ _, ((((((((((grown_trans (drewN1 GR.out) g4).setCell (by simp) _).setCell (by simp) _).setCell (by simp) _).setCell (by simp) _).setCell (by simp) _).setCell (by simp) _).setCell (by simp) _).setCell (by simp) _).setCell (by simp) _).setCell (by simp) _⟩
            case measure => first | omega | (simp; omega) | (simp [intOf]; omega) | decide
      · skip
        by_cases hb : byteAt s 39 = 32
        rotate_left
        · have NO := hid (good_no s 4 (by decide) (fun h => hb (h.1 (by decide))))
          obtain ⟨c, hc⟩ : ∃ c, byteAt s 39 = c := ⟨_, rfl⟩
          have ix := sign_run s 39 39 c (by rw [hs]; decide) rfl hc
          have cb : (c != 32) = true := by rw [← hc]; simp [hb]
          clear hb hc HB
          go_wp2
          go_quiet ((go_at_call 19; exact Calls.quiet_of_same (names_any 4 _ (by decide))))
          go_wp2
          exact bodyPost_ret (v := .tuple #[.agg #[.int .u8 0, .int .u8 0, .int .u8 0, .int .u8 0, .int .u8 0, .int .u8 0, .int .u8 0, .int .u8 0, .int .u16 0, .int .u16 0], .int .i64 6]) (by simp [results, Tryd.results7, go_sem, a0, a1, a2, a3, a4, a5, a6, a7, a8, a9, zA]) rfl ⟨.inr ⟨NO.out, rfl⟩, (((((((((((drewN1 GG.out).setCell (Nat.le_refl _) _).setCell (Nat.le_refl _) _).setCell (Nat.le_refl _) _).setCell (Nat.le_refl _) _).setCell (Nat.le_refl _) _).setCell (Nat.le_refl _) _).setCell (Nat.le_refl _) _).setCell (Nat.le_refl _) _).setCell (Nat.le_refl _) _).setCell (Nat.le_refl _) _)⟩
        have ix := sign_run s 39 39 32 (by rw [hs]; decide) rfl hb
        by_cases hm : s.extract 32 35 = name3 4
        rotate_left
        · have NO := hid (good_no s 4 (by decide) (fun h => hm h.2.1))
          have hl := list_ne hm
          clear hm hb HB
          go_wp2
          go_quiet ((go_at_call 19; exact Calls.quiet_of_same (names_any 4 _ (by decide))))
          go_wp2
          exact bodyPost_ret (v := .tuple #[.agg #[.int .u8 0, .int .u8 0, .int .u8 0, .int .u8 0, .int .u8 0, .int .u8 0, .int .u8 0, .int .u8 0, .int .u16 0, .int .u16 0], .int .i64 6]) (by simp [results, Tryd.results7, go_sem, a0, a1, a2, a3, a4, a5, a6, a7, a8, a9, zA]) rfl ⟨.inr ⟨NO.out, rfl⟩, (((((((((((drewN1 GG.out).setCell (Nat.le_refl _) _).setCell (Nat.le_refl _) _).setCell (Nat.le_refl _) _).setCell (Nat.le_refl _) _).setCell (Nat.le_refl _) _).setCell (Nat.le_refl _) _).setCell (Nat.le_refl _) _).setCell (Nat.le_refl _) _).setCell (Nat.le_refl _) _).setCell (Nat.le_refl _) _)⟩
        have hl : ((s.extract 32 35).toList == (name3 4).toList) = true := by rw [hm]; simp
        have BL := hid (show blankOk s 4 from fun _ => hb)
        have NM := hid (show nameOk s 4 from hm)
        clear hm hb
        go_wp2
        go_quiet ((go_at_call 19; exact Calls.quiet_of_same (names_any 4 _ (by decide))))
        go_wp2
        go_loopw [7] (fun kk wq => ∃ m : Nat, m ≤ 4 ∧ kk = .int .i64 (35 + (m : Int)) ∧ capsTo s 4 m ∧ ∃ nd : Nat, wq = wr.drewN nd) (fun kk _ => (39 - intOf kk).toNat)
        case atStart => exact ⟨0, Nat.zero_le _, rfl, fun i h => absurd h (by omega), _, rfl⟩
        case round =>
          obtain ⟨m, hm4, rfl, hcap, nd, rfl⟩ := hrel
          have HCAP := hid hcap
          clear hcap hl ix
          by_cases hm5 : m < 4
          · obtain ⟨c, hc⟩ : ∃ c, byteAt s (35 + m) = c := ⟨_, rfl⟩
            have iy := sign_run s (35 + m) (35 + (m : Int)) c (by rw [hs]; omega) (by omega) hc
            cases hcc : capOf c
            · have NO := hid (good_no s 4 (by decide) (fun h => by have := h.2.2.1 m hm5; rw [show 8 * 4 + 3 + m = 35 + m by omega, hc, hcc] at this; cases this))
              have CC := hid hcc
              clear hc hcc HB
              go_wp2_with (first | (go_at_call 20; refine (capital_any _ _).mono ?_; rintro e w' ⟨rfl, rfl⟩; rw [CC.out]))
              exact bodyPost_ret (v := .tuple #[.agg #[.int .u8 0, .int .u8 0, .int .u8 0, .int .u8 0, .int .u8 0, .int .u8 0, .int .u8 0, .int .u8 0, .int .u16 0, .int .u16 0], .int .i64 6]) (by simp [results, Tryd.results7, go_sem, a0, a1, a2, a3, a4, a5, a6, a7, a8, a9, zA]) rfl ⟨.inr ⟨NO.out, rfl⟩, (((((((((((drewN1 GG.out).setCell (Nat.le_refl _) _).setCell (Nat.le_refl _) _).setCell (Nat.le_refl _) _).setCell (Nat.le_refl _) _).setCell (Nat.le_refl _) _).setCell (Nat.le_refl _) _).setCell (Nat.le_refl _) _).setCell (Nat.le_refl _) _).setCell (Nat.le_refl _) _).setCell (Nat.le_refl _) _)⟩
            · have CC := hid hcc
              have CX := hid (show capsTo s 4 (m + 1) from fun i hi => by
                by_cases e : i = m
                · rw [e, show 8 * 4 + 3 + m = 35 + m by omega, hc]; exact hcc
                · exact HCAP.out i (by omega))
              clear hc hcc HB
              go_wp2_with (first | (go_at_call 20; refine (capital_any _ _).mono ?_; rintro e w' ⟨rfl, rfl⟩; rw [CC.out]))
              refine ⟨?_, ?measure⟩
              (repeat apply Exists.intro)
              (repeat apply Exists.intro)
              (repeat apply Exists.intro)
              (repeat apply Exists.intro)
              refine ⟨?rel, rfl⟩
              case rel => exact ⟨m + 1, by omega, by go_num, CX.out, nd, rfl⟩
              case measure => first | omega | (simp; omega) | (simp [intOf]; omega)
          · obtain rfl : m = 4 := by omega
            have z4 : (s.extract 35 39).size ≤ maxLen := by have := sl_size s 4 hs (by decide); unfold sl at this; rw [this]; decide
            obtain ⟨V, hV⟩ : ∃ V, wd s 4 = V := ⟨_, rfl⟩
            have WV := hid (show readVal (s.extract 35 39) 4 = V from hV)
            obtain ⟨v0, v1⟩ : 0 ≤ V ∧ V ≤ 65535 := by rw [← hV]; exact wd_bd s 4
            obtain ⟨Q, hQ⟩ : ∃ Q, rst s 4 = Q := ⟨_, rfl⟩
            have E := hid (show rst s 5 = putP 3 V Q by rw [← hV, ← hQ]; rfl)
            have BQ := HB.out
            rw [hQ] at BQ
            obtain ⟨zQ, cQ⟩ := id BQ
            have q0 := cQ 0
            have q1 := cQ 1
            have q2 := cQ 2
            have q3 := cQ 3
            have q4 := cQ 4
            have q5 := cQ 5
            have q6 := cQ 6
            have q7 := cQ 7
            have q8 := cQ 8
            have q9 := cQ 9
            simp at q0 q1 q2 q3 q4 q5 q6 q7 q8 q9
            have fQ := fun o => grown_froz GG.out (Nat.le_succ w.heap.size) o
            have HQ := hid BQ
            clear HB hQ cQ BQ
            have PK := hid (show PartOk s 4 from ⟨BL.out, NM.out, HCAP.out, fun h => absurd h (by decide)⟩)
            clear hV
            go_wp2_with (first | (go_at_call 21; refine (rread_any _ _ _ z4).mono ?_; rintro e w' ⟨rfl, rfl⟩; rw [WV.out]))
            refine (rputPair_any Q 3 V _ v0 v1).mono ?_
            rintro e u4 ⟨rfl, g4⟩
            obtain ⟨U, hU⟩ : ∃ U, putP 3 V Q = U := ⟨_, rfl⟩
            rw [hU] at E
            rw [hU]
            have HQ4 := hid (has_grown g4 HQ.out)
            obtain ⟨zU, cU⟩ := id HQ4.out
            have fU := fun o => grown_froz (grown_trans (drewN1 GG.out) g4) (Nat.le_succ w.heap.size) o
            clear hU
            go_wp2
            go_roundw
            case rel => exact ⟨5, by decide, by first | rfl | go_num, allp (k := 4) HP.out PK.out, by rw [E.out]; exact has_set10 HQ4.out _ _ _ _ _ _ _ _ _ _, ((((((((((grown_trans (drewN1 GR.out) g4).setCell (by simp) _).setCell (by simp) _).setCell (by simp) _).setCell (by simp) _).setCell (by simp) _).setCell (by simp) _).setCell (by simp) _).setCell (by simp) _).setCell (by simp) _).setCell (by simp) _⟩
            case measure => first | omega | (simp; omega) | (simp [intOf]; omega) | decide
      · skip
        by_cases hm : s.extract 40 43 = name3 5
        rotate_left
        · have NO := hid (good_no s 5 (by decide) (fun h => hm h.2.1))
          have hl := list_ne hm
          clear hm HB
          go_wp2
          go_quiet ((go_at_call 19; exact Calls.quiet_of_same (names_any 5 _ (by decide))))
          go_wp2
          exact bodyPost_ret (v := .tuple #[.agg #[.int .u8 0, .int .u8 0, .int .u8 0, .int .u8 0, .int .u8 0, .int .u8 0, .int .u8 0, .int .u8 0, .int .u16 0, .int .u16 0], .int .i64 6]) (by simp [results, Tryd.results7, go_sem, a0, a1, a2, a3, a4, a5, a6, a7, a8, a9, zA]) rfl ⟨.inr ⟨NO.out, rfl⟩, (((((((((((drewN1 GG.out).setCell (Nat.le_refl _) _).setCell (Nat.le_refl _) _).setCell (Nat.le_refl _) _).setCell (Nat.le_refl _) _).setCell (Nat.le_refl _) _).setCell (Nat.le_refl _) _).setCell (Nat.le_refl _) _).setCell (Nat.le_refl _) _).setCell (Nat.le_refl _) _).setCell (Nat.le_refl _) _)⟩
        have hl : ((s.extract 40 43).toList == (name3 5).toList) = true := by rw [hm]; simp
        have BL := hid (show blankOk s 5 from fun h => absurd h (by decide))
        have NM := hid (show nameOk s 5 from hm)
        clear hm
        go_wp2
        go_quiet ((go_at_call 19; exact Calls.quiet_of_same (names_any 5 _ (by decide))))
        go_wp2
        go_loopw [7] (fun kk wq => ∃ m : Nat, m ≤ 4 ∧ kk = .int .i64 (43 + (m : Int)) ∧ capsTo s 5 m ∧ ∃ nd : Nat, wq = wr.drewN nd) (fun kk _ => (47 - intOf kk).toNat)
        case atStart => exact ⟨0, Nat.zero_le _, rfl, fun i h => absurd h (by omega), _, rfl⟩
        case round =>
          obtain ⟨m, hm4, rfl, hcap, nd, rfl⟩ := hrel
          have HCAP := hid hcap
          clear hcap hl
          by_cases hm5 : m < 4
          · obtain ⟨c, hc⟩ : ∃ c, byteAt s (43 + m) = c := ⟨_, rfl⟩
            have iy := sign_run s (43 + m) (43 + (m : Int)) c (by rw [hs]; omega) (by omega) hc
            cases hcc : capOf c
            · have NO := hid (good_no s 5 (by decide) (fun h => by have := h.2.2.1 m hm5; rw [show 8 * 5 + 3 + m = 43 + m by omega, hc, hcc] at this; cases this))
              have CC := hid hcc
              clear hc hcc HB
              go_wp2_with (first | (go_at_call 20; refine (capital_any _ _).mono ?_; rintro e w' ⟨rfl, rfl⟩; rw [CC.out]))
              exact bodyPost_ret (v := .tuple #[.agg #[.int .u8 0, .int .u8 0, .int .u8 0, .int .u8 0, .int .u8 0, .int .u8 0, .int .u8 0, .int .u8 0, .int .u16 0, .int .u16 0], .int .i64 6]) (by simp [results, Tryd.results7, go_sem, a0, a1, a2, a3, a4, a5, a6, a7, a8, a9, zA]) rfl ⟨.inr ⟨NO.out, rfl⟩, (((((((((((drewN1 GG.out).setCell (Nat.le_refl _) _).setCell (Nat.le_refl _) _).setCell (Nat.le_refl _) _).setCell (Nat.le_refl _) _).setCell (Nat.le_refl _) _).setCell (Nat.le_refl _) _).setCell (Nat.le_refl _) _).setCell (Nat.le_refl _) _).setCell (Nat.le_refl _) _).setCell (Nat.le_refl _) _)⟩
            · have CC := hid hcc
              have CX := hid (show capsTo s 5 (m + 1) from fun i hi => by
                by_cases e : i = m
                · rw [e, show 8 * 5 + 3 + m = 43 + m by omega, hc]; exact hcc
                · exact HCAP.out i (by omega))
              clear hc hcc HB
              go_wp2_with (first | (go_at_call 20; refine (capital_any _ _).mono ?_; rintro e w' ⟨rfl, rfl⟩; rw [CC.out]))
              refine ⟨?_, ?measure⟩
              (repeat apply Exists.intro)
              (repeat apply Exists.intro)
              (repeat apply Exists.intro)
              (repeat apply Exists.intro)
              refine ⟨?rel, rfl⟩
              case rel => exact ⟨m + 1, by omega, by go_num, CX.out, nd, rfl⟩
              case measure => first | omega | (simp; omega) | (simp [intOf]; omega)
          · obtain rfl : m = 4 := by omega
            have z4 : (s.extract 43 47).size ≤ maxLen := by have := sl_size s 5 hs (by decide); unfold sl at this; rw [this]; decide
            obtain ⟨V, hV⟩ : ∃ V, wd s 5 = V := ⟨_, rfl⟩
            have WV := hid (show readVal (s.extract 43 47) 4 = V from hV)
            obtain ⟨v0, v1⟩ : 0 ≤ V ∧ V ≤ 65535 := by rw [← hV]; exact wd_bd s 5
            obtain ⟨Q, hQ⟩ : ∃ Q, rst s 5 = Q := ⟨_, rfl⟩
            have E := hid (show rst s 6 = { Q with p := V } by rw [← hV, ← hQ]; rfl)
            have BQ := HB.out
            rw [hQ] at BQ
            obtain ⟨zQ, cQ⟩ := id BQ
            have q0 := cQ 0
            have q1 := cQ 1
            have q2 := cQ 2
            have q3 := cQ 3
            have q4 := cQ 4
            have q5 := cQ 5
            have q6 := cQ 6
            have q7 := cQ 7
            have q8 := cQ 8
            have q9 := cQ 9
            simp at q0 q1 q2 q3 q4 q5 q6 q7 q8 q9
            have fQ := fun o => grown_froz GG.out (Nat.le_succ w.heap.size) o
            have HQ := hid BQ
            clear HB hQ cQ BQ
            have PK := hid (show PartOk s 5 from ⟨BL.out, NM.out, HCAP.out, fun h => absurd h (by decide)⟩)
            clear hV
            go_wp2_with (first | (go_at_call 21; refine (rread_any _ _ _ z4).mono ?_; rintro e w' ⟨rfl, rfl⟩; rw [WV.out]))
            go_roundw
            case rel => exact ⟨6, by decide, by first | rfl | go_num, allp (k := 5) HP.out PK.out, by rw [E.out]; have h := has_set (w := wr.drewN nd) (has_drewN HQ.out) 9 (.int .u16 V) (by simp); simpa using h, (drewN1 GR.out).setCell (by simp) _⟩
            case measure => first | omega | (simp; omega) | (simp [intOf]; omega) | decide
    · obtain rfl : k = 6 := by omega
      have GO := hid (show good s from HP.out)
      obtain ⟨Q, hQ⟩ : ∃ Q, endR s = Q := ⟨_, rfl⟩
      have BQ := HB.out
      rw [show rst s 6 = endR s from rfl, hQ] at BQ
      obtain ⟨zQ, cQ⟩ := id BQ
      have q0 := cQ 0
      have q1 := cQ 1
      have q2 := cQ 2
      have q3 := cQ 3
      have q4 := cQ 4
      have q5 := cQ 5
      have q6 := cQ 6
      have q7 := cQ 7
      have q8 := cQ 8
      have q9 := cQ 9
      simp at q0 q1 q2 q3 q4 q5 q6 q7 q8 q9
      have HQ := hid hQ
      clear HB hQ cQ BQ
      go_wp2
      exact bodyPost_ret (v := .tuple #[.agg #[.int .u8 Q.a, .int .u8 Q.f, .int .u8 Q.b, .int .u8 Q.c, .int .u8 Q.d, .int .u8 Q.e, .int .u8 Q.h, .int .u8 Q.l, .int .u16 Q.s, .int .u16 Q.p], .int .i64 0]) (by simp [results, Tryd.results7, go_sem, a0, a1, a2, a3, a4, a5, a6, a7, a8, a9, zA]) rfl ⟨.inl ⟨GO.out, by rw [HQ.out]⟩, ((((((((((GG.out.setCell (Nat.le_refl _) _).setCell (Nat.le_refl _) _).setCell (Nat.le_refl _) _).setCell (Nat.le_refl _) _).setCell (Nat.le_refl _) _).setCell (Nat.le_refl _) _).setCell (Nat.le_refl _) _).setCell (Nat.le_refl _) _).setCell (Nat.le_refl _) _).setCell (Nat.le_refl _) _)⟩
end Go.Proofs.YticamagmccapoaaDoor
