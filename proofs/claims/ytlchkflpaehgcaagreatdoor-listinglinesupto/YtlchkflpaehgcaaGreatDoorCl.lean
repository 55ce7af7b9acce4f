/- What Assemble of the document's answers of layer 6 comes to. What All of the document's answers of layer 6 comes to. Bytes that lie in memory, as a string. -/
import Derived.Test.YtlchkflpaehgcaaGreatDoorCg
import Derived.Test.YtlchkflpaehgcaaGreatDoorCk
import Derived.Laws.BytesString
namespace Go.Proofs.YtlchkflpaehgcaaGreatDoor
open Go.RowKit
set_option linter.unusedVariables false
set_option linter.unusedSimpArgs false

set_option maxRecDepth 100000 in
set_option maxHeartbeats 4000000 in
theorem rassemble_any (s : ByteArray) (w : World) (hs : s.size ≤ 4611686018427387904) : Calls Tryz.prog 11 #[.string s] w fun e w' => ∃ v, e = .returned (.tuple #[v, .int .i64 (asmE s)]) ∧ w'.ownsRow w.heap.size 5 1 v (asmB s).length ((asmB s).map (Value.int .u8)) ∧ Grown w w' := by
  obtain ⟨⟨lo0, lo1⟩, hi0, hi1⟩ := num_bd s
  have HNUM := hid (rnumber_any s w hs)
  have DB := hid (asm_db s)
  have NN := hid (asm_none s)
  have HH := hid (asm_hit s)
  obtain ⟨lo, hlo⟩ : ∃ v, numLo s = v := ⟨_, rfl⟩
  obtain ⟨hi, hhi⟩ : ∃ v, numHi s = v := ⟨_, rfl⟩
  rw [hlo, hhi] at HNUM NN HH
  rw [hlo] at DB lo0 lo1
  rw [hhi] at hi0 hi1
  clear hlo hhi
  have hz : (hex8Of lo).size = 2 := rfl
  obtain ⟨S1, hS1⟩ : ∃ t, dbS lo = t := ⟨_, rfl⟩
  rw [hS1] at DB NN HH
  have HS1 := hid (show (⟨#[68, 66, 32, 36]⟩ : ByteArray) ++ hex8Of lo = S1 from hS1)
  clear hS1
  have hadd : ∀ u, (Op.stringOp .add ⟨#[68, 66, 32, 36]⟩ (hex8Of lo)).run Tryz.prog u = .ok (.string S1) u := fun u => by rw [run_string_add_sum u _ _ (by rw [hz]; decide), HS1.out]
  cases hdb : (s.toList == S1.toList)
  · have NN := hid (NN.out hdb)
    have HH := hid (fun k r => HH.out k r hdb)
    clear DB
    go_enter Tryz.func11, Tryz.ntmps11
    go_wp2_with (first | (go_at_call 18; refine HNUM.out.mono ?_; rintro e w' ⟨rfl, hw⟩; have hw2 := hw.symm; subst hw2) | (go_at_call 19; refine (rhex8_any lo _ lo0 lo1).mono ?_; rintro e w' ⟨rfl, hw⟩; have hw2 := hw.symm; subst hw2))
    go_loopw [6] (fun i wr => ∃ k : Nat, k ≤ 256 ∧ i = .int .i64 (k : Int) ∧ asmTo s lo hi k = none ∧ Grown w wr) (fun i _ => 256 - (intOf i).toNat)
    case atStart => exact ⟨0, Nat.zero_le _, rfl, rfl, Grown.refl _⟩
    case round =>
      obtain ⟨k, hk, rfl, hn, G⟩ := hrel
      have HN := hid hn
      have GG := hid G
      clear hn G
      by_cases hlt : k < 256
      · obtain ⟨k0, k1⟩ : (0 : Int) ≤ k ∧ (k : Int) ≤ 255 := by omega
        have km : (k : Int) % 256 = k := by omega
        have kw : IntKind.u8.wrap (k : Int) = k := by rw [IntKind.wrap_u8]; omega
        obtain ⟨F, hF⟩ : ∃ F, fOf (k : Int) false = F := ⟨_, rfl⟩
        have hF2 : decOf (k : Int) = F := hF
        have HF := hid hF
        have bo := bytes_of (k : Int) k0 k1
        rw [hF2] at bo
        obtain ⟨T1, hT1⟩ : ∃ t, lineOf (k : Int) false lo hi = t := ⟨_, rfl⟩
        obtain ⟨T2, hT2⟩ : ∃ t, lineOf (k : Int) true 0 0 = t := ⟨_, rfl⟩
        have HT1 := hid hT1
        have HT2 := hid hT2
        cases ht2 : (T2.toList == s.toList)
        · cases nk : (F.kind != 6)
          · have NX := hid (show asmTo s lo hi (k + 1) = none by simp [asmTo, HN.out, asmHit, hF2, nk, hT2, ht2])
            clear hF hF2 hT1 hT2 bo
            go_wp2_with fail
            refine (form6_any (k : Int) false _ k0 k1).mono ?_
            rintro e u1 ⟨rfl, g1⟩
            rw [HF.out]
            have G1 := hid (grown_trans GG.out g1)
            have z1 : w.heap.size ≤ u1.heap.size := G1.out.2.2
            clear g1
            go_wp2_with fail
            refine (rtext6_any (k : Int) true 0 0 _ k0 k1 (by decide) (by decide) (by decide) (by decide)).mono ?_
            rintro e u3 ⟨rfl, g3⟩
            rw [HT2.out]
            have G3 := hid (grown_trans ((G1.out.alloc _ _).alloc _ _) g3)
            clear g3
            go_wp2
            go_roundw
            case rel => exact ⟨k + 1, by omega, by go_num, NX.out, G3.out⟩
            case measure => first | omega | (simp; omega) | (simp [intOf]; omega)
          · cases ht1 : (T1.toList == s.toList)
            · have NX := hid (show asmTo s lo hi (k + 1) = none by simp [asmTo, HN.out, asmHit, hF2, nk, hT1, hT2, ht1, ht2])
              clear hF hF2 hT1 hT2 bo
              go_wp2_with fail
              refine (form6_any (k : Int) false _ k0 k1).mono ?_
              rintro e u1 ⟨rfl, g1⟩
              rw [HF.out]
              have G1 := hid (grown_trans GG.out g1)
              have z1 : w.heap.size ≤ u1.heap.size := G1.out.2.2
              clear g1
              go_wp2_with fail
              refine (rtext6_any (k : Int) false lo hi _ k0 k1 lo0 lo1 hi0 hi1).mono ?_
              rintro e u2 ⟨rfl, g2⟩
              rw [HT1.out]
              have HFB := has_grown g2 (has_past (has_alloc u1 #[.int .i64 F.kind, .int .i64 F.x, .int .i64 F.y, .int .i64 F.bytes, .int .i64 F.cycles, .int .i64 F.taken] 46) (.cells #[.int .u8 (k : Int), .int .u8 lo, .int .u8 hi] 5))
              obtain ⟨zF, cF⟩ := id HFB
              have BB := hid (gblock g2 (u1.heap.size + 1) (by simp))
              have G2 := hid (grown_trans ((G1.out.alloc _ _).alloc _ _) g2)
              clear g2
              go_wp2_with fail
              refine (rtext6_any (k : Int) true 0 0 _ k0 k1 (by decide) (by decide) (by decide) (by decide)).mono ?_
              rintro e u3 ⟨rfl, g3⟩
              rw [HT2.out]
              have G3 := hid (grown_trans G2.out g3)
              clear g3
              go_wp2
              go_roundw
              case rel => exact ⟨k + 1, by omega, by go_num, NX.out, G3.out⟩
              case measure => first | omega | (simp; omega) | (simp [intOf]; omega)
            · rcases bo with bo | bo | bo
              · have E := hid (HH.out k ([(k : Int), lo, hi].take 1) hlt HN.out (by simp [asmHit, hF2, nk, hT1, ht1, bo]))
                have hb : F.bytes = 1 := bo
                clear hF hF2 hT1 hT2 bo
                go_wp2_with fail
                refine (form6_any (k : Int) false _ k0 k1).mono ?_
                rintro e u1 ⟨rfl, g1⟩
                rw [HF.out]
                have G1 := hid (grown_trans GG.out g1)
                have z1 : w.heap.size ≤ u1.heap.size := G1.out.2.2
                clear g1
                go_wp2_with fail
                refine (rtext6_any (k : Int) false lo hi _ k0 k1 lo0 lo1 hi0 hi1).mono ?_
                rintro e u2 ⟨rfl, g2⟩
                rw [HT1.out]
                have HFB := has_grown g2 (has_past (has_alloc u1 #[.int .i64 F.kind, .int .i64 F.x, .int .i64 F.y, .int .i64 1, .int .i64 F.cycles, .int .i64 F.taken] 46) (.cells #[.int .u8 (k : Int), .int .u8 lo, .int .u8 hi] 5))
                obtain ⟨zF, cF⟩ := id HFB
                have BB := hid (gblock g2 (u1.heap.size + 1) (by simp))
                have G2 := hid (grown_trans ((G1.out.alloc _ _).alloc _ _) g2)
                clear g2
                go_wp2
                exact bodyPost_ret (v := .tuple #[.slice (some ⟨u1.heap.size + 1, 0, none⟩) 1 3, .int .i64 0]) (by simp [results, Tryz.results11, go_sem]) rfl ⟨.slice (some ⟨u1.heap.size + 1, 0, none⟩) 1 3, by rw [E.out.2], by rw [E.out.1]; exact own3 u2 w.heap.size (u1.heap.size + 1) 5 #[.int .u8 (k : Int), .int .u8 lo, .int .u8 hi] 1 (BB.out.trans (by have := heap_new (u1.alloc (.cells #[.int .i64 F.kind, .int .i64 F.x, .int .i64 F.y, .int .i64 1, .int .i64 F.cycles, .int .i64 F.taken] 46)) (.cells #[.int .u8 (k : Int), .int .u8 lo, .int .u8 hi] 5); simpa using this)) (by omega) (by simp) (show 3 ≤ maxLen by decide), G2.out⟩
              · have E := hid (HH.out k ([(k : Int), lo, hi].take 2) hlt HN.out (by simp [asmHit, hF2, nk, hT1, ht1, bo]))
                have hb : F.bytes = 2 := bo
                clear hF hF2 hT1 hT2 bo
                go_wp2_with fail
                refine (form6_any (k : Int) false _ k0 k1).mono ?_
                rintro e u1 ⟨rfl, g1⟩
                rw [HF.out]
                have G1 := hid (grown_trans GG.out g1)
                have z1 : w.heap.size ≤ u1.heap.size := G1.out.2.2
                clear g1
                go_wp2_with fail
                refine (rtext6_any (k : Int) false lo hi _ k0 k1 lo0 lo1 hi0 hi1).mono ?_
                rintro e u2 ⟨rfl, g2⟩
                rw [HT1.out]
                have HFB := has_grown g2 (has_past (has_alloc u1 #[.int .i64 F.kind, .int .i64 F.x, .int .i64 F.y, .int .i64 2, .int .i64 F.cycles, .int .i64 F.taken] 46) (.cells #[.int .u8 (k : Int), .int .u8 lo, .int .u8 hi] 5))
                obtain ⟨zF, cF⟩ := id HFB
                have BB := hid (gblock g2 (u1.heap.size + 1) (by simp))
                have G2 := hid (grown_trans ((G1.out.alloc _ _).alloc _ _) g2)
                clear g2
                go_wp2
                exact bodyPost_ret (v := .tuple #[.slice (some ⟨u1.heap.size + 1, 0, none⟩) 2 3, .int .i64 0]) (by simp [results, Tryz.results11, go_sem]) rfl ⟨.slice (some ⟨u1.heap.size + 1, 0, none⟩) 2 3, by rw [E.out.2], by rw [E.out.1]; exact own3 u2 w.heap.size (u1.heap.size + 1) 5 #[.int .u8 (k : Int), .int .u8 lo, .int .u8 hi] 2 (BB.out.trans (by have := heap_new (u1.alloc (.cells #[.int .i64 F.kind, .int .i64 F.x, .int .i64 F.y, .int .i64 2, .int .i64 F.cycles, .int .i64 F.taken] 46)) (.cells #[.int .u8 (k : Int), .int .u8 lo, .int .u8 hi] 5); simpa using this)) (by omega) (by simp) (show 3 ≤ maxLen by decide), G2.out⟩
              · have E := hid (HH.out k ([(k : Int), lo, hi].take 3) hlt HN.out (by simp [asmHit, hF2, nk, hT1, ht1, bo]))
                have hb : F.bytes = 3 := bo
                clear hF hF2 hT1 hT2 bo
                go_wp2_with fail
                refine (form6_any (k : Int) false _ k0 k1).mono ?_
                rintro e u1 ⟨rfl, g1⟩
                rw [HF.out]
                have G1 := hid (grown_trans GG.out g1)
                have z1 : w.heap.size ≤ u1.heap.size := G1.out.2.2
                clear g1
                go_wp2_with fail
                refine (rtext6_any (k : Int) false lo hi _ k0 k1 lo0 lo1 hi0 hi1).mono ?_
                rintro e u2 ⟨rfl, g2⟩
                rw [HT1.out]
                have HFB := has_grown g2 (has_past (has_alloc u1 #[.int .i64 F.kind, .int .i64 F.x, .int .i64 F.y, .int .i64 3, .int .i64 F.cycles, .int .i64 F.taken] 46) (.cells #[.int .u8 (k : Int), .int .u8 lo, .int .u8 hi] 5))
                obtain ⟨zF, cF⟩ := id HFB
                have BB := hid (gblock g2 (u1.heap.size + 1) (by simp))
                have G2 := hid (grown_trans ((G1.out.alloc _ _).alloc _ _) g2)
                clear g2
                go_wp2
                exact bodyPost_ret (v := .tuple #[.slice (some ⟨u1.heap.size + 1, 0, none⟩) 3 3, .int .i64 0]) (by simp [results, Tryz.results11, go_sem]) rfl ⟨.slice (some ⟨u1.heap.size + 1, 0, none⟩) 3 3, by rw [E.out.2], by rw [E.out.1]; exact own3 u2 w.heap.size (u1.heap.size + 1) 5 #[.int .u8 (k : Int), .int .u8 lo, .int .u8 hi] 3 (BB.out.trans (by have := heap_new (u1.alloc (.cells #[.int .i64 F.kind, .int .i64 F.x, .int .i64 F.y, .int .i64 3, .int .i64 F.cycles, .int .i64 F.taken] 46)) (.cells #[.int .u8 (k : Int), .int .u8 lo, .int .u8 hi] 5); simpa using this)) (by omega) (by simp) (show 3 ≤ maxLen by decide), G2.out⟩
        · cases nk : (F.kind != 6)
          · have E := hid (HH.out k [203, (k : Int)] hlt HN.out (by simp [asmHit, hF2, nk, hT2, ht2]))
            clear hF hF2 hT1 hT2 bo
            go_wp2_with fail
            refine (form6_any (k : Int) false _ k0 k1).mono ?_
            rintro e u1 ⟨rfl, g1⟩
            rw [HF.out]
            have G1 := hid (grown_trans GG.out g1)
            have z1 : w.heap.size ≤ u1.heap.size := G1.out.2.2
            clear g1
            go_wp2_with fail
            refine (rtext6_any (k : Int) true 0 0 _ k0 k1 (by decide) (by decide) (by decide) (by decide)).mono ?_
            rintro e u3 ⟨rfl, g3⟩
            rw [HT2.out]
            have G3 := hid (grown_trans ((G1.out.alloc _ _).alloc _ _) g3)
            clear g3
            have z3 : w.heap.size ≤ u3.heap.size := G3.out.2.2
            go_wp2
            exact bodyPost_ret (v := .tuple #[.slice (some ⟨u3.heap.size, 0, none⟩) 2 2, .int .i64 0]) (by simp [results, Tryz.results11, go_sem]) rfl ⟨.slice (some ⟨u3.heap.size, 0, none⟩) 2 2, by rw [E.out.2], by rw [E.out.1]; exact own3 _ w.heap.size u3.heap.size 5 #[.int .u8 203, .int .u8 (k : Int)] 2 (heap_new _ _) z3 (by simp) (show 2 ≤ maxLen by decide), G3.out.alloc _ _⟩
          · cases ht1 : (T1.toList == s.toList)
            · have E := hid (HH.out k [203, (k : Int)] hlt HN.out (by simp [asmHit, hF2, nk, hT2, ht2, hT1, ht1]))
              clear hF hF2 hT1 hT2 bo
              go_wp2_with fail
              refine (form6_any (k : Int) false _ k0 k1).mono ?_
              rintro e u1 ⟨rfl, g1⟩
              rw [HF.out]
              have G1 := hid (grown_trans GG.out g1)
              have z1 : w.heap.size ≤ u1.heap.size := G1.out.2.2
              clear g1
              go_wp2_with fail
              refine (rtext6_any (k : Int) false lo hi _ k0 k1 lo0 lo1 hi0 hi1).mono ?_
              rintro e u2 ⟨rfl, g2⟩
              rw [HT1.out]
              have HFB := has_grown g2 (has_past (has_alloc u1 #[.int .i64 F.kind, .int .i64 F.x, .int .i64 F.y, .int .i64 F.bytes, .int .i64 F.cycles, .int .i64 F.taken] 46) (.cells #[.int .u8 (k : Int), .int .u8 lo, .int .u8 hi] 5))
              obtain ⟨zF, cF⟩ := id HFB
              have BB := hid (gblock g2 (u1.heap.size + 1) (by simp))
              have G2 := hid (grown_trans ((G1.out.alloc _ _).alloc _ _) g2)
              clear g2
              go_wp2_with fail
              refine (rtext6_any (k : Int) true 0 0 _ k0 k1 (by decide) (by decide) (by decide) (by decide)).mono ?_
              rintro e u3 ⟨rfl, g3⟩
              rw [HT2.out]
              have G3 := hid (grown_trans G2.out g3)
              clear g3
              have z3 : w.heap.size ≤ u3.heap.size := G3.out.2.2
              go_wp2
              exact bodyPost_ret (v := .tuple #[.slice (some ⟨u3.heap.size, 0, none⟩) 2 2, .int .i64 0]) (by simp [results, Tryz.results11, go_sem]) rfl ⟨.slice (some ⟨u3.heap.size, 0, none⟩) 2 2, by rw [E.out.2], by rw [E.out.1]; exact own3 _ w.heap.size u3.heap.size 5 #[.int .u8 203, .int .u8 (k : Int)] 2 (heap_new _ _) z3 (by simp) (show 2 ≤ maxLen by decide), G3.out.alloc _ _⟩
            · rcases bo with bo | bo | bo
              · have E := hid (HH.out k ([(k : Int), lo, hi].take 1) hlt HN.out (by simp [asmHit, hF2, nk, hT1, ht1, bo]))
                have hb : F.bytes = 1 := bo
                clear hF hF2 hT1 hT2 bo
                go_wp2_with fail
                refine (form6_any (k : Int) false _ k0 k1).mono ?_
                rintro e u1 ⟨rfl, g1⟩
                rw [HF.out]
                have G1 := hid (grown_trans GG.out g1)
                have z1 : w.heap.size ≤ u1.heap.size := G1.out.2.2
                clear g1
                go_wp2_with fail
                refine (rtext6_any (k : Int) false lo hi _ k0 k1 lo0 lo1 hi0 hi1).mono ?_
                rintro e u2 ⟨rfl, g2⟩
                rw [HT1.out]
                have HFB := has_grown g2 (has_past (has_alloc u1 #[.int .i64 F.kind, .int .i64 F.x, .int .i64 F.y, .int .i64 1, .int .i64 F.cycles, .int .i64 F.taken] 46) (.cells #[.int .u8 (k : Int), .int .u8 lo, .int .u8 hi] 5))
                obtain ⟨zF, cF⟩ := id HFB
                have BB := hid (gblock g2 (u1.heap.size + 1) (by simp))
                have G2 := hid (grown_trans ((G1.out.alloc _ _).alloc _ _) g2)
                clear g2
                go_wp2
                exact bodyPost_ret (v := .tuple #[.slice (some ⟨u1.heap.size + 1, 0, none⟩) 1 3, .int .i64 0]) (by simp [results, Tryz.results11, go_sem]) rfl ⟨.slice (some ⟨u1.heap.size + 1, 0, none⟩) 1 3, by rw [E.out.2], by rw [E.out.1]; exact own3 u2 w.heap.size (u1.heap.size + 1) 5 #[.int .u8 (k : Int), .int .u8 lo, .int .u8 hi] 1 (BB.out.trans (by have := heap_new (u1.alloc (.cells #[.int .i64 F.kind, .int .i64 F.x, .int .i64 F.y, .int .i64 1, .int .i64 F.cycles, .int .i64 F.taken] 46)) (.cells #[.int .u8 (k : Int), .int .u8 lo, .int .u8 hi] 5); simpa using this)) (by omega) (by simp) (show 3 ≤ maxLen by decide), G2.out⟩
              · have E := hid (HH.out k ([(k : Int), lo, hi].take 2) hlt HN.out (by simp [asmHit, hF2, nk, hT1, ht1, bo]))
                have hb : F.bytes = 2 := bo
                clear hF hF2 hT1 hT2 bo
                go_wp2_with fail
                refine (form6_any (k : Int) false _ k0 k1).mono ?_
                rintro e u1 ⟨rfl, g1⟩
                rw [HF.out]
                have G1 := hid (grown_trans GG.out g1)
                have z1 : w.heap.size ≤ u1.heap.size := G1.out.2.2
                clear g1
                go_wp2_with fail
                refine (rtext6_any (k : Int) false lo hi _ k0 k1 lo0 lo1 hi0 hi1).mono ?_
                rintro e u2 ⟨rfl, g2⟩
                rw [HT1.out]
                have HFB := has_grown g2 (has_past (has_alloc u1 #[.int .i64 F.kind, .int .i64 F.x, .int .i64 F.y, .int .i64 2, .int .i64 F.cycles, .int .i64 F.taken] 46) (.cells #[.int .u8 (k : Int), .int .u8 lo, .int .u8 hi] 5))
                obtain ⟨zF, cF⟩ := id HFB
                have BB := hid (gblock g2 (u1.heap.size + 1) (by simp))
                have G2 := hid (grown_trans ((G1.out.alloc _ _).alloc _ _) g2)
                clear g2
                go_wp2
                exact bodyPost_ret (v := .tuple #[.slice (some ⟨u1.heap.size + 1, 0, none⟩) 2 3, .int .i64 0]) (by simp [results, Tryz.results11, go_sem]) rfl ⟨.slice (some ⟨u1.heap.size + 1, 0, none⟩) 2 3, by rw [E.out.2], by rw [E.out.1]; exact own3 u2 w.heap.size (u1.heap.size + 1) 5 #[.int .u8 (k : Int), .int .u8 lo, .int .u8 hi] 2 (BB.out.trans (by have := heap_new (u1.alloc (.cells #[.int .i64 F.kind, .int .i64 F.x, .int .i64 F.y, .int .i64 2, .int .i64 F.cycles, .int .i64 F.taken] 46)) (.cells #[.int .u8 (k : Int), .int .u8 lo, .int .u8 hi] 5); simpa using this)) (by omega) (by simp) (show 3 ≤ maxLen by decide), G2.out⟩
              · have E := hid (HH.out k ([(k : Int), lo, hi].take 3) hlt HN.out (by simp [asmHit, hF2, nk, hT1, ht1, bo]))
                have hb : F.bytes = 3 := bo
                clear hF hF2 hT1 hT2 bo
                go_wp2_with fail
                refine (form6_any (k : Int) false _ k0 k1).mono ?_
                rintro e u1 ⟨rfl, g1⟩
                rw [HF.out]
                have G1 := hid (grown_trans GG.out g1)
                have z1 : w.heap.size ≤ u1.heap.size := G1.out.2.2
                clear g1
                go_wp2_with fail
                refine (rtext6_any (k : Int) false lo hi _ k0 k1 lo0 lo1 hi0 hi1).mono ?_
                rintro e u2 ⟨rfl, g2⟩
                rw [HT1.out]
                have HFB := has_grown g2 (has_past (has_alloc u1 #[.int .i64 F.kind, .int .i64 F.x, .int .i64 F.y, .int .i64 3, .int .i64 F.cycles, .int .i64 F.taken] 46) (.cells #[.int .u8 (k : Int), .int .u8 lo, .int .u8 hi] 5))
                obtain ⟨zF, cF⟩ := id HFB
                have BB := hid (gblock g2 (u1.heap.size + 1) (by simp))
                have G2 := hid (grown_trans ((G1.out.alloc _ _).alloc _ _) g2)
                clear g2
                go_wp2
                exact bodyPost_ret (v := .tuple #[.slice (some ⟨u1.heap.size + 1, 0, none⟩) 3 3, .int .i64 0]) (by simp [results, Tryz.results11, go_sem]) rfl ⟨.slice (some ⟨u1.heap.size + 1, 0, none⟩) 3 3, by rw [E.out.2], by rw [E.out.1]; exact own3 u2 w.heap.size (u1.heap.size + 1) 5 #[.int .u8 (k : Int), .int .u8 lo, .int .u8 hi] 3 (BB.out.trans (by have := heap_new (u1.alloc (.cells #[.int .i64 F.kind, .int .i64 F.x, .int .i64 F.y, .int .i64 3, .int .i64 F.cycles, .int .i64 F.taken] 46)) (.cells #[.int .u8 (k : Int), .int .u8 lo, .int .u8 hi] 5); simpa using this)) (by omega) (by simp) (show 3 ≤ maxLen by decide), G2.out⟩
      · obtain rfl : k = 256 := by omega
        have E := hid (NN.out HN.out)
        go_wp2
        exact bodyPost_ret (v := .tuple #[.slice none 0 0, .int .i64 6]) (by simp [results, Tryz.results11, go_sem]) rfl ⟨.slice none 0 0, by rw [E.out.2], by rw [E.out.1]; exact World.ownsRow_nil _ _ _ _, GG.out⟩
  · have E := hid (DB.out hdb)
    go_enter Tryz.func11, Tryz.ntmps11
    go_wp2_with (first | (go_at_call 18; refine HNUM.out.mono ?_; rintro e w' ⟨rfl, hw⟩; have hw2 := hw.symm; subst hw2) | (go_at_call 19; refine (rhex8_any lo _ lo0 lo1).mono ?_; rintro e w' ⟨rfl, hw⟩; have hw2 := hw.symm; subst hw2))
    exact bodyPost_ret (v := .tuple #[.slice (some ⟨w.heap.size, 0, none⟩) 1 1, .int .i64 0]) (by simp [results, Tryz.results11, go_sem]) rfl ⟨.slice (some ⟨w.heap.size, 0, none⟩) 1 1, by rw [E.out.2], by rw [E.out.1]; exact own3 _ w.heap.size w.heap.size 5 #[.int .u8 lo] 1 (heap_new _ _) (Nat.le_refl _) (by simp) (show 1 ≤ maxLen by decide), alloc1 _ _ _⟩
end Go.Proofs.YtlchkflpaehgcaaGreatDoor
namespace Go.Proofs.YtlchkflpaehgcaaGreatDoor
open Go.RowKit
set_option linter.unusedVariables false
set_option linter.unusedSimpArgs false

theorem info_u8 : (Tryz.prog.info? 5).map (fun i => (i.zero, i.size, i.bytes)) = some (some (.int .u8 0), 1, 1) := by kernel_rfl
theorem owned_form {w : World} {base : Nat} {e : TypeId} {v : Value} {n : Nat} {xs : List Value} (o : w.ownsRow base e 1 v n xs) (hn : 1 ≤ n) : ∃ g cap, v = .slice (some ⟨g, 0, none⟩) n cap ∧ ∀ j u, xs[j]? = some u → w.cell? ((⟨g, 0, none⟩ : Addr).add j) = some u := by
  rcases id o.2 with ⟨_, h⟩ | ⟨g, cap, cur, e1, _⟩
  · omega
  · exact ⟨g, cap, e1, o.cells (by rw [e1]; rfl)⟩
set_option maxRecDepth 100000 in
set_option maxHeartbeats 4000000 in
theorem rall_any (ss : List ByteArray) (a : Option Addr) (cap : Nat) (w : World) (row : SRow w a ss) (hbig : ss.length ≤ 8796093022000) :
    Calls Tryz.prog 13 #[.slice a ss.length cap] w fun e w' => ∃ v, e = .returned (.tuple #[v, .int .i64 (allE ss)]) ∧ w'.ownsRow w.heap.size 5 1 v (allB ss).length ((allB ss).map (Value.int .u8)) ∧ Kept w w' := by
  obtain ⟨i0, hi, hz0, hz1, hz2⟩ := info_parts info_u8
  obtain ⟨LN, hLN⟩ : ∃ n : Nat, ss.length = n := ⟨_, rfl⟩
  have LNb : LN ≤ 8796093022000 := by omega
  have HLN := hid hLN
  have HR := hid row
  have HNO := hid (all_no ss)
  have HYES := hid (all_yes ss)
  rw [hLN]
  clear hLN hbig row
  go_enter Tryz.func13, Tryz.ntmps13
  go_wp2
  go_loopw [4, 5] (fun v i wr => ∃ k : Nat, k ≤ LN ∧ i = .int .i64 (k : Int) ∧ okTill ss k ∧ wr.ownsRow w.heap.size 5 1 v (outTo ss k).length ((outTo ss k).map (Value.int .u8)) ∧ Kept w wr) (fun _ i _ => LN - (intOf i).toNat)
  case atStart => exact ⟨0, Nat.zero_le _, rfl, fun j h => absurd h (by omega), World.ownsRow_nil _ _ _ _, Kept.refl _⟩
  case round =>
    obtain ⟨k, hk, rfl, hok, hown, hkp⟩ := hrel
    have HOK := hid hok
    have HO := hid hown
    have HK := hid hkp
    have OL := hid (out_len ss k (by rw [HLN.out]; exact hk) hok)
    clear hok hown hkp
    by_cases hlt : k < LN
    · have hlt2 : (k : Int) < (LN : Int) := by omega
      have hlt3 : k < ss.length := by rw [HLN.out]; exact hlt
      obtain ⟨hsz, hx0⟩ := srow_kept HK.out HR.out
      obtain ⟨x, rfl, hxb, hc⟩ : ∃ x : Addr, a = some x ∧ x.block < wr.heap.size ∧ ∀ i, i < ss.length → wr.cell? (x.add i) = some (.string (ss.getD i ByteArray.empty)) := by
        rcases hx0 with h | h
        · rw [h] at hlt3; simp at hlt3
        · exact h
      have ck := hc k hlt3
      have sk := hsz (ss.getD k ByteArray.empty) (by rw [getD_get ss k hlt3]; exact List.getElem_mem hlt3)
      have AL := hid (asm_len (ss.getD k ByteArray.empty))
      have OS := hid (out_step ss k hlt3)
      have NOK := hid (HNO.out k hlt3)
      have CC := hid (rassemble_any (ss.getD k ByteArray.empty) wr sk)
      have OKN := hid (fun (h : asmE (ss.getD k ByteArray.empty) = 0) => (show okTill ss (k + 1) from fun j hj => by
        by_cases e : j = k
        · rw [e]; exact h
        · exact HOK.out j (by omega)))
      clear hsz hx0 hc hlt3 sk HOK
      obtain ⟨E, hE⟩ : ∃ v, asmE (ss.getD k ByteArray.empty) = v := ⟨_, rfl⟩
      obtain ⟨M, hM⟩ : ∃ v, asmB (ss.getD k ByteArray.empty) = v := ⟨_, rfl⟩
      rw [hE, hM] at AL CC
      rw [hE] at NOK OKN
      rw [hM] at OS
      generalize ss.getD k ByteArray.empty = S at *
      clear hE hM
      obtain ⟨O, hO⟩ : ∃ v, outTo ss k = v := ⟨_, rfl⟩
      rw [hO] at HO OL OS
      clear hO
      rcases AL.out with ⟨rfl, m1, m3⟩ | rfl
      · clear AL
        go_wp2_with fail
        refine CC.out.mono ?_
        rintro e u1 ⟨v1, rfl, ho1, g1⟩
        obtain ⟨g, c1, rfl, hcells⟩ := owned_form ho1 m1
        have HO1 := hid (owns_kept (Kept.of g1) HO.out)
        have HK1 := hid (HK.out.trans (Kept.of g1))
        have HCL := hid hcells
        have z1 : w.heap.size ≤ u1.heap.size := HK1.out.size
        clear ho1 g1 CC hcells
        go_wp2_with (at_builtin; refine wpList_append_own _ rfl _ _ 22 rfl w.heap.size 5 i0 (.int .u8 0) 1 1 Tryz.underlying22 hi hz0 hz1 hz2 rfl (by decide) _ _ _ rfl HO1.out ⟨g, 0, none⟩ M.length c1 (M.map (Value.int .u8)) rfl (by simp) HCL.out ?c2 ?c3 ?c4 z1 ?_)
        case c2 => intro u hu; obtain ⟨q, _, rfl⟩ := List.mem_map.1 hu; rfl
        case c3 => have := OL.out; unfold maxLen; omega
        case c4 => have := OL.out; omega
        intro v' w1 hown' hgrow _
        have KB := hid (HK1.out.by hgrow (owns_row HO1.out))
        have HW := hid hown'
        clear hown' hgrow
        go_wp2
        go_roundw
        case rel => exact ⟨k + 1, by omega, by go_num, OKN.out (by first | rfl | trivial), by rw [OS.out]; simpa using HW.out, KB.out⟩
        case measure => first | omega | (simp; omega) | (simp [intOf]; omega)
      · have E := hid (NOK.out rfl)
        clear AL
        go_wp2_with fail
        refine CC.out.mono ?_
        rintro e u1 ⟨v1, rfl, ho1, g1⟩
        have HK1 := hid (HK.out.trans (Kept.of g1))
        clear ho1 g1 CC
        go_wp2
        exact bodyPost_ret (v := .tuple #[.slice none 0 0, .int .i64 6]) (by simp [results, Tryz.results13, go_sem]) rfl ⟨.slice none 0 0, by rw [E.out.2], by rw [E.out.1]; exact World.ownsRow_nil _ _ _ _, HK1.out⟩
    · obtain rfl : k = LN := by omega
      have E := hid (HYES.out (by rw [HLN.out]; exact HOK.out))
      have hl2 : ¬ ((k : Int) < (k : Int)) := by omega
      go_wp2
      exact bodyPost_ret (by simp [results, Tryz.results13, go_sem]; rfl) rfl ⟨_, by rw [E.out.2], by rw [E.out.1, HLN.out]; exact HO.out, HK.out⟩
end Go.Proofs.YtlchkflpaehgcaaGreatDoor
namespace Go.Proofs.YtlchkflpaehgcaaGreatDoor
open Go.RowKit
set_option linter.unusedVariables false
set_option linter.unusedSimpArgs false

theorem has_kept {W w1 : World} (g : Kept W w1) {b : Nat} {cs : Array Value} (h : Has W b cs) : Has w1 b cs :=
  ⟨Nat.lt_of_lt_of_le h.1 g.size, fun i => (g.cell (x := ⟨b, i, none⟩) h.1).trans (h.2 i)⟩
def strOf (ns : List Int) : ByteArray := ns.foldl (fun r n => r.push (UInt8.ofNat n.toNat)) ByteArray.empty
theorem conv_cells (w : World) (a : Addr) (cap : Nat) (ns : List Int) (h : ∀ j u, (ns.map (Value.int .u8))[j]? = some u → w.cell? (a.add j) = some u) : (convert 22 9 (.slice (some a) ns.length cap)).run Tryz.prog w = .ok (.string (strOf ns)) w := by
  rw [run_convert_bytes_string w 22 9 5 _ _ _ Tryz.underlying22 Tryz.underlying5 Tryz.underlying9]
  refine run_bytesToString w a ns.length cap ns ?_
  have := run_loadCells_list (P := Tryz.prog) w a (ns.map (Value.int .u8)) h
  simpa using this
theorem conv_nil (w : World) : (convert 22 9 (.slice none 0 0)).run Tryz.prog w = .ok (.string (strOf [])) w := by kernel_rfl
theorem conv_own {w : World} {base : Nat} {v : Value} {ns : List Int} (o : w.ownsRow base 5 1 v ns.length (ns.map (Value.int .u8))) : (convert 22 9 v).run Tryz.prog w = .ok (.string (strOf ns)) w := by
  rcases id o.2 with ⟨rfl, h⟩ | ⟨g, cap, cur, rfl, _⟩
  · have : ns = [] := List.length_eq_zero_iff.1 h
    subst this
    exact conv_nil w
  · exact conv_cells w ⟨g, 0, none⟩ cap ns (o.cells rfl)
theorem conv_row {w : World} {a : Option Addr} {zs : List Int} {cap : Nat} (r : Row w a zs) (hn : a = none → cap = 0) : (convert 22 9 (.slice a zs.length cap)).run Tryz.prog w = .ok (.string (strOf zs)) w ∨ zs = [] := by
  rcases r.2.2 with h | ⟨x, rfl, hx, hc⟩
  · exact .inr h
  · refine .inl (conv_cells w x cap zs fun j u hu => ?_)
    have hj : j < zs.length := by
      rcases Nat.lt_or_ge j zs.length with q | q
      · exact q
      · rw [List.getElem?_eq_none (by simpa using q)] at hu; cases hu
    rw [hc j hj]
    simp [List.getElem?_eq_getElem hj] at hu
    rw [← hu, List.getD_eq_getElem?_getD, List.getElem?_eq_getElem hj]
    rfl
end Go.Proofs.YtlchkflpaehgcaaGreatDoor
