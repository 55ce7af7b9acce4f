/- The program's clock: Bytes. -/
import Derived.Test.YtfmddnekooojkaaGreatDoorG16
import Derived.Test.YtfmddnekooojkaaGreatDoorG14
namespace Go.Proofs.YtfmddnekooojkaaGreatDoor
open Go.RowKit
set_option linter.unusedVariables false
set_option linter.unusedSimpArgs false

theorem has_own {w : World} {base g n cap : Nat} {e : TypeId} {xs : List Value} (o : w.ownsRow base e 1 (.slice (some ⟨g, 0, none⟩) n cap) n xs) : g < w.heap.size := by
  obtain ⟨_, ⟨h, _⟩ | ⟨g2, cap2, cur, h1, h2, h3, _⟩⟩ := o
  · cases h
  · cases h1
    rcases Nat.lt_or_ge g w.heap.size with q | q
    · exact q
    · rw [Array.getElem?_eq_none q] at h3; cases h3
set_option maxRecDepth 100000 in
set_option maxHeartbeats 8000000 in
theorem cbytes_any (a b : Ck) (w : World) (I : CkIn a) (J : CkIn b) : Calls Tryz.prog 39 #[ckV a, ckV b] w fun e w' => ∃ v, e = .returned v ∧ w'.ownsRow w.heap.size 5 1 v (bytesL a b).length ((bytesL a b).map (Value.int .u8)) ∧ Kept w w' := by
  obtain ⟨i0, hi, hz0, hz1, hz2⟩ := info_parts info9_u8
  have CA := hid (fun r u => gread_any a r u I)
  have CB := hid (fun r u => gread_any b r u J)
  have RE := hid (fun (k : Nat) (h : k < 5) => show regE (8 + (k : Int)) = 0 by
    have : k = 0 ∨ k = 1 ∨ k = 2 ∨ k = 3 ∨ k = 4 := by omega
    rcases this with rfl | rfl | rfl | rfl | rfl <;> rfl)
  have BL := hid (show bytesL a b = fiveL a 5 ++ fiveL b 5 from rfl)
  clear I J
  go_enter Tryz.func39, Tryz.ntmps39
  go_wp2_with (at_make; refine wpList_make_own _ rfl _ _ 22 rfl (w.heap.size + 2) 5 i0 (.int .u8 0) 1 Tryz.underlying22 hi hz0 hz1 .i64 .i64 10 10 rfl rfl rfl (by rw [hz2]; decide) (by decide) (by simp) ?_)
  intro w1 ho1 hg1
  have HA := has_by (has_past (has_alloc w #[.int .u8 a.sec, .int .u8 a.min, .int .u8 a.hour, .int .u16 a.day, .bool a.halt, .bool a.carry] 35) (.cells #[.int .u8 b.sec, .int .u8 b.min, .int .u8 b.hour, .int .u16 b.day, .bool b.halt, .bool b.carry] 35)) hg1 (fun k h => by cases h)
  have HB := has_by (has_alloc (w.alloc (.cells #[.int .u8 a.sec, .int .u8 a.min, .int .u8 a.hour, .int .u16 a.day, .bool a.halt, .bool a.carry] 35)) #[.int .u8 b.sec, .int .u8 b.min, .int .u8 b.hour, .int .u16 b.day, .bool b.halt, .bool b.carry] 35) hg1 (fun k h => by cases h)
  simp only [World.size_alloc] at HB ho1
  have KT := hid (Kept.by (((Kept.refl w).alloc (.cells #[.int .u8 a.sec, .int .u8 a.min, .int .u8 a.hour, .int .u16 a.day, .bool a.halt, .bool a.carry] 35)).alloc (.cells #[.int .u8 b.sec, .int .u8 b.min, .int .u8 b.hour, .int .u16 b.day, .bool b.halt, .bool b.carry] 35)) hg1 (fun k h => by cases h))
  have O1 := hid ho1
  obtain ⟨za, ca⟩ := id HA
  obtain ⟨zb, cb⟩ := id HB
  have a0 := ca 0
  have b0 := cb 0
  have a1 := ca 1
  have b1 := cb 1
  have a2 := ca 2
  have b2 := cb 2
  have a3 := ca 3
  have b3 := cb 3
  have a4 := ca 4
  have b4 := cb 4
  have a5 := ca 5
  have b5 := cb 5
  simp at a0 a1 a2 a3 a4 a5 b0 b1 b2 b3 b4 b5
  clear ho1 hg1 HA HB ca cb
  go_wp2_with fail
  go_loopw [5, 15] (fun v i wr => Kept w wr ∧ ((i = .int .i64 0 ∧ v = .slice (some ⟨w.heap.size + 2, 0, none⟩) 0 10 ∧ wr.ownsRow (w.heap.size + 2) 5 1 v 0 []) ∨ (i = .int .i64 1 ∧ v = .slice (some ⟨w.heap.size + 2, 0, none⟩) 5 10 ∧ wr.ownsRow (w.heap.size + 2) 5 1 v 5 ((fiveL a 5).map (Value.int .u8))) ∨ (i = .int .i64 2 ∧ v = .slice (some ⟨w.heap.size + 2, 0, none⟩) 10 10 ∧ wr.ownsRow (w.heap.size + 2) 5 1 v 10 ((fiveL a 5 ++ fiveL b 5).map (Value.int .u8))))) (fun _ i _ => 2 - (intOf i).toNat)
  case atStart => exact ⟨KT.out, .inl ⟨rfl, by simp, by simpa using O1.out⟩⟩
  case round =>
    clear KT O1 a0 a1 a2 a3 a4 a5 b0 b1 b2 b3 b4 b5 za zb
    obtain ⟨hkt, hk⟩ := hrel
    have KT := hid hkt
    clear hkt
    rcases hk with ⟨rfl, rfl, ho⟩ | ⟨rfl, rfl, ho⟩ | ⟨rfl, rfl, ho⟩
    · have ix : ∀ u, (Instr.index 106 (.agg #[.int .u8 a.sec, .int .u8 a.min, .int .u8 a.hour, .int .u16 a.day, .bool a.halt, .bool a.carry, .int .u8 b.sec, .int .u8 b.min, .int .u8 b.hour, .int .u16 b.day, .bool b.halt, .bool b.carry]) (.int .i64 0)).run Tryz.prog u = .ok (.agg #[.int .u8 a.sec, .int .u8 a.min, .int .u8 a.hour, .int .u16 a.day, .bool a.halt, .bool a.carry]) u := fun _ => by kernel_rfl
      have HQ := has_own ho
      have O := hid ho
      clear ho
      go_wp2_with fail
      go_loopw [5, 18] (fun v i ws => ∃ k : Nat, k ≤ 5 ∧ i = .int .i64 (k : Int) ∧ v = .slice (some ⟨w.heap.size + 2, 0, none⟩) (k) 10 ∧ ws.ownsRow (w.heap.size + 2) 5 1 v (k) ((fiveL a k).map (Value.int .u8)) ∧ Has ws wr.heap.size #[.int .u8 a.sec, .int .u8 a.min, .int .u8 a.hour, .int .u16 a.day, .bool a.halt, .bool a.carry] ∧ Kept w ws) (fun _ i _ => 5 - (intOf i).toNat)
      case atStart => exact ⟨0, by omega, rfl, rfl, owns_kept ((Kept.refl wr).alloc _) O.out, has_alloc _ _ _, KT.out.alloc _⟩
      case round =>
        obtain ⟨k, hk, rfl, rfl, ho, hc, hkt⟩ := hrel
        have O := hid ho
        have HC := hid hc
        have KT := hid hkt
        obtain ⟨zc, cc⟩ := id hc
        have c0 := cc 0
        have c1 := cc 1
        have c2 := cc 2
        have c3 := cc 3
        have c4 := cc 4
        have c5 := cc 5
        simp at c0 c1 c2 c3 c4 c5
        clear ho hc hkt cc
        by_cases hlt : k < 5
        · have d1 : (k : Int) < 5 := by omega
          have d2 : decide ((k : Int) < 5) = true := decide_eq_true d1
          have C := hid (CA.out (8 + (k : Int)))
          rw [RE.out k hlt] at C
          have ST := hid (five_step a k)
          generalize readC a (8 + (k : Int)) = rv at *
          go_wp2_with fail
          refine (C.out _).mono ?_
          rintro e u2 ⟨rfl, g2⟩
          have O2 := hid (owns_kept ((Kept.of g2).alloc (.cells #[.int .u8 rv] 5)) O.out)
          have HC2 := hid (has_past (has_grown g2 HC.out) (.cells #[.int .u8 rv] 5))
          have K2 := hid ((KT.out.trans (Kept.of g2)).alloc (.cells #[.int .u8 rv] 5))
          have RC := hid (one_cell u2 rv)
          clear g2 c0 c1 c2 c3 c4 c5 zc
          go_wp2_with (at_builtin; refine wpList_append_fits _ rfl _ _ 22 rfl (w.heap.size + 2) 5 i0 1 Tryz.underlying22 hi hz1 (w.heap.size + 2) (k) 10 _ rfl O2.out ⟨u2.heap.size, 0, none⟩ 1 1 ([rv].map (Value.int .u8)) rfl (by simp) RC.out ?c2 ?c3 ?_)
          case c2 => intro u hu; obtain ⟨q, _, rfl⟩ := List.mem_map.1 hu; rfl
          case c3 => omega
          intro w6 hown6 hgrow6
          have OW := hid (show w6.ownsRow (w.heap.size + 2) 5 1 (.slice (some ⟨w.heap.size + 2, 0, none⟩) ((k + 1)) 10) ((k + 1)) ((fiveL a (k + 1)).map (Value.int .u8)) by rw [ST.out, List.map_append]; exact hown6)
          have HC6 := hid (has_by HC2.out hgrow6 (fun q hq => by obtain rfl := Option.some.inj hq; omega))
          have K6 := hid (K2.out.by hgrow6 (fun q hq => by obtain rfl := Option.some.inj hq; omega))
          clear hown6 hgrow6
          go_wp2_with fail
          go_roundw
          case rel => exact ⟨k + 1, by omega, by go_num, rfl, OW.out, HC6.out, K6.out⟩
          case measure => first | omega | (simp; omega) | (simp [intOf]; omega)
        · obtain rfl : k = 5 := by omega
          clear c0 c1 c2 c3 c4 c5 zc
          go_wp2_with fail
          go_roundw
          case rel => exact ⟨KT.out, .inr (.inl ⟨by go_num, rfl, O.out⟩)⟩
          case measure => first | omega | (simp; omega) | (simp [intOf]; omega) | (simp [intOf]; done)
    · have ix : ∀ u, (Instr.index 106 (.agg #[.int .u8 a.sec, .int .u8 a.min, .int .u8 a.hour, .int .u16 a.day, .bool a.halt, .bool a.carry, .int .u8 b.sec, .int .u8 b.min, .int .u8 b.hour, .int .u16 b.day, .bool b.halt, .bool b.carry]) (.int .i64 1)).run Tryz.prog u = .ok (.agg #[.int .u8 b.sec, .int .u8 b.min, .int .u8 b.hour, .int .u16 b.day, .bool b.halt, .bool b.carry]) u := fun _ => by kernel_rfl
      have HQ := has_own ho
      have O := hid ho
      clear ho
      go_wp2_with fail
      go_loopw [5, 18] (fun v i ws => ∃ k : Nat, k ≤ 5 ∧ i = .int .i64 (k : Int) ∧ v = .slice (some ⟨w.heap.size + 2, 0, none⟩) (5 + k) 10 ∧ ws.ownsRow (w.heap.size + 2) 5 1 v (5 + k) ((fiveL a 5 ++ fiveL b k).map (Value.int .u8)) ∧ Has ws wr.heap.size #[.int .u8 b.sec, .int .u8 b.min, .int .u8 b.hour, .int .u16 b.day, .bool b.halt, .bool b.carry] ∧ Kept w ws) (fun _ i _ => 5 - (intOf i).toNat)
      case atStart => exact ⟨0, by omega, rfl, rfl, (by rw [show fiveL b 0 = [] from rfl, List.append_nil]; exact owns_kept ((Kept.refl wr).alloc _) O.out), has_alloc _ _ _, KT.out.alloc _⟩
      case round =>
        obtain ⟨k, hk, rfl, rfl, ho, hc, hkt⟩ := hrel
        have O := hid ho
        have HC := hid hc
        have KT := hid hkt
        obtain ⟨zc, cc⟩ := id hc
        have c0 := cc 0
        have c1 := cc 1
        have c2 := cc 2
        have c3 := cc 3
        have c4 := cc 4
        have c5 := cc 5
        simp at c0 c1 c2 c3 c4 c5
        clear ho hc hkt cc
        by_cases hlt : k < 5
        · have d1 : (k : Int) < 5 := by omega
          have d2 : decide ((k : Int) < 5) = true := decide_eq_true d1
          have C := hid (CB.out (8 + (k : Int)))
          rw [RE.out k hlt] at C
          have ST := hid (five_step b k)
          generalize readC b (8 + (k : Int)) = rv at *
          go_wp2_with fail
          refine (C.out _).mono ?_
          rintro e u2 ⟨rfl, g2⟩
          have O2 := hid (owns_kept ((Kept.of g2).alloc (.cells #[.int .u8 rv] 5)) O.out)
          have HC2 := hid (has_past (has_grown g2 HC.out) (.cells #[.int .u8 rv] 5))
          have K2 := hid ((KT.out.trans (Kept.of g2)).alloc (.cells #[.int .u8 rv] 5))
          have RC := hid (one_cell u2 rv)
          clear g2 c0 c1 c2 c3 c4 c5 zc
          go_wp2_with (at_builtin; refine wpList_append_fits _ rfl _ _ 22 rfl (w.heap.size + 2) 5 i0 1 Tryz.underlying22 hi hz1 (w.heap.size + 2) (5 + k) 10 _ rfl O2.out ⟨u2.heap.size, 0, none⟩ 1 1 ([rv].map (Value.int .u8)) rfl (by simp) RC.out ?c2 ?c3 ?_)
          case c2 => intro u hu; obtain ⟨q, _, rfl⟩ := List.mem_map.1 hu; rfl
          case c3 => omega
          intro w6 hown6 hgrow6
          have OW := hid (show w6.ownsRow (w.heap.size + 2) 5 1 (.slice (some ⟨w.heap.size + 2, 0, none⟩) (5 + (k + 1)) 10) (5 + (k + 1)) ((fiveL a 5 ++ fiveL b (k + 1)).map (Value.int .u8)) by rw [ST.out, ← List.append_assoc, List.map_append]; exact hown6)
          have HC6 := hid (has_by HC2.out hgrow6 (fun q hq => by obtain rfl := Option.some.inj hq; omega))
          have K6 := hid (K2.out.by hgrow6 (fun q hq => by obtain rfl := Option.some.inj hq; omega))
          clear hown6 hgrow6
          go_wp2_with fail
          go_roundw
          case rel => exact ⟨k + 1, by omega, by go_num, rfl, OW.out, HC6.out, K6.out⟩
          case measure => first | omega | (simp; omega) | (simp [intOf]; omega)
        · obtain rfl : k = 5 := by omega
          clear c0 c1 c2 c3 c4 c5 zc
          go_wp2_with fail
          go_roundw
          case rel => exact ⟨KT.out, .inr (.inr ⟨by go_num, rfl, O.out⟩)⟩
          case measure => first | omega | (simp; omega) | (simp [intOf]; omega) | (simp [intOf]; done)
    · have OB := hid (show wr.ownsRow w.heap.size 5 1 (.slice (some ⟨w.heap.size + 2, 0, none⟩) 10 10) (bytesL a b).length ((bytesL a b).map (Value.int .u8)) by
        have o := ho
        rw [← BL.out] at o
        rw [show (bytesL a b).length = 10 by rw [BL.out, List.length_append, five_len, five_len]]
        exact owns_low o (by omega))
      clear ho
      go_wp2
      go_ret
      exact ⟨_, rfl, OB.out, KT.out⟩
end Go.Proofs.YtfmddnekooojkaaGreatDoor
