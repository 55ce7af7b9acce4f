/- What the document's answers of layer 9 come to: Bytes. -/
import Derived.Test.YtfmddnekooojkaaGreatDoorG08
import Derived.Test.YtfmddnekooojkaaGreatDoorG04
import Derived.Laws.AppendOwnNone
namespace Go.Proofs.YtfmddnekooojkaaGreatDoor
open Go.RowKit
set_option linter.unusedVariables false
set_option linter.unusedSimpArgs false

theorem info9_u8 : (Tryz.prog.info? 5).map (fun i => (i.zero, i.size, i.bytes)) = some (some (.int .u8 0), 1, 1) := by kernel_rfl
def fiveL (c : Ck) (k : Nat) : List Int := (List.range k).map (fun (i : Nat) => readC c (8 + (i : Int)))
def bytesL (a b : Ck) : List Int := fiveL a 5 ++ fiveL b 5
theorem five_step (c : Ck) (k : Nat) : fiveL c (k + 1) = fiveL c k ++ [readC c (8 + (k : Int))] := by unfold fiveL; rw [List.range_succ, List.map_append]; rfl
theorem five_len (c : Ck) (k : Nat) : (fiveL c k).length = k := by simp [fiveL]
theorem one_cell (w : World) (v : Int) : ∀ j u, ([v].map (Value.int .u8))[j]? = some u → (w.alloc (.cells #[.int .u8 v] 5)).cell? ((⟨w.heap.size, 0, none⟩ : Addr).add j) = some u := by
  intro j u hu
  have hj : j = 0 := by
    by_cases q : j = 0
    · exact q
    · rw [List.getElem?_eq_none (by simp; omega)] at hu; cases hu
  subst hj
  rw [show (⟨w.heap.size, 0, none⟩ : Addr).add 0 = ⟨w.heap.size, 0, none⟩ from rfl, (has_alloc w #[.int .u8 v] 5).2 0, ← hu]
  rfl
theorem owns_low {w : World} {b1 b2 : Nat} {e : TypeId} {v : Value} {n : Nat} {xs : List Value} (h : w.ownsRow b1 e 1 v n xs) (hb : b2 ≤ b1) : w.ownsRow b2 e 1 v n xs := by
  obtain ⟨h0, h | ⟨g2, cap2, cur, ev, h1, hh, hr⟩⟩ := h
  · exact ⟨h0, .inl h⟩
  · exact ⟨h0, .inr ⟨g2, cap2, cur, ev, Nat.le_trans hb h1, hh, hr⟩⟩
set_option maxRecDepth 100000 in
set_option maxHeartbeats 8000000 in
theorem rbytes_any (a b : Ck) (w : World) (I : CkIn a) (J : CkIn b) : Calls Tryz.prog 40 #[ckV a, ckV b] w fun e w' => ∃ v, e = .returned v ∧ w'.ownsRow w.heap.size 5 1 v (bytesL a b).length ((bytesL a b).map (Value.int .u8)) ∧ Kept w w' := by
  obtain ⟨i0, hi, hz0, hz1, hz2⟩ := info_parts info9_u8
  have CA := hid (fun r u => rread_any a r u I)
  have CB := hid (fun r u => rread_any b r u J)
  have RE := hid (fun (k : Nat) (h : k < 5) => show regE (8 + (k : Int)) = 0 by
    have : k = 0 ∨ k = 1 ∨ k = 2 ∨ k = 3 ∨ k = 4 := by omega
    rcases this with rfl | rfl | rfl | rfl | rfl <;> rfl)
  have BL := hid (show bytesL a b = fiveL a 5 ++ fiveL b 5 from rfl)
  clear I J
  go_enter Tryz.func40, Tryz.ntmps40
  go_wp2_with fail
  go_loopw [5, 6] (fun v i wr => ∃ k : Nat, k ≤ 5 ∧ i = .int .i64 (8 + (k : Int)) ∧ wr.ownsRow (w.heap.size + 2) 5 1 v k ((fiveL a k).map (Value.int .u8)) ∧ Has wr w.heap.size #[.int .u8 a.sec, .int .u8 a.min, .int .u8 a.hour, .int .u16 a.day, .bool a.halt, .bool a.carry] ∧ Has wr (w.heap.size + 1) #[.int .u8 b.sec, .int .u8 b.min, .int .u8 b.hour, .int .u16 b.day, .bool b.halt, .bool b.carry] ∧ Kept w wr) (fun _ i _ => 13 - (intOf i).toNat)
  case atStart => exact ⟨0, by omega, rfl, ⟨rfl, .inl ⟨rfl, rfl⟩⟩, has_past (has_alloc _ _ _) _, (by have h := has_alloc (w.alloc (.cells #[.int .u8 a.sec, .int .u8 a.min, .int .u8 a.hour, .int .u16 a.day, .bool a.halt, .bool a.carry] 35)) #[.int .u8 b.sec, .int .u8 b.min, .int .u8 b.hour, .int .u16 b.day, .bool b.halt, .bool b.carry] 35; simp only [World.size_alloc] at h; exact h), ((Kept.refl w).alloc _).alloc _⟩
  case round =>
    obtain ⟨k, hk, rfl, ho, ha, hb, hkt⟩ := hrel
    have O := hid ho
    have HA := hid ha
    have HB := hid hb
    have KT := hid hkt
    obtain ⟨za, ca⟩ := id ha
    have a0 := ca 0
    have a1 := ca 1
    have a2 := ca 2
    have a3 := ca 3
    have a4 := ca 4
    have a5 := ca 5
    simp at a0 a1 a2 a3 a4 a5
    clear ho ha hb hkt ca
    by_cases hlt : k < 5
    · have d1 : 8 + (k : Int) ≤ 12 := by omega
      have d2 : decide (8 + (k : Int) ≤ 12) = true := decide_eq_true d1
      have C := hid (CA.out (8 + (k : Int)))
      rw [RE.out k hlt] at C
      have ST := hid (five_step a k)
      generalize readC a (8 + (k : Int)) = rv at *
      go_wp2_with fail
      refine (C.out _).mono ?_
      rintro e u2 ⟨rfl, g2⟩
      have O2 := hid (owns_kept ((Kept.of g2).alloc (.cells #[.int .u8 rv] 5)) O.out)
      have HA2 := hid (has_past (has_grown g2 HA.out) (.cells #[.int .u8 rv] 5))
      have HB2 := hid (has_past (has_grown g2 HB.out) (.cells #[.int .u8 rv] 5))
      have K2 := hid ((KT.out.trans (Kept.of g2)).alloc (.cells #[.int .u8 rv] 5))
      have RC := hid (one_cell u2 rv)
      have zz : w.heap.size + 2 ≤ u2.heap.size + 1 := by have := (has_grown g2 HB.out).1; omega
      clear g2 a0 a1 a2 a3 a4 a5 za
      go_wp2_with (at_builtin; refine wpList_append_own _ rfl _ _ 22 rfl (w.heap.size + 2) 5 i0 (.int .u8 0) 1 1 Tryz.underlying22 hi hz0 hz1 hz2 rfl (by decide) _ _ _ rfl O2.out ⟨u2.heap.size, 0, none⟩ 1 1 ([rv].map (Value.int .u8)) rfl (by simp) RC.out ?c2 ?c3 ?c4 ?c5 ?_)
      case c2 => intro u hu; obtain ⟨q, _, rfl⟩ := List.mem_map.1 hu; rfl
      case c3 => unfold maxLen; omega
      case c4 => omega
      case c5 => simpa using zz
      intro v6 w6 hown6 hgrow6 _
      have OW := hid (show w6.ownsRow (w.heap.size + 2) 5 1 v6 (k + 1) ((fiveL a (k + 1)).map (Value.int .u8)) by rw [ST.out, List.map_append]; exact hown6)
      have RW := owns_row O2.out
      have HA6 := hid (has_by HA2.out hgrow6 (fun q hq => by have := RW q hq; omega))
      have HB6 := hid (has_by HB2.out hgrow6 (fun q hq => by have := RW q hq; omega))
      have K6 := hid (K2.out.by hgrow6 (fun q hq => by have := RW q hq; omega))
      clear hown6 hgrow6
      go_wp2_with fail
      go_roundw
      case rel => exact ⟨k + 1, by omega, by go_num, OW.out, HA6.out, HB6.out, K6.out⟩
      case measure => first | omega | (simp; omega) | (simp [intOf]; omega)
    · obtain rfl : k = 5 := by omega
      have d1 : ¬ (8 + ((5 : Nat) : Int) ≤ 12) := by omega
      have d2 : decide (8 + ((5 : Nat) : Int) ≤ 12) = false := decide_eq_false d1
      have d3 : decide ((13 : Int) ≤ 12) = false := by decide
      clear a0 a1 a2 a3 a4 a5 za
      go_wp2_with fail
      go_loopw [5, 9] (fun v i ws => ∃ k : Nat, k ≤ 5 ∧ i = .int .i64 (8 + (k : Int)) ∧ ws.ownsRow (w.heap.size + 2) 5 1 v (5 + k) ((fiveL a 5 ++ fiveL b k).map (Value.int .u8)) ∧ Has ws w.heap.size #[.int .u8 a.sec, .int .u8 a.min, .int .u8 a.hour, .int .u16 a.day, .bool a.halt, .bool a.carry] ∧ Has ws (w.heap.size + 1) #[.int .u8 b.sec, .int .u8 b.min, .int .u8 b.hour, .int .u16 b.day, .bool b.halt, .bool b.carry] ∧ Kept w ws) (fun _ i _ => 13 - (intOf i).toNat)
      case atStart => exact ⟨0, by omega, rfl, (by rw [show fiveL b 0 = [] from rfl, List.append_nil]; exact O.out), HA.out, HB.out, KT.out⟩
      case round =>
        obtain ⟨k, hk, rfl, ho, ha, hb, hkt⟩ := hrel
        have O := hid ho
        have HA := hid ha
        have HB := hid hb
        have KT := hid hkt
        obtain ⟨zb, cb⟩ := id hb
        have b0 := cb 0
        have b1 := cb 1
        have b2 := cb 2
        have b3 := cb 3
        have b4 := cb 4
        have b5 := cb 5
        simp at b0 b1 b2 b3 b4 b5
        clear ho ha hb hkt cb d1 d2 d3
        by_cases hlt : k < 5
        · have d1 : 8 + (k : Int) ≤ 12 := by omega
          have d2 : decide (8 + (k : Int) ≤ 12) = true := decide_eq_true d1
          have C := hid (CB.out (8 + (k : Int)))
          rw [RE.out k hlt] at C
          have ST := hid (five_step b k)
          generalize readC b (8 + (k : Int)) = rv at *
          go_wp2_with fail
          refine (C.out _).mono ?_
          rintro e u2 ⟨rfl, g2⟩
          have O2 := hid (owns_kept ((Kept.of g2).alloc (.cells #[.int .u8 rv] 5)) O.out)
          have HA2 := hid (has_past (has_grown g2 HA.out) (.cells #[.int .u8 rv] 5))
          have HB2 := hid (has_past (has_grown g2 HB.out) (.cells #[.int .u8 rv] 5))
          have K2 := hid ((KT.out.trans (Kept.of g2)).alloc (.cells #[.int .u8 rv] 5))
          have RC := hid (one_cell u2 rv)
          have zz : w.heap.size + 2 ≤ u2.heap.size + 1 := by have := (has_grown g2 HB.out).1; omega
          clear g2 b0 b1 b2 b3 b4 b5 zb
          go_wp2_with (at_builtin; refine wpList_append_own _ rfl _ _ 22 rfl (w.heap.size + 2) 5 i0 (.int .u8 0) 1 1 Tryz.underlying22 hi hz0 hz1 hz2 rfl (by decide) _ _ _ rfl O2.out ⟨u2.heap.size, 0, none⟩ 1 1 ([rv].map (Value.int .u8)) rfl (by simp) RC.out ?c2 ?c3 ?c4 ?c5 ?_)
          case c2 => intro u hu; obtain ⟨q, _, rfl⟩ := List.mem_map.1 hu; rfl
          case c3 => unfold maxLen; omega
          case c4 => omega
          case c5 => simpa using zz
          intro v6 w6 hown6 hgrow6 _
          have OW := hid (show w6.ownsRow (w.heap.size + 2) 5 1 v6 (5 + (k + 1)) ((fiveL a 5 ++ fiveL b (k + 1)).map (Value.int .u8)) by rw [ST.out, ← List.append_assoc, List.map_append]; exact hown6)
          have RW := owns_row O2.out
          have HA6 := hid (has_by HA2.out hgrow6 (fun q hq => by have := RW q hq; omega))
          have HB6 := hid (has_by HB2.out hgrow6 (fun q hq => by have := RW q hq; omega))
          have K6 := hid (K2.out.by hgrow6 (fun q hq => by have := RW q hq; omega))
          clear hown6 hgrow6
          go_wp2_with fail
          go_roundw
          case rel => exact ⟨k + 1, by omega, by go_num, OW.out, HA6.out, HB6.out, K6.out⟩
          case measure => first | omega | (simp; omega) | (simp [intOf]; omega)
        · obtain rfl : k = 5 := by omega
          have d1 : ¬ (8 + ((5 : Nat) : Int) ≤ 12) := by omega
          have d2 : decide (8 + ((5 : Nat) : Int) ≤ 12) = false := decide_eq_false d1
          have d3 : decide ((13 : Int) ≤ 12) = false := by decide
          have OB := hid (show wr.ownsRow w.heap.size 5 1 u5 (bytesL a b).length ((bytesL a b).map (Value.int .u8)) by
            have o := O.out
            rw [← BL.out] at o
            rw [show (bytesL a b).length = 5 + 5 by rw [BL.out, List.length_append, five_len, five_len]]
            exact owns_low o (by omega))
          go_wp2
          go_ret
          exact ⟨_, rfl, OB.out, KT.out⟩
end Go.Proofs.YtfmddnekooojkaaGreatDoor
