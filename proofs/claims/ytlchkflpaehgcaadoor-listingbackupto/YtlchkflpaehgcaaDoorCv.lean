/- What One of layer 6 comes to. What Lines of layer 6 comes to. A map of shapes that a call made: what it holds, as a function. -/
import Derived.Test.YtlchkflpaehgcaaDoorCu
import Derived.Test.YtlchkflpaehgcaaDoorCb
import Derived.Laws.IdiomCopy
import Derived.Test.YtlchkflpaehgcaaDoorCk
import Derived.Test.YtlchkflpaehgcaaDoorCl
import Derived.Maps.OwnSet
import Derived.Maps.OwnOps
import Derived.Maps.Views
namespace Go.Proofs.YtlchkflpaehgcaaDoor
open Go.RowKit
set_option linter.unusedVariables false
set_option linter.unusedSimpArgs false

theorem cell_alloc6 {w : World} {o : Obj} {x : Addr} (h : x.block < w.heap.size) : (w.alloc o).cell? x = w.cell? x := World.cell?_of_block (w := w) (Below.heap_alloc w o x.block h)
theorem pre_fin : ∀ a : Fin 256, ((decOf (a.val : Int)).kind = 6 ↔ (a.val : Int) = 203) := by decide +kernel
theorem pre_iff (b : Int) (h0 : 0 ≤ b) (h1 : b ≤ 255) : (decOf b).kind = 6 ↔ b = 203 := fin8 (p := fun a => (decOf a).kind = 6 ↔ a = 203) pre_fin b h0 h1
theorem line_203 : lineOf 203 false 0 0 = dbS 203 := by kernel_rfl
theorem ldb_line (b : Int) : lineS ⟨#[68, 66]⟩ [hexM b] = dbS b := by
  apply ByteArray.ext
  simp [lineS, joinS, hexM, dbS]
set_option maxRecDepth 100000 in
set_option maxHeartbeats 4000000 in
theorem lone_any (zs : List Int) (a : Option Addr) (cap : Nat) (w : World) (row : Row w a zs) (hcap : zs.length ≤ cap) (hmax : cap ≤ maxLen) (lay : Lay w) : Calls Tryd.prog 9 #[.slice a zs.length cap] w fun e w' => e = .returned (.tuple #[.string (oneS zs), .int .i64 (oneN zs)]) ∧ Kept w w' := by
  cases zs with
  | nil =>
    go_enter Tryd.func9, Tryd.ntmps9
    go_wp2
    go_ret2
    exact ⟨rfl, Kept.refl _⟩
  | cons b l =>
    obtain ⟨hm, hby, hx⟩ := row
    obtain ⟨x, rfl, hxb, hc⟩ : ∃ x : Addr, a = some x ∧ x.block < w.heap.size ∧ ∀ i, i < (b :: l).length → w.cell? (x.add i) = some (.int .u8 ((b :: l).getD i 0)) := by
      rcases hx with h | h
      · cases h
      · exact h
    clear hx
    obtain ⟨b0, b1⟩ := hby b (by simp)
    have c0 : w.cell? x = some (.int .u8 b) := hc 0 (by simp)
    have L0 := hid lay
    clear lay
    have p6 := pre_iff b b0 b1
    obtain ⟨LN, hLN⟩ : ∃ n : Nat, l.length = n := ⟨_, rfl⟩
    have lmx : LN + 1 ≤ maxLen := by rw [← hLN]; simpa using hm
    have ln0 : (((LN + 1 : Nat) : Int) == 0) = false := by simp; omega
    have hcap2 : LN + 1 ≤ cap := by rw [← hLN]; simpa using hcap
    have hcap3 : (LN : Int) + 1 ≤ (cap : Int) := by omega
    have hmax2 : (cap : Int) ≤ 9223372036854775807 := by unfold maxLen at hmax; omega
    clear hcap
    by_cases hb : b = 203
    · have hk := p6.2 hb
      have bb : (b == 203) = true := by simp [hb]
      cases l with
      | nil =>
        obtain rfl : LN = 0 := by simpa using hLN.symm
        have ES := hid (show oneS [b] = lineOf b false 0 0 by simp only [oneS]; rw [if_pos hk, hb]; exact line_203.symm)
        have EN := hid (show oneN [b] = 1 by simp only [oneN]; rw [if_pos hk])
        obtain ⟨F, hF⟩ : ∃ F, decOf b = F := ⟨_, rfl⟩
        have HF := hid hF
        have bo : F.bytes = 1 := by rw [← hF, hb]; kernel_rfl
        rw [show [b].length = 0 + 1 from rfl]
        clear hc hby hF hm hk p6 hLN hb
        by_cases hc1 : cap = 1
        · subst hc1
          go_enter Tryd.func9, Tryd.ntmps9
          go_wp2_with fail
          refine (decode_any b _ b0 b1).mono ?_
          rintro e u1 ⟨rfl, g1⟩
          rw [HF.out]
          have K1 := hid (Kept.of g1)
          have zx : x.block < u1.heap.size := Nat.lt_of_lt_of_le hxb g1.2.2
          have nx : x.block ≠ u1.heap.size := by omega
          have zx1 : x.block < u1.heap.size + 1 := by omega
          have d0 := (cell_grown g1 (x := x) hxb).trans c0
          clear g1
          have fx : ∀ u, (Instr.field 42 (.agg #[.int .i64 F.kind, .int .i64 F.x, .int .i64 F.y, .int .i64 1, .int .i64 F.cycles, .int .i64 F.taken]) 3).run Tryd.prog u = .ok (.int .i64 1) u := fun _ => by kernel_rfl
          have cp : ∀ q a cap' u, (Builtin.copy_ #[27, 27] q #[.slice (some ⟨u1.heap.size, 0, none⟩) 2 2, .slice a 0 cap']).run Tryd.prog u = .ok (.int .i64 0) u := fun q a cap' u => run_copy_none u _ _ q 5 _ a 2 2 0 cap' Tryd.underlying27 (by kernel_rfl) rfl
          have HA := hid (has_alloc u1 #[.int .u8 0, .int .u8 0] 48)
          have KA := hid (((K1.out.alloc (.cells #[.int .u8 0, .int .u8 0] 48)).drew).drew)
          have L1 := hid (L0.out.kept KA.out)
          have dA := hid (show ((u1.alloc (.cells #[.int .u8 0, .int .u8 0] 48)).drew.drew).cell? x = some (.int .u8 b) from (cell_alloc6 zx).trans d0)
          have zu : u1.heap.size < u1.heap.size + 1 := by omega
          go_wp2
          go_region
          all_goals
            clear cp fx
            go_wp2
            go_region_held3 (fun w' => x.block < w'.heap.size ∧ w'.cell? x = some (.int .u8 b) ∧ u1.heap.size < w'.heap.size ∧ w'.cell? ⟨u1.heap.size, 0, none⟩ = some (.int .u8 0) ∧ w'.cell? ⟨u1.heap.size, 1, none⟩ = some (.int .u8 0)) (go_keep) (first | (go_at_call 7; refine (ltext_any b false 0 0 _ b0 b1 (by decide) (by decide) (by decide) (by decide) L1.out).mono ?_; rintro e u2 ⟨rfl, g2⟩; have D2 := has_kept6 g2 HA.out; obtain ⟨zD2, cD2⟩ := id D2; have zy : x.block < u2.heap.size := Nat.lt_of_lt_of_le zx1 (by have := g2.size; simpa using this); have dy : u2.cell? x = some (.int .u8 b) := (g2.cell (x := x) (by simpa using zx1)).trans dA.out; have K2 := hid (KA.out.trans g2)))
            all_goals
              go_wp2
              go_ret2
              exact ⟨by rw [ES.out, EN.out]; rfl, K2.out⟩
        · go_enter Tryd.func9, Tryd.ntmps9
          go_wp2_with fail
          refine (decode_any b _ b0 b1).mono ?_
          rintro e u1 ⟨rfl, g1⟩
          rw [HF.out]
          have K1 := hid (Kept.of g1)
          have zx : x.block < u1.heap.size := Nat.lt_of_lt_of_le hxb g1.2.2
          have nx : x.block ≠ u1.heap.size := by omega
          have zx1 : x.block < u1.heap.size + 1 := by omega
          have d0 := (cell_grown g1 (x := x) hxb).trans c0
          clear g1
          have fx : ∀ u, (Instr.field 42 (.agg #[.int .i64 F.kind, .int .i64 F.x, .int .i64 F.y, .int .i64 1, .int .i64 F.cycles, .int .i64 F.taken]) 3).run Tryd.prog u = .ok (.int .i64 1) u := fun _ => by kernel_rfl
          have cp : ∀ q a cap' u, (Builtin.copy_ #[27, 27] q #[.slice (some ⟨u1.heap.size, 0, none⟩) 2 2, .slice a 0 cap']).run Tryd.prog u = .ok (.int .i64 0) u := fun q a cap' u => run_copy_none u _ _ q 5 _ a 2 2 0 cap' Tryd.underlying27 (by kernel_rfl) rfl
          have HA := hid (has_alloc u1 #[.int .u8 0, .int .u8 0] 48)
          have KA := hid (((K1.out.alloc (.cells #[.int .u8 0, .int .u8 0] 48)).drew).drew)
          have L1 := hid (L0.out.kept KA.out)
          have dA := hid (show ((u1.alloc (.cells #[.int .u8 0, .int .u8 0] 48)).drew.drew).cell? x = some (.int .u8 b) from (cell_alloc6 zx).trans d0)
          have zu : u1.heap.size < u1.heap.size + 1 := by omega
          go_wp2
          go_region
          all_goals
            clear cp fx
            go_wp2
            go_region_held3 (fun w' => x.block < w'.heap.size ∧ w'.cell? x = some (.int .u8 b) ∧ u1.heap.size < w'.heap.size ∧ w'.cell? ⟨u1.heap.size, 0, none⟩ = some (.int .u8 0) ∧ w'.cell? ⟨u1.heap.size, 1, none⟩ = some (.int .u8 0)) (go_keep) (first | (go_at_call 7; refine (ltext_any b false 0 0 _ b0 b1 (by decide) (by decide) (by decide) (by decide) L1.out).mono ?_; rintro e u2 ⟨rfl, g2⟩; have D2 := has_kept6 g2 HA.out; obtain ⟨zD2, cD2⟩ := id D2; have zy : x.block < u2.heap.size := Nat.lt_of_lt_of_le zx1 (by have := g2.size; simpa using this); have dy : u2.cell? x = some (.int .u8 b) := (g2.cell (x := x) (by simpa using zx1)).trans dA.out; have K2 := hid (KA.out.trans g2)))
            all_goals
              go_wp2
              go_ret2
              exact ⟨by rw [ES.out, EN.out]; rfl, K2.out⟩
      | cons c l2 =>
        have ES := hid (show oneS (b :: c :: l2) = lineOf c true 0 0 by simp only [oneS]; rw [if_pos hk])
        have EN := hid (show oneN (b :: c :: l2) = 2 by simp only [oneN]; rw [if_pos hk])
        obtain ⟨m0, m1⟩ := hby c (by simp)
        have c1 : w.cell? ⟨x.block, x.off + 1, none⟩ = some (.int .u8 c) := hc 1 (by simp)
        rw [show (b :: c :: l2).length = LN + 1 by simp [← hLN]]
        have hl1 : (1 : Int) < (LN : Int) + 1 := by simp at hLN; omega
        clear hc hby hm hk p6 hLN hb
        go_enter Tryd.func9, Tryd.ntmps9
        go_wp2_with fail
        refine (ltext_any c true 0 0 _ m0 m1 (by decide) (by decide) (by decide) (by decide) L0.out).mono ?_
        rintro e u1 ⟨rfl, g1⟩
        go_wp2
        go_ret2
        exact ⟨by rw [ES.out, EN.out]; rfl, g1⟩
    · have h6p : ¬ (decOf b).kind = 6 := fun h => hb (p6.1 h)
      have bb : (b == 203) = false := by simp [hb]
      obtain ⟨F, hF⟩ : ∃ F, decOf b = F := ⟨_, rfl⟩
      have HF := hid hF
      have bo := bytes_of b b0 b1
      rw [hF] at bo
      rw [show (b :: l).length = LN + 1 by simp [hLN]]
      clear p6
      by_cases hlt : (LN : Int) + 1 < F.bytes
      · have ES := hid (show oneS (b :: l) = dbS b by simp only [oneS]; rw [if_neg h6p, if_pos (by rw [hLN, hF]; exact hlt)])
        have EN := hid (show oneN (b :: l) = 1 by simp only [oneN]; rw [if_neg h6p, if_pos (by rw [hLN, hF]; exact hlt)])
        clear hc hby hF hm h6p bo hLN
        go_enter Tryd.func9, Tryd.ntmps9
        go_wp2_with fail
        refine (decode_any b _ b0 b1).mono ?_
        rintro e u1 ⟨rfl, g1⟩
        rw [HF.out]
        have K1 := hid (Kept.of g1)
        have zx : x.block < u1.heap.size := Nat.lt_of_lt_of_le hxb g1.2.2
        have nx : x.block ≠ u1.heap.size := by omega
        have zx1 : x.block < u1.heap.size + 1 := by omega
        have d0 := (cell_grown g1 (x := x) hxb).trans c0
        clear g1
        have fx : ∀ u, (Instr.field 42 (.agg #[.int .i64 F.kind, .int .i64 F.x, .int .i64 F.y, .int .i64 F.bytes, .int .i64 F.cycles, .int .i64 F.taken]) 3).run Tryd.prog u = .ok (.int .i64 F.bytes) u := fun _ => by kernel_rfl
        go_wp2_with fail
        refine (lhex8_any b _ b0 b1).mono ?_
        rintro e u2 ⟨rfl, g2⟩
        have K2 := hid (K1.out.trans g2)
        clear g2
        go_wp2_with fail
        refine (lline_any ⟨#[68, 66]⟩ _ [hexM b] _ (strs_one _ _ _) (by simp) (fun s hs => by simp at hs; subst hs; simp [hexM, hex8Of, ByteArray.size_append, ByteArray.size]) (by simp [ByteArray.size])).mono ?_
        rintro e u3 ⟨rfl, g3⟩
        have K3 := hid ((K2.out.alloc _).trans g3)
        go_wp2
        go_ret2
        exact ⟨by rw [ES.out, EN.out, ← ldb_line]; rfl, K3.out⟩
      · rcases bo with bo | bo | bo
        · have ES := hid (show oneS (b :: l) = lineOf b false 0 0 by simp only [oneS]; rw [if_neg h6p, if_neg (by rw [hLN, hF]; exact hlt), hF, bo, if_neg (by decide), if_neg (by decide)])
          have EN := hid (show oneN (b :: l) = 1 by simp only [oneN]; rw [if_neg h6p, if_neg (by rw [hLN, hF]; exact hlt), hF, bo])
          clear hc hby hF hm h6p hLN
          by_cases hc1 : cap = 1
          · have e0 : LN = 0 := by omega
            subst hc1
            subst e0
            go_enter Tryd.func9, Tryd.ntmps9
            go_wp2_with fail
            refine (decode_any b _ b0 b1).mono ?_
            rintro e u1 ⟨rfl, g1⟩
            rw [HF.out]
            have K1 := hid (Kept.of g1)
            have zx : x.block < u1.heap.size := Nat.lt_of_lt_of_le hxb g1.2.2
            have nx : x.block ≠ u1.heap.size := by omega
            have zx1 : x.block < u1.heap.size + 1 := by omega
            have d0 := (cell_grown g1 (x := x) hxb).trans c0
            clear g1
            have fx : ∀ u, (Instr.field 42 (.agg #[.int .i64 F.kind, .int .i64 F.x, .int .i64 F.y, .int .i64 1, .int .i64 F.cycles, .int .i64 F.taken]) 3).run Tryd.prog u = .ok (.int .i64 1) u := fun _ => by kernel_rfl
            have cp : ∀ q a cap' u, (Builtin.copy_ #[27, 27] q #[.slice (some ⟨u1.heap.size, 0, none⟩) 2 2, .slice a 0 cap']).run Tryd.prog u = .ok (.int .i64 0) u := fun q a cap' u => run_copy_none u _ _ q 5 _ a 2 2 0 cap' Tryd.underlying27 (by kernel_rfl) rfl
            have HA := hid (has_alloc u1 #[.int .u8 0, .int .u8 0] 48)
            have KA := hid (((K1.out.alloc (.cells #[.int .u8 0, .int .u8 0] 48)).drew).drew)
            have L1 := hid (L0.out.kept KA.out)
            have dA := hid (show ((u1.alloc (.cells #[.int .u8 0, .int .u8 0] 48)).drew.drew).cell? x = some (.int .u8 b) from (cell_alloc6 zx).trans d0)
            have zu : u1.heap.size < u1.heap.size + 1 := by omega
            go_wp2
            go_region
            all_goals
              clear cp fx
              go_wp2
              go_region_held3 (fun w' => x.block < w'.heap.size ∧ w'.cell? x = some (.int .u8 b) ∧ u1.heap.size < w'.heap.size ∧ w'.cell? ⟨u1.heap.size, 0, none⟩ = some (.int .u8 0) ∧ w'.cell? ⟨u1.heap.size, 1, none⟩ = some (.int .u8 0)) (go_keep) (first | (go_at_call 7; refine (ltext_any b false 0 0 _ b0 b1 (by decide) (by decide) (by decide) (by decide) L1.out).mono ?_; rintro e u2 ⟨rfl, g2⟩; have D2 := has_kept6 g2 HA.out; obtain ⟨zD2, cD2⟩ := id D2; have zy : x.block < u2.heap.size := Nat.lt_of_lt_of_le zx1 (by have := g2.size; simpa using this); have dy : u2.cell? x = some (.int .u8 b) := (g2.cell (x := x) (by simpa using zx1)).trans dA.out; have K2 := hid (KA.out.trans g2)))
              all_goals
                go_wp2
                go_ret2
                exact ⟨by rw [ES.out, EN.out]; rfl, K2.out⟩
          · go_enter Tryd.func9, Tryd.ntmps9
            go_wp2_with fail
            refine (decode_any b _ b0 b1).mono ?_
            rintro e u1 ⟨rfl, g1⟩
            rw [HF.out]
            have K1 := hid (Kept.of g1)
            have zx : x.block < u1.heap.size := Nat.lt_of_lt_of_le hxb g1.2.2
            have nx : x.block ≠ u1.heap.size := by omega
            have zx1 : x.block < u1.heap.size + 1 := by omega
            have d0 := (cell_grown g1 (x := x) hxb).trans c0
            clear g1
            have fx : ∀ u, (Instr.field 42 (.agg #[.int .i64 F.kind, .int .i64 F.x, .int .i64 F.y, .int .i64 1, .int .i64 F.cycles, .int .i64 F.taken]) 3).run Tryd.prog u = .ok (.int .i64 1) u := fun _ => by kernel_rfl
            have cp : ∀ q a cap' u, (Builtin.copy_ #[27, 27] q #[.slice (some ⟨u1.heap.size, 0, none⟩) 2 2, .slice a 0 cap']).run Tryd.prog u = .ok (.int .i64 0) u := fun q a cap' u => run_copy_none u _ _ q 5 _ a 2 2 0 cap' Tryd.underlying27 (by kernel_rfl) rfl
            have HA := hid (has_alloc u1 #[.int .u8 0, .int .u8 0] 48)
            have KA := hid (((K1.out.alloc (.cells #[.int .u8 0, .int .u8 0] 48)).drew).drew)
            have L1 := hid (L0.out.kept KA.out)
            have dA := hid (show ((u1.alloc (.cells #[.int .u8 0, .int .u8 0] 48)).drew.drew).cell? x = some (.int .u8 b) from (cell_alloc6 zx).trans d0)
            have zu : u1.heap.size < u1.heap.size + 1 := by omega
            go_wp2
            go_region
            all_goals
              clear cp fx
              go_wp2
              go_region_held3 (fun w' => x.block < w'.heap.size ∧ w'.cell? x = some (.int .u8 b) ∧ u1.heap.size < w'.heap.size ∧ w'.cell? ⟨u1.heap.size, 0, none⟩ = some (.int .u8 0) ∧ w'.cell? ⟨u1.heap.size, 1, none⟩ = some (.int .u8 0)) (go_keep) (first | (go_at_call 7; refine (ltext_any b false 0 0 _ b0 b1 (by decide) (by decide) (by decide) (by decide) L1.out).mono ?_; rintro e u2 ⟨rfl, g2⟩; have D2 := has_kept6 g2 HA.out; obtain ⟨zD2, cD2⟩ := id D2; have zy : x.block < u2.heap.size := Nat.lt_of_lt_of_le zx1 (by have := g2.size; simpa using this); have dy : u2.cell? x = some (.int .u8 b) := (g2.cell (x := x) (by simpa using zx1)).trans dA.out; have K2 := hid (KA.out.trans g2)))
              all_goals
                go_wp2
                go_ret2
                exact ⟨by rw [ES.out, EN.out]; rfl, K2.out⟩
        · obtain ⟨c, l2, rfl⟩ : ∃ c l2, l = c :: l2 := by
            cases l with
            | nil => simp at hLN; omega
            | cons c l2 => exact ⟨c, l2, rfl⟩
          have ES := hid (show oneS (b :: c :: l2) = lineOf b false c 0 by simp only [oneS]; rw [if_neg h6p, if_neg (by rw [hLN, hF]; exact hlt), hF, bo, if_pos rfl]; rfl)
          have EN := hid (show oneN (b :: c :: l2) = 2 by simp only [oneN]; rw [if_neg h6p, if_neg (by rw [hLN, hF]; exact hlt), hF, bo])
          have c1 : w.cell? ⟨x.block, x.off + 1, none⟩ = some (.int .u8 c) := hc 1 (by simp)
          obtain ⟨m0, m1⟩ := hby c (by simp)
          clear hc hby hF hm h6p hLN
          go_enter Tryd.func9, Tryd.ntmps9
          go_wp2_with fail
          refine (decode_any b _ b0 b1).mono ?_
          rintro e u1 ⟨rfl, g1⟩
          rw [HF.out]
          have K1 := hid (Kept.of g1)
          have zx : x.block < u1.heap.size := Nat.lt_of_lt_of_le hxb g1.2.2
          have nx : x.block ≠ u1.heap.size := by omega
          have zx1 : x.block < u1.heap.size + 1 := by omega
          have d0 := (cell_grown g1 (x := x) hxb).trans c0
          have d1 := (cell_grown g1 (x := ⟨x.block, x.off + 1, none⟩) hxb).trans c1
          clear g1
          have fx : ∀ u, (Instr.field 42 (.agg #[.int .i64 F.kind, .int .i64 F.x, .int .i64 F.y, .int .i64 2, .int .i64 F.cycles, .int .i64 F.taken]) 3).run Tryd.prog u = .ok (.int .i64 2) u := fun _ => by kernel_rfl
          have cp : ∀ q cap', (Builtin.copy_ #[27, 27] q #[.slice (some ⟨u1.heap.size, 0, none⟩) 2 2, .slice (some ⟨x.block, x.off + 1, none⟩) 1 cap']).run Tryd.prog (u1.alloc (.cells #[.int .u8 0, .int .u8 0] 48)).drew = .ok (.int .i64 1) (u1.alloc (.cells #[.int .u8 c, .int .u8 0] 48)).drew := fun q cap' => by
            have h := run_copy_cells (P := Tryd.prog) (u1.alloc (.cells #[.int .u8 0, .int .u8 0] 48)).drew 27 27 q 5 u1.heap.size 0 2 2 ⟨x.block, x.off + 1, none⟩ 1 cap' [.int .u8 c] Tryd.underlying27 (by kernel_rfl) rfl (fun j v hj => by
              match j, hj with
              | 0, hj => simp at hj; subst hj; simp only [Addr.add]; exact (World.cell?_alloc_past (hn := zx) ..).trans d1
              ) (fun j hj => by match j, hj with | 0, _ => simp) (fun j hj => by match j, hj with | 0, _ => simp) (fun v hv => by simp at hv; subst hv; rfl)
            simpa [World.setCells, goInt, World.setCell_drew, World.setCell_alloc_at] using h
          have HA := hid (has_alloc u1 #[.int .u8 c, .int .u8 0] 48)
          have KA := hid (((K1.out.alloc (.cells #[.int .u8 c, .int .u8 0] 48)).drew).drew)
          have L1 := hid (L0.out.kept KA.out)
          have dA := hid (show ((u1.alloc (.cells #[.int .u8 c, .int .u8 0] 48)).drew.drew).cell? x = some (.int .u8 b) from (cell_alloc6 zx).trans d0)
          have zu : u1.heap.size < u1.heap.size + 1 := by omega
          go_wp2
          go_region
          all_goals
            clear cp fx
            go_wp2
            go_region_held3 (fun w' => x.block < w'.heap.size ∧ w'.cell? x = some (.int .u8 b) ∧ u1.heap.size < w'.heap.size ∧ w'.cell? ⟨u1.heap.size, 0, none⟩ = some (.int .u8 c) ∧ w'.cell? ⟨u1.heap.size, 1, none⟩ = some (.int .u8 0)) (go_keep) (first | (go_at_call 7; refine (ltext_any b false c 0 _ b0 b1 m0 m1 (by decide) (by decide) L1.out).mono ?_; rintro e u2 ⟨rfl, g2⟩; have D2 := has_kept6 g2 HA.out; obtain ⟨zD2, cD2⟩ := id D2; have zy : x.block < u2.heap.size := Nat.lt_of_lt_of_le zx1 (by have := g2.size; simpa using this); have dy : u2.cell? x = some (.int .u8 b) := (g2.cell (x := x) (by simpa using zx1)).trans dA.out; have K2 := hid (KA.out.trans g2)))
            all_goals
              go_wp2
              go_ret2
              exact ⟨by rw [ES.out, EN.out]; rfl, K2.out⟩
        · obtain ⟨c, d, l2, rfl⟩ : ∃ c d l2, l = c :: d :: l2 := by
            cases l with
            | nil => simp at hLN; omega
            | cons c l2 =>
              cases l2 with
              | nil => simp at hLN; omega
              | cons d l3 => exact ⟨c, d, l3, rfl⟩
          have ES := hid (show oneS (b :: c :: d :: l2) = lineOf b false c d by simp only [oneS]; rw [if_neg h6p, if_neg (by rw [hLN, hF]; exact hlt), hF, bo, if_neg (by decide), if_pos rfl]; rfl)
          have EN := hid (show oneN (b :: c :: d :: l2) = 3 by simp only [oneN]; rw [if_neg h6p, if_neg (by rw [hLN, hF]; exact hlt), hF, bo])
          have c1 : w.cell? ⟨x.block, x.off + 1, none⟩ = some (.int .u8 c) := hc 1 (by simp)
          have c2 : w.cell? ⟨x.block, x.off + 2, none⟩ = some (.int .u8 d) := hc 2 (by simp)
          obtain ⟨m0, m1⟩ := hby c (by simp)
          obtain ⟨n0, n1⟩ := hby d (by simp)
          clear hc hby hF hm h6p hLN
          go_enter Tryd.func9, Tryd.ntmps9
          go_wp2_with fail
          refine (decode_any b _ b0 b1).mono ?_
          rintro e u1 ⟨rfl, g1⟩
          rw [HF.out]
          have K1 := hid (Kept.of g1)
          have zx : x.block < u1.heap.size := Nat.lt_of_lt_of_le hxb g1.2.2
          have nx : x.block ≠ u1.heap.size := by omega
          have zx1 : x.block < u1.heap.size + 1 := by omega
          have d0 := (cell_grown g1 (x := x) hxb).trans c0
          have d1 := (cell_grown g1 (x := ⟨x.block, x.off + 1, none⟩) hxb).trans c1
          have d2 := (cell_grown g1 (x := ⟨x.block, x.off + 2, none⟩) hxb).trans c2
          clear g1
          have fx : ∀ u, (Instr.field 42 (.agg #[.int .i64 F.kind, .int .i64 F.x, .int .i64 F.y, .int .i64 3, .int .i64 F.cycles, .int .i64 F.taken]) 3).run Tryd.prog u = .ok (.int .i64 3) u := fun _ => by kernel_rfl
          have cp : ∀ q cap', (Builtin.copy_ #[27, 27] q #[.slice (some ⟨u1.heap.size, 0, none⟩) 2 2, .slice (some ⟨x.block, x.off + 1, none⟩) 2 cap']).run Tryd.prog (u1.alloc (.cells #[.int .u8 0, .int .u8 0] 48)).drew = .ok (.int .i64 2) (u1.alloc (.cells #[.int .u8 c, .int .u8 d] 48)).drew := fun q cap' => by
            have h := run_copy_cells (P := Tryd.prog) (u1.alloc (.cells #[.int .u8 0, .int .u8 0] 48)).drew 27 27 q 5 u1.heap.size 0 2 2 ⟨x.block, x.off + 1, none⟩ 2 cap' [.int .u8 c, .int .u8 d] Tryd.underlying27 (by kernel_rfl) rfl (fun j v hj => by
              match j, hj with
              | 0, hj => simp at hj; subst hj; simp only [Addr.add]; exact (World.cell?_alloc_past (hn := zx) ..).trans d1
              | 1, hj => simp at hj; subst hj; simp only [Addr.add]; exact (World.cell?_alloc_past (hn := zx) ..).trans d2
              ) (fun j hj => by match j, hj with | 0, _ => simp | 1, _ => simp) (fun j hj => by match j, hj with | 0, _ => simp | 1, _ => simp) (fun v hv => by simp at hv; rcases hv with rfl | rfl <;> rfl)
            simpa [World.setCells, goInt, World.setCell_drew, World.setCell_alloc_at] using h
          have HA := hid (has_alloc u1 #[.int .u8 c, .int .u8 d] 48)
          have KA := hid (((K1.out.alloc (.cells #[.int .u8 c, .int .u8 d] 48)).drew).drew)
          have L1 := hid (L0.out.kept KA.out)
          have dA := hid (show ((u1.alloc (.cells #[.int .u8 c, .int .u8 d] 48)).drew.drew).cell? x = some (.int .u8 b) from (cell_alloc6 zx).trans d0)
          have zu : u1.heap.size < u1.heap.size + 1 := by omega
          go_wp2
          go_region
          all_goals
            clear cp fx
            go_wp2
            go_region_held3 (fun w' => x.block < w'.heap.size ∧ w'.cell? x = some (.int .u8 b) ∧ u1.heap.size < w'.heap.size ∧ w'.cell? ⟨u1.heap.size, 0, none⟩ = some (.int .u8 c) ∧ w'.cell? ⟨u1.heap.size, 1, none⟩ = some (.int .u8 d)) (go_keep) (first | (go_at_call 7; refine (ltext_any b false c d _ b0 b1 m0 m1 n0 n1 L1.out).mono ?_; rintro e u2 ⟨rfl, g2⟩; have D2 := has_kept6 g2 HA.out; obtain ⟨zD2, cD2⟩ := id D2; have zy : x.block < u2.heap.size := Nat.lt_of_lt_of_le zx1 (by have := g2.size; simpa using this); have dy : u2.cell? x = some (.int .u8 b) := (g2.cell (x := x) (by simpa using zx1)).trans dA.out; have K2 := hid (KA.out.trans g2)))
            all_goals
              go_wp2
              go_ret2
              exact ⟨by rw [ES.out, EN.out]; rfl, K2.out⟩
end Go.Proofs.YtlchkflpaehgcaaDoor
namespace Go.Proofs.YtlchkflpaehgcaaDoor
open Go.RowKit
set_option linter.unusedVariables false
set_option linter.unusedSimpArgs false

def slLen : Value → Nat
  | .slice _ n _ => n
  | _ => 0
theorem row_nil6 (w : World) (a : Option Addr) : Row w a [] := ⟨by simp, by simp, .inl rfl⟩
set_option maxRecDepth 100000 in
set_option maxHeartbeats 4000000 in
theorem llines_any (zs : List Int) (a : Option Addr) (cap : Nat) (w : World) (row : Row w a zs) (hcap : zs.length ≤ cap) (hmax : cap ≤ maxLen) (hbig : zs.length ≤ 8796093022000) (lay : Lay w) :
    Calls Tryd.prog 11 #[.slice a zs.length cap] w fun e w' => ∃ v, e = .returned v ∧ w'.ownsRow w.heap.size 9 1 v (linesOf zs).length ((linesOf zs).map Value.string) ∧ Kept w w' := by
  obtain ⟨i0, hi, hz0, hz1, hz2⟩ := info_parts info_string
  obtain ⟨LN, hLN⟩ : ∃ n : Nat, zs.length = n := ⟨_, rfl⟩
  have LNb : LN ≤ 8796093022000 := by omega
  have LNc : LN ≤ cap := by omega
  have hmax2 : (cap : Int) ≤ 9223372036854775807 := by unfold maxLen at hmax; omega
  have HLN := hid hLN
  have HR := hid row
  have L0 := hid lay
  have HBY := hid row.2.1
  rw [hLN]
  clear hLN hcap hbig row lay
  go_enter Tryd.func11, Tryd.ntmps11
  go_wp2
  go_loopw [0, 3] (fun sl v wr => ∃ (k : Nat) (L : List ByteArray) (a2 : Option Addr) (c2 : Nat), k ≤ LN ∧ sl = .slice a2 (LN - k) c2 ∧ Row w a2 (zs.drop k) ∧ LN - k ≤ c2 ∧ c2 ≤ cap ∧ L ++ linesOf (zs.drop k) = linesOf zs ∧ L.length ≤ k ∧ wr.ownsRow w.heap.size 9 1 v L.length (L.map Value.string) ∧ Kept w wr) (fun sl _ _ => slLen sl)
  case atStart => exact ⟨0, [], a, cap, Nat.zero_le _, rfl, HR.out, LNc, Nat.le_refl _, rfl, Nat.le_refl _, World.ownsRow_nil _ _ _ _, Kept.refl _⟩
  case round =>
    obtain ⟨k, L, a2, c2, hk, rfl, hR2, hc2, hc3, hL, hLk, hown, hkp⟩ := hrel
    have HL := hid hL
    have HO := hid hown
    have HK := hid hkp
    have HR2 := hid hR2
    clear hL hown hkp hR2
    by_cases hlt : k < LN
    · obtain ⟨M, hM⟩ : ∃ M : Nat, LN - k = M := ⟨_, rfl⟩
      rw [hM] at hc2 ⊢
      have hlt2 : (0 : Int) < (M : Int) := by omega
      have hne : zs.drop k ≠ [] := by intro h; have := congrArg List.length h; simp [HLN.out] at this; omega
      obtain ⟨x, hx⟩ : ∃ x, a2 = some x := by
        rcases HR2.out.2.2 with h | ⟨x, h, _⟩
        · exact absurd h hne
        · exact ⟨x, h⟩
      subst hx
      have hdl : (zs.drop k).length = M := by simp [HLN.out, hM]
      have hby1 : ∀ z ∈ zs.drop k, InByte z := fun z hz => HBY.out z (List.mem_of_mem_drop hz)
      have OB := hid (oneN_bd (zs.drop k) hby1 hne)
      have ST := hid (lines_step (zs.drop k) hby1 hne)
      clear hby1 hne
      obtain ⟨n, hn⟩ : ∃ n : Nat, oneN (zs.drop k) = (n : Int) := ⟨(oneN (zs.drop k)).toNat, by have := OB.out.1; omega⟩
      obtain ⟨S, hS⟩ : ∃ S, oneS (zs.drop k) = S := ⟨_, rfl⟩
      obtain ⟨n1, n3, nk⟩ : 1 ≤ n ∧ n ≤ 3 ∧ n ≤ M := by have := OB.out; rw [hdl, hn] at this; omega
      have STP := hid (show (L ++ [S]) ++ linesOf (zs.drop (k + n)) = linesOf zs by
        rw [← HL.out, ST.out, hn, hS, List.drop_drop]
        simp [Nat.add_comm])
      have RN := hid (show Row w (some (x.add n)) (zs.drop (k + n)) by
        have := row_drop n HR2.out (by rw [hdl]; exact nk)
        rw [List.drop_drop] at this
        exact this)
      have RE := hid (fun (h : n = M) => show zs.drop (k + n) = [] from List.drop_eq_nil_of_le (by rw [HLN.out]; omega))
      have C := lone_any (zs.drop k) (some x) c2 wr (row_kept HK.out HR2.out) (by rw [hdl]; exact hc2) (Nat.le_trans hc3 hmax) (L0.out.kept HK.out)
      rw [hdl, hn, hS] at C
      have CC := hid C
      have hM2 := hid hM
      have nk2 : (n : Int) ≤ (M : Int) := by omega
      have nc2 : (n : Int) ≤ (c2 : Int) := by omega
      have nn0 : n ≠ 0 := by omega
      have nmx : (c2 : Int) ≤ 9223372036854775807 := by omega
      clear C hn hS OB ST HL hdl hM
      go_wp2_with fail
      refine CC.out.mono ?_
      rintro e u1 ⟨rfl, g1⟩
      have HO1 := hid (owns_kept g1 HO.out)
      have HK1 := hid (HK.out.trans g1)
      have z1 : w.heap.size ≤ u1.heap.size := HK1.out.size
      clear g1 CC
      go_wp2_with (at_builtin; refine wpList_append_own _ rfl _ _ 31 rfl w.heap.size 9 i0 (.string ByteArray.empty) 1 16 Tryd.underlying31 hi hz0 hz1 hz2 rfl (by decide) _ _ _ rfl (HO1.out.alloc _) ⟨u1.heap.size, 0, none⟩ 1 1 [.string S] rfl rfl ?c1 ?c2 ?c3 ?c4 ?c5 ?_)
      case c1 =>
        intro j u hj
        match j, hj with
        | 0, hj => simp at hj; subst hj; simp [Addr.add]
      case c2 => intro u hu; simp at hu; subst hu; rfl
      case c3 => unfold maxLen; omega
      case c4 => omega
      case c5 => simp; omega
      intro v' w1 hown' hgrow _
      have KB := hid ((HK1.out.alloc _).by hgrow (owns_row HO1.out))
      have HW := hid hown'
      clear hown' hgrow
      go_wp2
      refine ⟨⟨k + n, L ++ [S], if c2 = n then some x else some (x.add n), c2 - n, by have := hM2.out; omega, by have := hM2.out; rw [show LN - (k + n) = M - n by omega], ?_, by have := hM2.out; omega, by omega, STP.out, by simp; omega, by simpa using HW.out, KB.out⟩, by simp only [slLen]; omega⟩
      split
      · rw [RE.out (by omega)]; exact row_nil6 _ _
      · exact RN.out
    · obtain rfl : k = LN := by omega
      have e0 : k - k = 0 := by omega
      rw [e0]
      have E := hid (show L = linesOf zs by
        have h : zs.drop k = [] := List.drop_eq_nil_of_le (by rw [HLN.out]; exact Nat.le_refl _)
        have := HL.out
        rw [h] at this
        simpa [linesOf, linesF] using this)
      go_wp2
      exact bodyPost_ret (by simp [results, Tryd.results11, go_sem]; rfl) rfl ⟨_, rfl, by rw [← E.out]; exact HO.out, HK.out⟩
end Go.Proofs.YtlchkflpaehgcaaDoor
namespace Go.Proofs.YtlchkflpaehgcaaDoor
open Go.RowKit Go.Maps
open Go.WideMaps (keyOf_string_mk)
set_option linter.unusedVariables false
set_option linter.unusedSimpArgs false

def smV (a : ByteArray) (n : Int) : Value := .agg #[.string a, .int .i64 n]
def smD (a : ByteArray) (n : Int) : DataW Unit := .agg [.lit (.string a.data.toList), .lit (.int .i64 n)]
def smL : List Value → Option (DataW Unit × List MemPlace)
  | [.string a, .int .i64 n] => some (smD a n, [])
  | _ => none
def smR (v : Value) : Option (DataW Unit × List MemPlace) := match v with
  | .agg cs => smL cs.toList
  | _ => none
theorem smR_mk (a : ByteArray) (n : Int) : smR (smV a n) = some (smD a n, []) := rfl
theorem smR_inv {v : Value} {a : ByteArray} {n : Int} {ps : List MemPlace} (h : smR v = some (smD a n, ps)) : v = smV a n := by
  unfold smR at h
  split at h
  · rename_i cs
    unfold smL at h
    split at h
    · rename_i a2 n2 e
      simp only [smD, Option.some.injEq, Prod.mk.injEq, DataW.agg.injEq, List.cons.injEq, DataW.lit.injEq, Lit.string.injEq, Lit.int.injEq, true_and, and_true] at h
      obtain ⟨⟨h1, h2⟩, _⟩ := h
      have e1 : a2 = a := by apply ByteArray.ext; exact Array.toList_inj.1 h1
      subst e1
      subst h2
      show Value.agg cs = Value.agg #[.string a2, .int .i64 n2]
      congr 1
      exact Array.toList_inj.1 e
    · cases h
  · cases h
def sm0 : DataW Unit := smD ByteArray.empty 0
theorem keyS : Keyed Tryd.prog 9 := string_keyed Tryd.underlying9
theorem zeroS (w : World) : (zeroValue 64).run Tryd.prog w = .ok (smV ByteArray.empty 0) w := by kernel_rfl
def MapIs (w : World) (b n : Nat) (f : List UInt8 → Option (ByteArray × Int)) : Prop :=
  ∃ D : DataW Unit, w.ownsMap Tryd.prog 9 smR b n D ∧ ∀ s : List UInt8, Maps.has D (.string s) = (f s).isSome ∧ D.atKey (.string s) sm0 = smD ((f s).elim ByteArray.empty (·.1)) ((f s).elim 0 (·.2))
theorem MapIs.lt {w : World} {b n : Nat} {f : List UInt8 → Option (ByteArray × Int)} (h : MapIs w b n f) : b < w.heap.size := by obtain ⟨D, h, _⟩ := h; exact h.lt
theorem MapIs.kept {w w2 : World} {b n : Nat} {f : List UInt8 → Option (ByteArray × Int)} (h : MapIs w b n f) (g : Kept w w2) : MapIs w2 b n f := by
  have hl := h.lt
  obtain ⟨D, ⟨es, clock, hb, r⟩, q⟩ := h
  exact ⟨D, ⟨es, clock, (g.block b hl).trans hb, r⟩, q⟩
theorem MapIs.alloc {w : World} {b n : Nat} {f : List UInt8 → Option (ByteArray × Int)} (h : MapIs w b n f) (o : Obj) : MapIs (w.alloc o) b n f := h.kept ((Kept.refl w).alloc o)
theorem MapIs.drew {w : World} {b n : Nat} {f : List UInt8 → Option (ByteArray × Int)} (h : MapIs w b n f) : MapIs w.drew b n f := h
theorem mapIs_made (w : World) : MapIs (w.alloc (.map #[] 0)) w.heap.size 0 (fun _ => none) :=
  ⟨.map [], World.ownsMap_made w _ _ _, fun s => ⟨rfl, rfl⟩⟩
def fput (f : List UInt8 → Option (ByteArray × Int)) (k : List UInt8) (v : ByteArray × Int) : List UInt8 → Option (ByteArray × Int) := fun s => if s = k then some v else f s
theorem MapIs.put {w : World} {b n : Nat} {f : List UInt8 → Option (ByteArray × Int)} (h : MapIs w b n f) (hn : n < maxLen) (s : ByteArray) (hs : s.size ≤ maxLen) (a : ByteArray) (m : Int) :
    ∃ w', (Instr.mapUpdate 49 (.map (some b)) (.string s) (.agg #[.string a, .int .i64 m])).run Tryd.prog w = .ok () w' ∧ MapIs w' b (n + 1) (fput f s.data.toList (a, m)) ∧ w.grownBy w' (some b) := by
  obtain ⟨D, ho, q⟩ := h
  obtain ⟨w', hr, ho2, hg⟩ := ho.update keyS Tryd.underlying49 hn (keyOf_string_mk Tryd.underlying9 hs) (smR_mk a m)
  refine ⟨w', hr, ⟨_, ho2, fun x => ?_⟩, hg⟩
  obtain ⟨es, _, _, _, _, rfl⟩ := ho
  by_cases e : x = s.data.toList
  · subst e
    have hk := keyS.key (keyOf_string_mk Tryd.underlying9 hs)
    rw [has_put_same ⟨_, rfl⟩ hk, atKey_put_same ⟨_, rfl⟩ hk]
    simp [fput]
  · have e2 : Lit.string x ≠ Lit.string s.data.toList := fun h => e (by simpa using h)
    rw [has_put_other e2, atKey_put_other e2]
    simpa [fput, e] using q x
theorem MapIs.get {w : World} {b n : Nat} {f : List UInt8 → Option (ByteArray × Int)} (h : MapIs w b n f) (s : ByteArray) (hs : s.size ≤ maxLen) :
    (Instr.lookup 49 (.map (some b)) (.string s) true).run Tryd.prog w = .ok (.tuple #[smV ((f s.data.toList).elim ByteArray.empty (·.1)) ((f s.data.toList).elim 0 (·.2)), .bool (f s.data.toList).isSome]) w := by
  obtain ⟨D, ho, q⟩ := h
  obtain ⟨v, ps, hr, hv⟩ := ho.look_ok keyS Tryd.underlying49 (zeroS w) (zd := sm0) (zp := []) (smR_mk _ _) (keyOf_string_mk Tryd.underlying9 hs)
  rw [(q s.data.toList).2] at hv
  rw [hr, (q s.data.toList).1, smR_inv hv]
end Go.Proofs.YtlchkflpaehgcaaDoor
