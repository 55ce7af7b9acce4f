/- What is asked of a sheet: Color, Asked; the document's Color. -/
import Derived.Test.YtdimkeknjhdjfabSh17e
namespace Go.Proofs.Ytdimkeknjhdjfab
open Go.RowKit
set_option linter.unusedVariables false
set_option linter.unusedSimpArgs false

def SheetN (w : World) (m b : Nat) (z : List Int) (n : Int) : Prop := ∃ a cap, Blk w b 50 (shL true (.slice a z.length cap) 0 0 0 pix0 n) ∧ Row w a z ∧ (∀ x, a = some x → x.block ≠ b ∧ m ≤ x.block) ∧ m ≤ b
def SheetR (w : World) (m b : Nat) (z : List Int) (n : Int) : Prop := Blk w b 50 (shL true (.slice none 0 0) 1 0 0 (pixL z) n) ∧ m ≤ b
/-- A sheet that NewSheet gave, of the bytes z, n times asked; its memory is not older than m. -/
def SheetAt (w : World) (m b : Nat) (z : List Int) (n : Int) : Prop := SheetN w m b z n ∨ SheetR w m b z n
theorem sheet_keptX {F : Nat → Prop} {W w : World} {m b : Nat} {z : List Int} {n : Int} (h : SheetAt W m b z n) (k : KeptX F W w) (hF : ∀ j, F j → j < m) : SheetAt w m b z n := by
  rcases h with ⟨a, cap, hB, hr, hn, hm⟩ | ⟨hB, hm⟩
  · exact .inl ⟨a, cap, blkX k hB (fun q => by have := hF b q; omega), rowX k hr (.inr fun x hx q => by have := hF _ q; have := (hn x hx).2; omega), hn, hm⟩
  · exact .inr ⟨blkX k hB (fun q => by have := hF b q; omega), hm⟩
theorem sheet_kept {W w : World} {m b : Nat} {z : List Int} {n : Int} (h : SheetAt W m b z n) (k : Kept W w) : SheetAt w m b z n := sheet_keptX (F := fun _ => False) h (KeptX.of k) (fun _ q => q.elim)
theorem sheet_cells {w : World} {m b : Nat} {z : List Int} {n : Int} (h : SheetAt w m b z n) : w.cell? ⟨b, 0, none⟩ = some (.bool true) ∧ w.cell? ⟨b, 24581, none⟩ = some (.int .i64 n) ∧ w.frozen? ⟨b, 24581, none⟩ = false ∧ b < w.heap.size := by
  rcases h with ⟨a, cap, hB, _, _, _⟩ | ⟨hB, _⟩
  · exact ⟨blk_cell hB 0, (blk_cell hB 24581).trans (shL_ask pix0_len), blk_froz hB _, blk_lt hB⟩
  · exact ⟨blk_cell hB 0, (blk_cell hB 24581).trans (shL_ask (pixL_len z)), blk_froz hB _, blk_lt hB⟩
set_option maxRecDepth 100000 in
set_option maxHeartbeats 4000000 in
theorem asked17 (m b : Nat) (z : List Int) (n : Int) (w : World) (h : SheetAt w m b z n) : Calls Try.prog 5 #[.pointer (some ⟨b, 0, none⟩)] w fun e w' => e = .returned (.int .i64 n) ∧ w' = w := by
  obtain ⟨_, c1, _, _⟩ := sheet_cells h
  have L := hid (aload17 b 24581 n w c1)
  clear h c1
  go_enter Try.func5, Try.ntmps5
  go_wp2_with fail
  refine L.out.mono ?_
  rintro e u1 ⟨rfl, hu⟩
  subst hu
  go_wp2
  go_ret
  exact ⟨rfl, rfl⟩
set_option maxRecDepth 100000 in
set_option maxHeartbeats 4000000 in
theorem asked_nil (w : World) : Calls Try.prog 5 #[.pointer none] w fun e w' => e = .returned (.int .i64 0) ∧ w' = w := by
  go_enter Try.func5, Try.ntmps5
  go_wp2
  go_ret
  exact ⟨rfl, rfl⟩
set_option maxRecDepth 100000 in
set_option maxHeartbeats 4000000 in
theorem asked_zero (b : Nat) (w : World) (h : Blk w b 50 (shL false (.slice none 0 0) 0 0 0 pix0 0)) : Calls Try.prog 5 #[.pointer (some ⟨b, 0, none⟩)] w fun e w' => e = .returned (.int .i64 0) ∧ w' = w := by
  have c1 : w.cell? ⟨b, 24581, none⟩ = some (.int .i64 0) := (blk_cell h 24581).trans (shL_ask pix0_len)
  have L := hid (aload17 b 24581 0 w c1)
  clear h c1
  go_enter Try.func5, Try.ntmps5
  go_wp2_with fail
  refine L.out.mono ?_
  rintro e u1 ⟨rfl, hu⟩
  subst hu
  go_wp2
  go_ret
  exact ⟨rfl, rfl⟩
set_option maxRecDepth 100000 in
set_option maxHeartbeats 4000000 in
theorem color_nil (t x y : Int) (w : World) : Calls Try.prog 6 #[.pointer none, .int .i64 t, .int .i64 x, .int .i64 y] w fun e w' => e = .returned (.int .u8 0) ∧ w' = w := by
  go_enter Try.func6, Try.ntmps6
  go_wp2
  go_ret
  exact ⟨rfl, rfl⟩
set_option maxRecDepth 100000 in
set_option maxHeartbeats 4000000 in
theorem color_zero (b : Nat) (t x y : Int) (w : World) (h : Blk w b 50 (shL false (.slice none 0 0) 0 0 0 pix0 0)) : Calls Try.prog 6 #[.pointer (some ⟨b, 0, none⟩), .int .i64 t, .int .i64 x, .int .i64 y] w fun e w' => e = .returned (.int .u8 0) ∧ w' = w := by
  have c0 : w.cell? ⟨b, 0, none⟩ = some (.bool false) := blk_cell h 0
  have zb := blk_lt h
  clear h
  go_enter Try.func6, Try.ntmps6
  go_wp2
  go_ret
  exact ⟨rfl, rfl⟩
set_option maxRecDepth 100000 in
set_option maxHeartbeats 4000000 in
theorem color_do (b : Nat) (z : List Int) (n t x y : Int) (w : World) (c0 : w.cell? ⟨b, 0, none⟩ = some (.bool true)) (c1 : w.cell? ⟨b, 24581, none⟩ = some (.int .i64 n)) (fz : w.frozen? ⟨b, 24581, none⟩ = false) (zb : b < w.heap.size) (n0 : 0 ≤ n) (n1 : n < 1000000)
    (DO : Calls Try.prog 10 #[.pointer (some ⟨b, 2, none⟩), .func (.func 11) #[.pointer (some ⟨b, 0, none⟩)] #[]] (w.setCell ⟨b, 24581, none⟩ (.int .i64 (n + 1))) fun e u => e = .returned (.tuple #[]) ∧ Blk u b 50 (shL true (.slice none 0 0) 1 0 0 (pixL z) (n + 1)) ∧ KeptX (fun k => k = b) w u) :
    Calls Try.prog 6 #[.pointer (some ⟨b, 0, none⟩), .int .i64 t, .int .i64 x, .int .i64 y] w fun e w' => e = .returned (.int .u8 (colP z t x y)) ∧ Blk w' b 50 (shL true (.slice none 0 0) 1 0 0 (pixL z) (n + 1)) ∧ KeptX (fun k => k = b) w w' := by
  have hmf : ∀ (fn : Fn) (first cap : Array Value) (w : World), (Instr.makeFunc fn first cap).run Try.prog w = .ok (.func fn first cap) w := fun _ _ _ _ => rfl
  have hnot : ∀ (x : Bool) (w : World), (Op.unary .not (.bool x)).run Try.prog w = .ok (.bool (!x)) w := fun _ _ => rfl
  have AD := hid (aadd17 b 24581 n w c1 fz n0 n1)
  have WT := hid (fun u => within17 t 384 u)
  have WX := hid (fun u => within17 x 8 u)
  have WY := hid (fun u => within17 y 8 u)
  have DOO := hid DO
  clear DO c1 fz n0 n1
  by_cases ht : 0 ≤ t ∧ t < 384
  · rw [decide_eq_true ht.1, decide_eq_true ht.2] at WT
    by_cases hx : 0 ≤ x ∧ x < 8
    · rw [decide_eq_true hx.1, decide_eq_true hx.2] at WX
      by_cases hy : 0 ≤ y ∧ y < 8
      · rw [decide_eq_true hy.1, decide_eq_true hy.2] at WY
        obtain ⟨T, rfl⟩ := Int.eq_ofNat_of_zero_le ht.1
        obtain ⟨X, rfl⟩ := Int.eq_ofNat_of_zero_le hx.1
        obtain ⟨Y, rfl⟩ := Int.eq_ofNat_of_zero_le hy.1
        have PA := hid (pixL_at z T X Y (by omega) (by omega) (by omega))
        have t0 : (0 : Int) ≤ (T : Int) := by omega
        have t1 : (T : Int) < 384 := by omega
        have x0 : (0 : Int) ≤ (X : Int) := by omega
        have x1 : (X : Int) < 8 := by omega
        have y0 : (0 : Int) ≤ (Y : Int) := by omega
        have y1 : (Y : Int) < 8 := by omega
        generalize colP z (T : Int) (X : Int) (Y : Int) = v at *
        clear ht hx hy
        go_enter Try.func6, Try.ntmps6
        go_wp2_with fail
        refine AD.out.mono ?_
        rintro e u1 ⟨rfl, hu⟩
        subst hu
        go_wp2_with fail
        refine DOO.out.mono ?_
        rintro e u2 ⟨rfl, B2, k2⟩
        have HB := hid B2
        have HK := hid k2
        clear B2 k2
        go_wp2_with fail
        refine (WT.out _).mono ?_
        rintro e u3 ⟨rfl, hu⟩
        subst hu
        go_wp2_with fail
        refine (WX.out _).mono ?_
        rintro e u4 ⟨rfl, hu⟩
        subst hu
        go_wp2_with fail
        refine (WY.out _).mono ?_
        rintro e u4 ⟨rfl, hu⟩
        subst hu
        have cc := blk_cell HB.out (5 + T * 64 + Y * 8 + X)
        rw [show 5 + T * 64 + Y * 8 + X = 5 + (64 * T + 8 * Y + X) by omega, shL_pix (pixL_len z) _ (by omega), PA.out, show 5 + (64 * T + 8 * Y + X) = 5 + T * 64 + Y * 8 + X by omega] at cc
        have zc := blk_lt HB.out
        clear c0 zb
        go_wp2
        go_ret
        exact ⟨rfl, HB.out, HK.out⟩
      · rw [col_out z t x y (by omega)]
        have hf : (decide (0 ≤ y) && decide (y < 8)) = false := by rw [Bool.and_eq_false_iff]; by_cases q : 0 ≤ y <;> simp <;> omega
        rw [hf] at WY
        clear ht hx hy hf
        go_enter Try.func6, Try.ntmps6
        go_wp2_with fail
        refine AD.out.mono ?_
        rintro e u1 ⟨rfl, hu⟩
        subst hu
        go_wp2_with fail
        refine DOO.out.mono ?_
        rintro e u2 ⟨rfl, B2, k2⟩
        have HB := hid B2
        have HK := hid k2
        clear B2 k2
        go_wp2_with fail
        refine (WT.out _).mono ?_
        rintro e u3 ⟨rfl, hu⟩
        subst hu
        go_wp2_with fail
        refine (WX.out _).mono ?_
        rintro e u4 ⟨rfl, hu⟩
        subst hu
        go_wp2_with fail
        refine (WY.out _).mono ?_
        rintro e u4 ⟨rfl, hu⟩
        subst hu
        go_wp2
        go_ret
        exact ⟨rfl, HB.out, HK.out⟩
    · rw [col_out z t x y (by omega)]
      have hf : (decide (0 ≤ x) && decide (x < 8)) = false := by rw [Bool.and_eq_false_iff]; by_cases q : 0 ≤ x <;> simp <;> omega
      rw [hf] at WX
      clear ht hx hf
      go_enter Try.func6, Try.ntmps6
      go_wp2_with fail
      refine AD.out.mono ?_
      rintro e u1 ⟨rfl, hu⟩
      subst hu
      go_wp2_with fail
      refine DOO.out.mono ?_
      rintro e u2 ⟨rfl, B2, k2⟩
      have HB := hid B2
      have HK := hid k2
      clear B2 k2
      go_wp2_with fail
      refine (WT.out _).mono ?_
      rintro e u3 ⟨rfl, hu⟩
      subst hu
      go_wp2_with fail
      refine (WX.out _).mono ?_
      rintro e u4 ⟨rfl, hu⟩
      subst hu
      go_wp2
      go_ret
      exact ⟨rfl, HB.out, HK.out⟩
  · rw [col_out z t x y (by omega)]
    have hf : (decide (0 ≤ t) && decide (t < 384)) = false := by rw [Bool.and_eq_false_iff]; by_cases q : 0 ≤ t <;> simp <;> omega
    rw [hf] at WT
    clear ht hf
    go_enter Try.func6, Try.ntmps6
    go_wp2_with fail
    refine AD.out.mono ?_
    rintro e u1 ⟨rfl, hu⟩
    subst hu
    go_wp2_with fail
    refine DOO.out.mono ?_
    rintro e u2 ⟨rfl, B2, k2⟩
    have HB := hid B2
    have HK := hid k2
    clear B2 k2
    go_wp2_with fail
    refine (WT.out _).mono ?_
    rintro e u3 ⟨rfl, hu⟩
    subst hu
    go_wp2
    go_ret
    exact ⟨rfl, HB.out, HK.out⟩
theorem color17 (m b : Nat) (z : List Int) (n t x y : Int) (w : World) (h : SheetAt w m b z n) (n0 : 0 ≤ n) (n1 : n < 1000000) : Calls Try.prog 6 #[.pointer (some ⟨b, 0, none⟩), .int .i64 t, .int .i64 x, .int .i64 y] w fun e w' => e = .returned (.int .u8 (colP z t x y)) ∧ SheetAt w' m b z (n + 1) ∧ KeptX (fun k => k = b) w w' := by
  obtain ⟨c0, c1, fz, zb⟩ := sheet_cells h
  have K1 := keptX_set (KeptX.refl (F := (fun k => k = b)) w) b 24581 (.int .i64 (n + 1)) rfl
  rcases h with ⟨a, cap, hB, hr, hn, hm⟩ | ⟨hB, hm⟩
  · have B1 : Blk (w.setCell ⟨b, 24581, none⟩ (.int .i64 (n + 1))) b 50 (shL true (.slice a z.length cap) 0 0 0 pix0 (n + 1)) := by have q := blk_setc hB 24581 (.int .i64 (n + 1)); rw [shL_setA pix0_len] at q; exact q
    refine (color_do b z n t x y w c0 c1 fz zb n0 n1 ((dofirst17 b a cap z (n + 1) _ B1 (rowX K1 hr (.inr fun x hx e => (hn x hx).1 e)) (fun x hx => (hn x hx).1)).mono ?_)).mono ?_
    · rintro e u ⟨rfl, q1, q2⟩
      exact ⟨rfl, q1, K1.trans q2 (fun _ h => .inl h)⟩
    · rintro e u ⟨rfl, q1, q2⟩
      exact ⟨rfl, .inr ⟨q1, hm⟩, q2⟩
  · have B1 : Blk (w.setCell ⟨b, 24581, none⟩ (.int .i64 (n + 1))) b 50 (shL true (.slice none 0 0) 1 0 0 (pixL z) (n + 1)) := by have q := blk_setc hB 24581 (.int .i64 (n + 1)); rw [shL_setA (pixL_len z)] at q; exact q
    refine (color_do b z n t x y w c0 c1 fz zb n0 n1 ((dodone17 b [] _ _ (blk_cell B1 2)).mono ?_)).mono ?_
    · rintro e u ⟨rfl, rfl⟩
      exact ⟨rfl, B1, K1⟩
    · rintro e u ⟨rfl, q1, q2⟩
      exact ⟨rfl, .inr ⟨q1, hm⟩, q2⟩
set_option maxRecDepth 100000 in
set_option maxHeartbeats 4000000 in
theorem rcolor17 (a : Option Addr) (cap : Nat) (z : List Int) (t x y : Int) (w : World) (hr : Row w a z) : Calls Try.prog 7 #[.slice a z.length cap, .int .i64 t, .int .i64 x, .int .i64 y] w fun e w' => e = .returned (.int .u8 (colP z t x y)) ∧ Kept w w' := by
  by_cases hi : 0 ≤ t ∧ t < 384 ∧ 0 ≤ x ∧ x < 8 ∧ 0 ≤ y ∧ y < 8
  · have ce : colP z t x y = pixP (atP z (16 * t + 2 * y)) (atP z (16 * t + 2 * y + 1)) x := if_pos hi
    have i1 := atP_in z hr.2.1 (16 * t + 2 * y)
    have i2 := atP_in z hr.2.1 (16 * t + 2 * y + 1)
    have A1 := hid (fun u h => rat17 a cap z (16 * t + 2 * y) u h)
    have A2 := hid (fun u h => rat17 a cap z (16 * t + 2 * y + 1) u h)
    have HR := hid hr
    rw [ce]
    generalize atP z (16 * t + 2 * y) = lo at *
    generalize atP z (16 * t + 2 * y + 1) = hi at *
    have PX := hid (fun u => rpix17 lo hi x u i1.1 i1.2 i2.1 i2.2)
    generalize pixP lo hi x = v at *
    have g1 : decide (t < 0) = false := decide_eq_false (by omega)
    have g2 : decide (383 < t) = false := decide_eq_false (by omega)
    have g3 : decide (x < 0) = false := decide_eq_false (by omega)
    have g4 : decide (7 < x) = false := decide_eq_false (by omega)
    have g5 : decide (y < 0) = false := decide_eq_false (by omega)
    have g6 : decide (7 < y) = false := decide_eq_false (by omega)
    have e1 : IntKind.i64.wrap (16 * t) = 16 * t := by rw [IntKind.wrap_i64]; omega
    have e2 : IntKind.i64.wrap (2 * y) = 2 * y := by rw [IntKind.wrap_i64]; omega
    have e3 : IntKind.i64.wrap (16 * t + 2 * y) = 16 * t + 2 * y := by rw [IntKind.wrap_i64]; omega
    have e4 : IntKind.i64.wrap (16 * t + 2 * y + 1) = 16 * t + 2 * y + 1 := by rw [IntKind.wrap_i64]; omega
    clear ce hr
    go_enter Try.func7, Try.ntmps7
    go_wp2_with fail
    refine (A1.out _ HR.out).mono ?_
    rintro e u1 ⟨rfl, k1⟩
    have K1 := hid k1
    clear k1
    go_wp2_with fail
    refine (A2.out _ (row_kept K1.out HR.out)).mono ?_
    rintro e u2 ⟨rfl, k2⟩
    have K2 := hid (K1.out.trans k2)
    clear k2
    go_wp2_with fail
    refine (PX.out _).mono ?_
    rintro e u3 ⟨rfl, k3⟩
    have K3 := hid (K2.out.trans k3)
    clear k3
    go_wp2
    go_ret
    exact ⟨rfl, K3.out⟩
  · rw [col_out z t x y hi]
    clear hr
    by_cases h1 : t < 0
    · have g1 : decide (t < 0) = true := decide_eq_true h1
      go_enter Try.func7, Try.ntmps7
      go_wp2
      go_ret
      exact ⟨rfl, Kept.refl w⟩
    have g1 : decide (t < 0) = false := decide_eq_false h1
    by_cases h2 : 383 < t
    · have g2 : decide (383 < t) = true := decide_eq_true h2
      go_enter Try.func7, Try.ntmps7
      go_wp2
      go_ret
      exact ⟨rfl, Kept.refl w⟩
    have g2 : decide (383 < t) = false := decide_eq_false h2
    by_cases h3 : x < 0
    · have g3 : decide (x < 0) = true := decide_eq_true h3
      go_enter Try.func7, Try.ntmps7
      go_wp2
      go_ret
      exact ⟨rfl, Kept.refl w⟩
    have g3 : decide (x < 0) = false := decide_eq_false h3
    by_cases h4 : 7 < x
    · have g4 : decide (7 < x) = true := decide_eq_true h4
      go_enter Try.func7, Try.ntmps7
      go_wp2
      go_ret
      exact ⟨rfl, Kept.refl w⟩
    have g4 : decide (7 < x) = false := decide_eq_false h4
    by_cases h5 : y < 0
    · have g5 : decide (y < 0) = true := decide_eq_true h5
      go_enter Try.func7, Try.ntmps7
      go_wp2
      go_ret
      exact ⟨rfl, Kept.refl w⟩
    have g5 : decide (y < 0) = false := decide_eq_false h5
    have g6 : decide (7 < y) = true := decide_eq_true (by omega)
    go_enter Try.func7, Try.ntmps7
    go_wp2
    go_ret
    exact ⟨rfl, Kept.refl w⟩
end Go.Proofs.Ytdimkeknjhdjfab
