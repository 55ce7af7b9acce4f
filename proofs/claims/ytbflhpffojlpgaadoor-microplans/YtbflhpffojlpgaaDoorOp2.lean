/- What rowOf of layer 5 comes to: the first row of the program's table that fits, or none. -/
import Derived.Test.YtbflhpffojlpgaaDoorOp1
import Derived.Great.Walk
namespace Go.Proofs.YtbflhpffojlpgaaDoor
open Go.RowKit
set_option linter.unusedVariables false
set_option linter.unusedSimpArgs false

def runAll (P : Program) : List Oper → Act → World → Option (Act × World)
  | [], a, w => some (a, w)
  | o :: rest, a, w => match o.guard with
    | none => match (execOp a.eval o).run P w with
      | .ok (.value v) w' => runAll P rest (a.put o.dst v) w'
      | _ => none
    | some _ => none
theorem wpList_all {P : Program} {ops : Array Oper} {Q : Exit → Act → World → Prop} (a' : Act) (w' : World) :
    ∀ (rest : List Oper) (a : Act) (w : World), runAll P rest a w = some (a', w') → wpList P ops Q [] a' w' → wpList P ops Q rest a w
  | [], a, w, e, h => by
    simp only [runAll, Option.some.injEq, Prod.mk.injEq] at e
    obtain ⟨rfl, rfl⟩ := e
    exact h
  | o :: rest, a, w, e, h => by
    unfold runAll at e
    split at e
    · rename_i hg
      split at e
      · rename_i v w1 hr
        exact Great.wpList_runTo hg o.dst rfl v w1 hr (wpList_all a' w' rest _ _ e h)
      · cases e
    · cases e
def tabV : Value := .agg #[.int .u8 255, .int .u8 0, .int .u8 0, .int .u8 1, .int .u8 1, .int .u8 1, .int .u8 0, .int .u8 255, .int .u8 8, .int .u8 18, .int .u8 3, .int .u8 5, .int .u8 5, .int .u8 0, .int .u8 255, .int .u8 16, .int .u8 1, .int .u8 2, .int .u8 2, .int .u8 2, .int .u8 0, .int .u8 255, .int .u8 24, .int .u8 36, .int .u8 2, .int .u8 3, .int .u8 3, .int .u8 4, .int .u8 231, .int .u8 32, .int .u8 36, .int .u8 2, .int .u8 2, .int .u8 3, .int .u8 0, .int .u8 207, .int .u8 1, .int .u8 17, .int .u8 3, .int .u8 3, .int .u8 3, .int .u8 0, .int .u8 207, .int .u8 9, .int .u8 29, .int .u8 1, .int .u8 2, .int .u8 2, .int .u8 0, .int .u8 207, .int .u8 2, .int .u8 10, .int .u8 1, .int .u8 2, .int .u8 2, .int .u8 0, .int .u8 207, .int .u8 10, .int .u8 9, .int .u8 1, .int .u8 2, .int .u8 2, .int .u8 0, .int .u8 207, .int .u8 3, .int .u8 27, .int .u8 1, .int .u8 2, .int .u8 2, .int .u8 0, .int .u8 207, .int .u8 11, .int .u8 28, .int .u8 1, .int .u8 2, .int .u8 2, .int .u8 0, .int .u8 255, .int .u8 52, .int .u8 25, .int .u8 1, .int .u8 3, .int .u8 3, .int .u8 6, .int .u8 199, .int .u8 4, .int .u8 25, .int .u8 1, .int .u8 1, .int .u8 1, .int .u8 0, .int .u8 255, .int .u8 53, .int .u8 26, .int .u8 1, .int .u8 3, .int .u8 3, .int .u8 6, .int .u8 199, .int .u8 5, .int .u8 26, .int .u8 1, .int .u8 1, .int .u8 1, .int .u8 0, .int .u8 255, .int .u8 54, .int .u8 8, .int .u8 2, .int .u8 3, .int .u8 3, .int .u8 6, .int .u8 199, .int .u8 6, .int .u8 8, .int .u8 2, .int .u8 2, .int .u8 2, .int .u8 0, .int .u8 231, .int .u8 7, .int .u8 31, .int .u8 1, .int .u8 1, .int .u8 1, .int .u8 0, .int .u8 255, .int .u8 39, .int .u8 32, .int .u8 1, .int .u8 1, .int .u8 1, .int .u8 0, .int .u8 255, .int .u8 47, .int .u8 33, .int .u8 1, .int .u8 1, .int .u8 1, .int .u8 0, .int .u8 255, .int .u8 55, .int .u8 34, .int .u8 1, .int .u8 1, .int .u8 1, .int .u8 0, .int .u8 255, .int .u8 63, .int .u8 35, .int .u8 1, .int .u8 1, .int .u8 1, .int .u8 0, .int .u8 231, .int .u8 192, .int .u8 40, .int .u8 1, .int .u8 2, .int .u8 5, .int .u8 0, .int .u8 255, .int .u8 224, .int .u8 12, .int .u8 2, .int .u8 3, .int .u8 3, .int .u8 0, .int .u8 255, .int .u8 232, .int .u8 30, .int .u8 2, .int .u8 4, .int .u8 4, .int .u8 0, .int .u8 255, .int .u8 240, .int .u8 11, .int .u8 2, .int .u8 3, .int .u8 3, .int .u8 0, .int .u8 255, .int .u8 248, .int .u8 20, .int .u8 2, .int .u8 3, .int .u8 3, .int .u8 0, .int .u8 255, .int .u8 241, .int .u8 22, .int .u8 1, .int .u8 3, .int .u8 3, .int .u8 4, .int .u8 207, .int .u8 193, .int .u8 22, .int .u8 1, .int .u8 3, .int .u8 3, .int .u8 0, .int .u8 255, .int .u8 201, .int .u8 40, .int .u8 1, .int .u8 4, .int .u8 4, .int .u8 4, .int .u8 255, .int .u8 217, .int .u8 41, .int .u8 1, .int .u8 4, .int .u8 4, .int .u8 0, .int .u8 255, .int .u8 233, .int .u8 38, .int .u8 1, .int .u8 1, .int .u8 1, .int .u8 0, .int .u8 255, .int .u8 249, .int .u8 19, .int .u8 1, .int .u8 2, .int .u8 2, .int .u8 0, .int .u8 231, .int .u8 194, .int .u8 37, .int .u8 3, .int .u8 3, .int .u8 4, .int .u8 0, .int .u8 255, .int .u8 226, .int .u8 14, .int .u8 1, .int .u8 2, .int .u8 2, .int .u8 0, .int .u8 255, .int .u8 234, .int .u8 16, .int .u8 3, .int .u8 4, .int .u8 4, .int .u8 0, .int .u8 255, .int .u8 242, .int .u8 13, .int .u8 1, .int .u8 2, .int .u8 2, .int .u8 0, .int .u8 255, .int .u8 250, .int .u8 15, .int .u8 3, .int .u8 4, .int .u8 4, .int .u8 0, .int .u8 255, .int .u8 195, .int .u8 37, .int .u8 3, .int .u8 4, .int .u8 4, .int .u8 4, .int .u8 255, .int .u8 203, .int .u8 6, .int .u8 1, .int .u8 1, .int .u8 1, .int .u8 0, .int .u8 255, .int .u8 243, .int .u8 3, .int .u8 1, .int .u8 1, .int .u8 1, .int .u8 0, .int .u8 255, .int .u8 251, .int .u8 4, .int .u8 1, .int .u8 1, .int .u8 1, .int .u8 0, .int .u8 231, .int .u8 196, .int .u8 39, .int .u8 3, .int .u8 3, .int .u8 6, .int .u8 0, .int .u8 255, .int .u8 245, .int .u8 21, .int .u8 1, .int .u8 4, .int .u8 4, .int .u8 4, .int .u8 207, .int .u8 197, .int .u8 21, .int .u8 1, .int .u8 4, .int .u8 4, .int .u8 0, .int .u8 255, .int .u8 205, .int .u8 39, .int .u8 3, .int .u8 6, .int .u8 6, .int .u8 4, .int .u8 199, .int .u8 198, .int .u8 24, .int .u8 2, .int .u8 2, .int .u8 2, .int .u8 0, .int .u8 199, .int .u8 199, .int .u8 42, .int .u8 1, .int .u8 4, .int .u8 4, .int .u8 0]
set_option maxRecDepth 100000 in
theorem tab_at (k : Nat) (h : k < 48) : ∀ u, (Instr.index 56 tabV (.int .i64 (k : Int))).run Tryd.prog u = .ok (.agg #[.int .u8 (rk k 0), .int .u8 (rk k 1), .int .u8 (rk k 2), .int .u8 (rk k 3), .int .u8 (rk k 4), .int .u8 (rk k 5), .int .u8 (rk k 6)]) u := by
  have c : k = 0 ∨ k = 1 ∨ k = 2 ∨ k = 3 ∨ k = 4 ∨ k = 5 ∨ k = 6 ∨ k = 7 ∨ k = 8 ∨ k = 9 ∨ k = 10 ∨ k = 11 ∨ k = 12 ∨ k = 13 ∨ k = 14 ∨ k = 15 ∨ k = 16 ∨ k = 17 ∨ k = 18 ∨ k = 19 ∨ k = 20 ∨ k = 21 ∨ k = 22 ∨ k = 23 ∨ k = 24 ∨ k = 25 ∨ k = 26 ∨ k = 27 ∨ k = 28 ∨ k = 29 ∨ k = 30 ∨ k = 31 ∨ k = 32 ∨ k = 33 ∨ k = 34 ∨ k = 35 ∨ k = 36 ∨ k = 37 ∨ k = 38 ∨ k = 39 ∨ k = 40 ∨ k = 41 ∨ k = 42 ∨ k = 43 ∨ k = 44 ∨ k = 45 ∨ k = 46 ∨ k = 47 := by omega
  rcases c with rfl | rfl | rfl | rfl | rfl | rfl | rfl | rfl | rfl | rfl | rfl | rfl | rfl | rfl | rfl | rfl | rfl | rfl | rfl | rfl | rfl | rfl | rfl | rfl | rfl | rfl | rfl | rfl | rfl | rfl | rfl | rfl | rfl | rfl | rfl | rfl | rfl | rfl | rfl | rfl | rfl | rfl | rfl | rfl | rfl | rfl | rfl | rfl <;> exact fun _ => by kernel_rfl
set_option maxRecDepth 100000 in
set_option maxHeartbeats 4000000 in
theorem rowOf_any (op : Int) (w : World) (h0 : 0 ≤ op) (h1 : op ≤ 255) : Calls Tryd.prog 29 #[.int .u8 op] w fun e w' => ((∃ k : Nat, k < 48 ∧ noneTo op k = true ∧ fitR op k = true ∧ e = .returned (.agg #[.int .u8 (rk k 0), .int .u8 (rk k 1), .int .u8 (rk k 2), .int .u8 (rk k 3), .int .u8 (rk k 4), .int .u8 (rk k 5), .int .u8 (rk k 6)])) ∨ (noneTo op 48 = true ∧ e = .returned (.agg #[.int .u8 255, .int .u8 op, .int .u8 5, .int .u8 1, .int .u8 1, .int .u8 1, .int .u8 0]))) ∧ Grown w w' := by
  go_enter Tryd.func29, Tryd.ntmps29
  go_upto_region 1 with fail
  go_cut [53, 54] from 5 to 54 (fun s t wx => s = tabV ∧ t = .int .i64 0 ∧ wx = w.alloc (.cells #[.int .u8 0, .int .u8 0, .int .u8 0, .int .u8 0, .int .u8 0, .int .u8 0, .int .u8 0] 42))
  case first =>
    apply wp_region_lit
    refine wpList_all ⟨#[.int .u8 op, undef, .pointer (some ⟨w.heap.size, 0, none⟩), undef, undef, .agg #[.int .u8 255, .int .u8 0, .int .u8 0, .int .u8 1, .int .u8 1, .int .u8 1, .int .u8 0], .agg #[.int .u8 255, .int .u8 8, .int .u8 18, .int .u8 3, .int .u8 5, .int .u8 5, .int .u8 0], .agg #[.int .u8 255, .int .u8 16, .int .u8 1, .int .u8 2, .int .u8 2, .int .u8 2, .int .u8 0], .agg #[.int .u8 255, .int .u8 24, .int .u8 36, .int .u8 2, .int .u8 3, .int .u8 3, .int .u8 4], .agg #[.int .u8 231, .int .u8 32, .int .u8 36, .int .u8 2, .int .u8 2, .int .u8 3, .int .u8 0], .agg #[.int .u8 207, .int .u8 1, .int .u8 17, .int .u8 3, .int .u8 3, .int .u8 3, .int .u8 0], .agg #[.int .u8 207, .int .u8 9, .int .u8 29, .int .u8 1, .int .u8 2, .int .u8 2, .int .u8 0], .agg #[.int .u8 207, .int .u8 2, .int .u8 10, .int .u8 1, .int .u8 2, .int .u8 2, .int .u8 0], .agg #[.int .u8 207, .int .u8 10, .int .u8 9, .int .u8 1, .int .u8 2, .int .u8 2, .int .u8 0], .agg #[.int .u8 207, .int .u8 3, .int .u8 27, .int .u8 1, .int .u8 2, .int .u8 2, .int .u8 0], .agg #[.int .u8 207, .int .u8 11, .int .u8 28, .int .u8 1, .int .u8 2, .int .u8 2, .int .u8 0], .agg #[.int .u8 255, .int .u8 52, .int .u8 25, .int .u8 1, .int .u8 3, .int .u8 3, .int .u8 6], .agg #[.int .u8 199, .int .u8 4, .int .u8 25, .int .u8 1, .int .u8 1, .int .u8 1, .int .u8 0], .agg #[.int .u8 255, .int .u8 53, .int .u8 26, .int .u8 1, .int .u8 3, .int .u8 3, .int .u8 6], .agg #[.int .u8 199, .int .u8 5, .int .u8 26, .int .u8 1, .int .u8 1, .int .u8 1, .int .u8 0], .agg #[.int .u8 255, .int .u8 54, .int .u8 8, .int .u8 2, .int .u8 3, .int .u8 3, .int .u8 6], .agg #[.int .u8 199, .int .u8 6, .int .u8 8, .int .u8 2, .int .u8 2, .int .u8 2, .int .u8 0], .agg #[.int .u8 231, .int .u8 7, .int .u8 31, .int .u8 1, .int .u8 1, .int .u8 1, .int .u8 0], .agg #[.int .u8 255, .int .u8 39, .int .u8 32, .int .u8 1, .int .u8 1, .int .u8 1, .int .u8 0], .agg #[.int .u8 255, .int .u8 47, .int .u8 33, .int .u8 1, .int .u8 1, .int .u8 1, .int .u8 0], .agg #[.int .u8 255, .int .u8 55, .int .u8 34, .int .u8 1, .int .u8 1, .int .u8 1, .int .u8 0], .agg #[.int .u8 255, .int .u8 63, .int .u8 35, .int .u8 1, .int .u8 1, .int .u8 1, .int .u8 0], .agg #[.int .u8 231, .int .u8 192, .int .u8 40, .int .u8 1, .int .u8 2, .int .u8 5, .int .u8 0], .agg #[.int .u8 255, .int .u8 224, .int .u8 12, .int .u8 2, .int .u8 3, .int .u8 3, .int .u8 0], .agg #[.int .u8 255, .int .u8 232, .int .u8 30, .int .u8 2, .int .u8 4, .int .u8 4, .int .u8 0], .agg #[.int .u8 255, .int .u8 240, .int .u8 11, .int .u8 2, .int .u8 3, .int .u8 3, .int .u8 0], .agg #[.int .u8 255, .int .u8 248, .int .u8 20, .int .u8 2, .int .u8 3, .int .u8 3, .int .u8 0], .agg #[.int .u8 255, .int .u8 241, .int .u8 22, .int .u8 1, .int .u8 3, .int .u8 3, .int .u8 4], .agg #[.int .u8 207, .int .u8 193, .int .u8 22, .int .u8 1, .int .u8 3, .int .u8 3, .int .u8 0], .agg #[.int .u8 255, .int .u8 201, .int .u8 40, .int .u8 1, .int .u8 4, .int .u8 4, .int .u8 4], .agg #[.int .u8 255, .int .u8 217, .int .u8 41, .int .u8 1, .int .u8 4, .int .u8 4, .int .u8 0], .agg #[.int .u8 255, .int .u8 233, .int .u8 38, .int .u8 1, .int .u8 1, .int .u8 1, .int .u8 0], .agg #[.int .u8 255, .int .u8 249, .int .u8 19, .int .u8 1, .int .u8 2, .int .u8 2, .int .u8 0], .agg #[.int .u8 231, .int .u8 194, .int .u8 37, .int .u8 3, .int .u8 3, .int .u8 4, .int .u8 0], .agg #[.int .u8 255, .int .u8 226, .int .u8 14, .int .u8 1, .int .u8 2, .int .u8 2, .int .u8 0], .agg #[.int .u8 255, .int .u8 234, .int .u8 16, .int .u8 3, .int .u8 4, .int .u8 4, .int .u8 0], .agg #[.int .u8 255, .int .u8 242, .int .u8 13, .int .u8 1, .int .u8 2, .int .u8 2, .int .u8 0], .agg #[.int .u8 255, .int .u8 250, .int .u8 15, .int .u8 3, .int .u8 4, .int .u8 4, .int .u8 0], .agg #[.int .u8 255, .int .u8 195, .int .u8 37, .int .u8 3, .int .u8 4, .int .u8 4, .int .u8 4], .agg #[.int .u8 255, .int .u8 203, .int .u8 6, .int .u8 1, .int .u8 1, .int .u8 1, .int .u8 0], .agg #[.int .u8 255, .int .u8 243, .int .u8 3, .int .u8 1, .int .u8 1, .int .u8 1, .int .u8 0], .agg #[.int .u8 255, .int .u8 251, .int .u8 4, .int .u8 1, .int .u8 1, .int .u8 1, .int .u8 0], .agg #[.int .u8 231, .int .u8 196, .int .u8 39, .int .u8 3, .int .u8 3, .int .u8 6, .int .u8 0], .agg #[.int .u8 255, .int .u8 245, .int .u8 21, .int .u8 1, .int .u8 4, .int .u8 4, .int .u8 4], .agg #[.int .u8 207, .int .u8 197, .int .u8 21, .int .u8 1, .int .u8 4, .int .u8 4, .int .u8 0], .agg #[.int .u8 255, .int .u8 205, .int .u8 39, .int .u8 3, .int .u8 6, .int .u8 6, .int .u8 4], .agg #[.int .u8 199, .int .u8 198, .int .u8 24, .int .u8 2, .int .u8 2, .int .u8 2, .int .u8 0], .agg #[.int .u8 199, .int .u8 199, .int .u8 42, .int .u8 1, .int .u8 4, .int .u8 4, .int .u8 0], tabV, .int .i64 0, undef, undef, undef, undef, undef, undef, undef, undef, undef, undef, undef, undef, undef], []⟩ (w.alloc (.cells #[.int .u8 0, .int .u8 0, .int .u8 0, .int .u8 0, .int .u8 0, .int .u8 0, .int .u8 0] 42)) _ _ _ (by kernel_rfl) ?_
    go_wp2
    go_meet
    exact ⟨rfl, rfl, rfl⟩
  case rest =>
    obtain ⟨rfl, rfl, rfl⟩ := hcut
    generalize hV : tabV = V
    have ix := tab_at
    rw [hV] at ix
    clear hV
    go_wp2
    go_loopw [54] (fun t wr => ∃ k : Nat, k ≤ 48 ∧ t = .int .i64 (k : Int) ∧ noneTo op k = true ∧ Grown (w.alloc (.cells #[.int .u8 0, .int .u8 0, .int .u8 0, .int .u8 0, .int .u8 0, .int .u8 0, .int .u8 0] 42)) wr) (fun t _ => 48 - (intOf t).toNat)
    case atStart => exact ⟨0, Nat.zero_le _, rfl, rfl, Grown.refl _⟩
    case round =>
      obtain ⟨k, hk, rfl, hn, G⟩ := hrel
      have HN := hid hn
      have GR := hid G
      have GG := hid (grown_trans (alloc1 w _ _) G)
      have B := has_grown G (has_alloc w _ _)
      obtain ⟨zB, cB⟩ := id B
      have HB := hid B
      have nB : w.heap.size ≠ wr.heap.size := by omega
      have fz := fun o => grown_froz GG.out (Nat.le_refl w.heap.size) o
      have b0 := cB 0
      have b1 := cB 1
      have b2 := cB 2
      have b3 := cB 3
      have b4 := cB 4
      have b5 := cB 5
      have b6 := cB 6
      simp at b0 b1 b2 b3 b4 b5 b6
      clear hn G B cB
      by_cases hlt : k < 48
      · have ixk := ix k hlt
        clear ix
        obtain ⟨r0, e0⟩ : ∃ r, rk k 0 = r := ⟨_, rfl⟩
        obtain ⟨r1, e1⟩ : ∃ r, rk k 1 = r := ⟨_, rfl⟩
        obtain ⟨r2, e2⟩ : ∃ r, rk k 2 = r := ⟨_, rfl⟩
        obtain ⟨r3, e3⟩ : ∃ r, rk k 3 = r := ⟨_, rfl⟩
        obtain ⟨r4, e4⟩ : ∃ r, rk k 4 = r := ⟨_, rfl⟩
        obtain ⟨r5, e5⟩ : ∃ r, rk k 5 = r := ⟨_, rfl⟩
        obtain ⟨r6, e6⟩ : ∃ r, rk k 6 = r := ⟨_, rfl⟩
        rw [e0, e1, e2, e3, e4, e5, e6] at ixk
        cases hf : fitR op k
        · have hf2 : (bits .and .u8 op r0 == r1) = false := by rw [← e0, ← e1]; exact hf
          have HF := hid hf
          clear hf e0 e1 e2 e3 e4 e5 e6 b0 b1 b2 b3 b4 b5 b6
          go_wp2
          go_roundw
          case rel => exact ⟨k + 1, by omega, by go_num, by simp [noneTo, HN.out, HF.out], GR.out.alloc _ _⟩
          case measure => first | omega | (simp; omega) | (simp [intOf]; omega)
        · have hf2 : (bits .and .u8 op r0 == r1) = true := by rw [← e0, ← e1]; exact hf
          have HE := hid (And.intro hf (And.intro e0 (And.intro e1 (And.intro e2 (And.intro e3 (And.intro e4 (And.intro e5 e6)))))))
          clear hf e0 e1 e2 e3 e4 e5 e6
          go_wp2
          exact bodyPost_ret (v := .agg #[.int .u8 r0, .int .u8 r1, .int .u8 r2, .int .u8 r3, .int .u8 r4, .int .u8 r5, .int .u8 r6]) (by simp [results, Tryd.results29, go_sem, b0, b1, b2, b3, b4, b5, b6, zB]) rfl ⟨.inl ⟨k, hlt, HN.out, HE.out.1, by obtain ⟨_, e0, e1, e2, e3, e4, e5, e6⟩ := HE.out; rw [e0, e1, e2, e3, e4, e5, e6]⟩, (((((((GG.out.setCell (Nat.le_refl _) _).setCell (Nat.le_refl _) _).setCell (Nat.le_refl _) _).setCell (Nat.le_refl _) _).setCell (Nat.le_refl _) _).setCell (Nat.le_refl _) _).setCell (Nat.le_refl _) _).alloc _ _⟩
      · obtain rfl : k = 48 := by omega
        clear ix
        go_wp2
        exact bodyPost_ret (v := .agg #[.int .u8 255, .int .u8 op, .int .u8 5, .int .u8 1, .int .u8 1, .int .u8 1, .int .u8 0]) (by simp [results, Tryd.results29, go_sem, b0, b1, b2, b3, b4, b5, b6, zB]) rfl ⟨.inr ⟨HN.out, rfl⟩, (((((((GG.out.setCell (Nat.le_refl _) _).setCell (Nat.le_refl _) _).setCell (Nat.le_refl _) _).setCell (Nat.le_refl _) _).setCell (Nat.le_refl _) _).setCell (Nat.le_refl _) _).setCell (Nat.le_refl _) _)⟩
end Go.Proofs.YtbflhpffojlpgaaDoor
