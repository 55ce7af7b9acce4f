/- The program's iterator All. -/
import Derived.Test.YtfgkchmnmnmccaaPiq14
import Derived.RangeFuncNested
import Derived.RangeFuncBound
import Derived.RangeFuncCalls
import Derived.RangeFuncLeaves
import Derived.Shelf.Abstract
import Derived.Shelf.RegionOpen
import Derived.WalkKit
import Derived.OwnWalkIn
import Derived.TacticsInMore
import Derived.LoopNIn
import Derived.LoopIn
import Derived.Deep.RegionHeld3
import Derived.BigQuiet
namespace Go.Proofs.Ytfgkchmnmnmccaa
open Go.RowKit Go.Shelf
set_option linter.unusedVariables false
set_option linter.unusedSimpArgs false
attribute [local go_sem] Oper.semAt_some

theorem below_kept {w w' : World} (h : Below w.heap.size w w') : Kept w w' := ⟨h.os, h.output, h.size, h.block⟩
theorem below_drewN {n : Nat} {w w' : World} (h : Below n w w') (m : Nat) : Below n w (w'.drewN m) := ⟨h.os, h.tape, h.output, h.size, h.block⟩
theorem boxed_by {W W' : World} {B B0 : Nat} {t : TypeId} {v : Value} {row : Option Nat} (h : Boxed W B t v) (hg : W.grownBy W' row) (hr : ∀ r, row = some r → B0 ≤ r ∧ ∃ o : Obj, W.heap[r]? = some o ∧ o.isCells = false) : Boxed W' B t v :=
  (boxed_own (β := Unit) B t (fun _ => v)).from B0 () W W' row h hg hr
theorem boxed_put {W : World} {B D : Nat} {t : TypeId} {v : Value} (h : Boxed W B t v) (hK : W.heap[D]? = some (.deferred (some []))) (o : Obj) : Boxed (W.putObj D o) B t v :=
  boxed_by (B0 := 0) h (grownBy_putObj' W D o) (fun r e => by cases e; exact ⟨Nat.zero_le _, _, hK, rfl⟩)
/-- What a round keeps: the cell of block b. -/
def KpB (b : Nat) (A B : World) : Prop := ∀ v, A.cell? ⟨b, 0, none⟩ = some v → B.cell? ⟨b, 0, none⟩ = some v
theorem kpB_t {b : Nat} {A B C : World} (h : KpB b A B) (k : KpB b B C) : KpB b A C := fun v hv => k v (h v hv)
theorem kpB_b {b : Nat} {w : World} (W : World) (l : Nat) (o o' : Obj) (_ : w.heap.size ≤ l) (h : W.heap[l]? = some o) (ho : o.isCells = false) (_ : o.isWalk = false) : KpB b W (W.putObj l o') := fun v hv =>
  cell_kept hv (grownBy_putObj' W l o') (fun r e => by cases e; exact ⟨o, h, ho⟩)
/-- All(p): the byte is boxed; the function value captures the box. -/
theorem pall14 (p : Int) (w : World) : Calls Try.prog 15 #[.int .u8 p] w fun e w' => e = .returned (.func (.func 28) #[] #[.pointer (some ⟨w.heap.size, 0, none⟩)]) ∧ w' = w.alloc (.cells #[.int .u8 p] 5) := by
  go_enter Try.func15, Try.ntmps15
  go_wp2
  go_ret
  exact ⟨rfl, rfl⟩
set_option maxRecDepth 100000 in
set_option maxHeartbeats 4000000 in
/-- The closure, for every loop body that keeps the byte's box. -/
theorem pall1_14 (n : Nat) (hn : 2 ≤ n) (l Bp : Nat) (p : Int) (p0 : 0 ≤ p) (p1 : p ≤ 255) (J Jx : List Int → World → Prop)
    (hY : ∀ pre x W, J pre W → pre.length < 5 → YieldAt Fence.wide (n - 1) Try.prog l #[.int .i64 x] W fun e W' =>
      (e = .returned (.bool true) ∧ J (pre ++ [x]) W' ∧ KpB Bp W W') ∨ (e = .returned (.bool false) ∧ Jx (pre ++ [x]) W'))
    (W : World) (hJ : ∀ pre A, J pre A → J pre A.drew) (hJn : ∀ pre A m, J pre A → J pre (A.drewN m)) (hBp : W.cell? ⟨Bp, 0, none⟩ = some (.int .u8 p)) (h0 : J [] W) :
    CallsIn Fence.wide n Try.prog 28 #[.func (.yield l) #[] #[], .pointer (some ⟨Bp, 0, none⟩)] W fun e W' => (∃ v, e = .returned v) ∧
      ((∃ ys, ys = allP p ∧ J ys W') ∨ (∃ pre, pre <+: allP p ∧ Jx pre W')) := by
  have hro : Fence.wide.round = none := rfl
  refine callsIn_of_wp Try.func28 rfl trivial ?_ hro
  simp only [Try.ntmps28, List.size_toArray, List.length_cons, List.length_nil, Nat.reduceAdd, Nat.reduceSub, Array.replicate_succ, Array.replicate_zero, List.push_toArray, List.append_toArray, List.nil_append, List.cons_append]
  gi_wp2
  gi_loopw [4] (fun i wr => ∃ k : Nat, k ≤ 5 ∧ i = .int .i64 (k : Int) ∧ J (allTo p k) wr ∧ wr.cell? ⟨Bp, 0, none⟩ = some (.int .u8 p)) (fun i _ => 5 - (intOf i).toNat)
  case atStart => exact ⟨0, Nat.zero_le _, rfl, h0, hBp⟩
  case round =>
    obtain ⟨k, hk, rfl, hJs, hc⟩ := hrel
    by_cases hlt : k < 5
    · have g1 : decide ((k : Int) < 5) = true := decide_eq_true (by omega)
      have g2 : decide (k < 5) = true := decide_eq_true hlt
      have ew : IntKind.i64.wrap ((k : Int) + 1) = (k : Int) + 1 := by rw [IntKind.wrap_i64]; omega
      have m := and_bitN p k p0 p1 (by omega) (by omega)
      have HB := hid (fun (q : Nat) u => callsIn_wide (n := q).2 (pbit14 k u))
      have HC := hid (fun u => pbit14 k u)
      generalize bitN (k : Int) = bn at *
      cases hb : bitOf p (k : Int)
      · have NX := hid (allTo_no p k hb)
        rw [hb] at m
        clear hY
        gi_wp2
        refine wpIn_wide.2 ?_
        go_quiet (refine Calls.quiet_of_same (HC.out _))
        all_goals gi_wp2
        all_goals go_roundw
        all_goals first
          | (show _ < _; first | omega | (simp; omega) | (simp [intOf]; omega))
          | exact ⟨k + 1, by omega, by first | go_num | rfl, by rw [NX.out]; exact hJn _ _ _ hJs, hc⟩
      · have NX := hid (allTo_yes p k hb)
        rw [hb] at m
        obtain ⟨fn, tmps, assign, body, hy, hR⟩ := hY _ (k : Int) wr.drew (hJ _ _ hJs) (by have := allTo_len p k; omega)
        gi_wp2
        gi_region_with (first | (refine ⟨trivial, fun _ => Nat.le_of_succ_le hn, ?_⟩; gi_at_call 29; refine (HB.out _ _).mono ?_; rintro e u1 ⟨rfl, rfl⟩) | (refine ⟨fun _ => Nat.le_of_succ_le hn, ?_⟩; refine hR.mono ?_; rintro e W3 hq; obtain ⟨b, rfl, hq2⟩ : ∃ b, e = .returned (.bool b) ∧ ((b = true ∧ J (allTo p k ++ [(k : Int)]) W3 ∧ KpB Bp wr.drew W3) ∨ (b = false ∧ Jx (allTo p k ++ [(k : Int)]) W3)) := (by rcases hq with ⟨rfl, h⟩ | ⟨rfl, h⟩; exact ⟨true, rfl, .inl ⟨rfl, h⟩⟩; exact ⟨false, rfl, .inr ⟨rfl, h⟩⟩); clear hq))
        all_goals rcases hq2 with ⟨rfl, hJ3, hk3⟩ | ⟨rfl, hJx3⟩
        all_goals gi_wp2
        all_goals first
          | (refine bodyPost_ret (results_none rfl _ _ _) rfl ?_
             exact ⟨⟨_, rfl⟩, .inr ⟨_, by rw [← NX.out]; exact allTo_pre p (k + 1) 5 (by omega), hJx3⟩⟩)
          | (go_roundw
             case rel => exact ⟨k + 1, by omega, by first | go_num | rfl, by rw [NX.out]; exact hJ3, hk3 _ hc⟩
             case measure => first | omega | (simp; omega) | (simp [intOf]; omega))
    · obtain rfl : k = 5 := by omega
      gi_wp2
      go_end0
      exact ⟨⟨_, rfl⟩, .inl ⟨_, rfl, hJs⟩⟩
theorem pall_stops (n : Nat) (hn : 2 ≤ n) (Bp : Nat) (p : Int) (p0 : 0 ≤ p) (p1 : p ≤ 255) (w : World) (hB : Bp < w.heap.size) (hc : w.cell? ⟨Bp, 0, none⟩ = some (.int .u8 p)) :
    SeqStopsK Fence.wide n Try.prog 28 #[.pointer (some ⟨Bp, 0, none⟩)] (fun x : Int => #[Value.int .i64 x]) (KpB Bp) (fun ys => ys = allP p) (fun pre => pre <+: allP p) 5 w := fun l J Jx W hW hJ _ hY h0 =>
  pall1_14 n hn l Bp p p0 p1 J Jx hY W (fun pre A h => hJ pre A _ none h ⟨rfl, rfl, rfl, Nat.le_refl _, fun _ _ _ => rfl⟩ (fun r e => by cases e)) (fun pre A m h => hJ pre A _ none h ⟨rfl, rfl, rfl, Nat.le_refl _, fun _ _ _ => rfl⟩ (fun r e => by cases e))
    ((hW.cell (p := ⟨Bp, 0, none⟩) hB).trans hc) h0
end Go.Proofs.Ytfgkchmnmnmccaa
