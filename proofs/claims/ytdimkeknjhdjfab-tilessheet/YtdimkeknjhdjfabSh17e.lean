/- A sheet's Once; what is asked of a sheet. -/
import Derived.Test.YtdimkeknjhdjfabSh17d
namespace Go.Proofs.Ytdimkeknjhdjfab
open Go.RowKit
set_option linter.unusedVariables false
set_option linter.unusedSimpArgs false

theorem keptX_set {F : Nat → Prop} {W w : World} (h : KeptX F W w) (b o : Nat) (v : Value) (hb : F b) : KeptX F W (w.setCell ⟨b, o, none⟩ v) := h.setCell (.inl hb) o v
set_option maxRecDepth 100000 in
set_option maxHeartbeats 4000000 in
theorem slow17 (b : Nat) (a : Option Addr) (cap : Nat) (z : List Int) (n : Int) (w : World) (hB : Blk w b 50 (shL true (.slice a z.length cap) 0 0 0 pix0 n)) (hr : Row w a z) (hne : ∀ x, a = some x → x.block ≠ b) :
    Calls Try.prog 18 #[.pointer (some ⟨b, 2, none⟩), .func (.func 11) #[.pointer (some ⟨b, 0, none⟩)] #[]] w fun e w' => e = .returned (.tuple #[]) ∧ Blk w' b 50 (shL true (.slice none 0 0) 1 0 0 (pixL z) n) ∧ KeptX (fun k => k = b) w w' := by
  have L := hid (lock17 ⟨b, 3, none⟩ w (blk_cell hB 3) (blk_froz hB 3))
  have B1 : Blk (w.setCell ⟨b, 3, none⟩ (.int .i32 1)) b 50 (shL true (.slice a z.length cap) 0 1 0 pix0 n) := blk_setc hB 3 (.int .i32 1)
  have K1 := hid (keptX_set (KeptX.refl (F := (fun k => k = b)) w) b 3 (.int .i32 1) rfl)
  have R1 : Hid (Row (w.setCell ⟨b, 3, none⟩ (.int .i32 1)) a z) := rowX K1.out hr (.inr fun x hx e => hne x hx e)
  have BL := hid (bload17 ⟨b, 2, none⟩ 0 (w.setCell ⟨b, 3, none⟩ (.int .i32 1)) (blk_cell B1 2))
  have HB1 := hid B1
  have RC := hid (reckon17 b a cap z 0 1 0 n (w.setCell ⟨b, 3, none⟩ (.int .i32 1)) B1 R1.out hne)
  have hnot : ∀ (x : Bool) (w : World), (Op.unary .not (.bool x)).run Try.prog w = .ok (.bool (!x)) w := fun _ _ => rfl
  clear hB hr B1
  go_enter_defers Try.func18, Try.ntmps18
  go_wp2_with fail
  refine L.out.mono ?_
  rintro e u1 ⟨rfl, rfl⟩
  go_wp2_with fail
  refine BL.out.mono ?_
  rintro e u2 ⟨rfl, hu⟩
  subst hu
  go_wp2_with fail
  refine RC.out.mono ?_
  rintro e u3 ⟨rfl, B3, k3⟩
  have K3 := K1.out.trans k3 (fun _ h => .inl h)
  clear k3 K1 RC BL L
  go_wp2
  refine leaves_cons (f := 26) (args := #[.pointer (some ⟨b, 2, none⟩), .bool true]) (by simp) (by simp [go_sem]) ?_
  refine (put_deferred17 ⟨b, 2, none⟩ (.int .u32 0) .returning _ (blk_cell B3 2) (blk_froz B3 2)).mono ?_
  rintro e u' w'' ⟨rfl, rfl, rfl⟩
  have B4 : Blk (u3.drew.setCell ⟨b, 2, none⟩ (.int .u32 1)) b 50 (shL true (.slice none 0 0) 1 1 0 (pixL z) n) := blk_setc (blk_drew B3) 2 (.int .u32 1)
  have K4 := keptX_set K3.drew b 2 (.int .u32 1) rfl
  refine leaves_cons (f := 25) (args := #[.pointer (some ⟨b, 3, none⟩)]) (by simp [settle]) (by simp [go_sem]) ?_
  refine (free_deferred17 ⟨b, 3, none⟩ _ _ (blk_cell B4 3) (blk_froz B4 3)).mono ?_
  rintro e u' w'' ⟨rfl, rfl, rfl⟩
  have B5 : Blk ((u3.drew.setCell ⟨b, 2, none⟩ (.int .u32 1)).setCell ⟨b, 3, none⟩ (.int .i32 0)) b 50 (shL true (.slice none 0 0) 1 0 0 (pixL z) n) := blk_setc B4 3 (.int .i32 0)
  have K5 := keptX_set K4 b 3 (.int .i32 0) rfl
  generalize (u3.drew.setCell ⟨b, 2, none⟩ (.int .u32 1)).setCell ⟨b, 3, none⟩ (.int .i32 0) = v at *
  simp [Leaves, settle, results, Try.results18]
  exact ⟨B5, K5⟩
set_option maxRecDepth 100000 in
set_option maxHeartbeats 4000000 in
theorem dofirst17 (b : Nat) (a : Option Addr) (cap : Nat) (z : List Int) (n : Int) (w : World) (hB : Blk w b 50 (shL true (.slice a z.length cap) 0 0 0 pix0 n)) (hr : Row w a z) (hne : ∀ x, a = some x → x.block ≠ b) :
    Calls Try.prog 10 #[.pointer (some ⟨b, 2, none⟩), .func (.func 11) #[.pointer (some ⟨b, 0, none⟩)] #[]] w fun e w' => e = .returned (.tuple #[]) ∧ Blk w' b 50 (shL true (.slice none 0 0) 1 0 0 (pixL z) n) ∧ KeptX (fun k => k = b) w w' := by
  have BL := hid (bload17 ⟨b, 2, none⟩ 0 w (blk_cell hB 2))
  have SL := hid (slow17 b a cap z n w hB hr hne)
  have hnot : ∀ (x : Bool) (w : World), (Op.unary .not (.bool x)).run Try.prog w = .ok (.bool (!x)) w := fun _ _ => rfl
  clear hB hr
  go_enter Try.func10, Try.ntmps10
  go_wp2_with fail
  refine BL.out.mono ?_
  rintro e u2 ⟨rfl, hu⟩
  subst hu
  go_wp2_with fail
  refine SL.out.mono ?_
  rintro e u3 ⟨rfl, B3, k3⟩
  go_wp2
  go_end0
  exact ⟨rfl, B3, k3⟩
set_option maxRecDepth 100000 in
set_option maxHeartbeats 4000000 in
theorem dodone17 (b : Nat) (cs : List Value) (fv : Value) (w : World) (hc : w.cell? ⟨b, 2, none⟩ = some (.int .u32 1)) :
    Calls Try.prog 10 #[.pointer (some ⟨b, 2, none⟩), fv] w fun e w' => e = .returned (.tuple #[]) ∧ w' = w := by
  have BL := hid (bload17 ⟨b, 2, none⟩ 1 w hc)
  have hnot : ∀ (x : Bool) (w : World), (Op.unary .not (.bool x)).run Try.prog w = .ok (.bool (!x)) w := fun _ _ => rfl
  go_enter Try.func10, Try.ntmps10
  go_wp2_with fail
  refine BL.out.mono ?_
  rintro e u2 ⟨rfl, hu⟩
  subst hu
  go_wp2
  go_end0
  exact ⟨rfl, rfl⟩
set_option maxRecDepth 100000 in
set_option maxHeartbeats 4000000 in
theorem within17 (k m : Int) (w : World) : Calls Try.prog 12 #[.int .i64 k, .int .i64 m] w fun e w' => e = .returned (.bool (decide (0 ≤ k) && decide (k < m))) ∧ w' = w := by
  by_cases h : 0 ≤ k
  · have g1 : decide (0 ≤ k) = true := decide_eq_true h
    rw [g1, Bool.true_and]
    generalize hq : decide (k < m) = q at *
    go_enter Try.func12, Try.ntmps12
    go_wp2
    go_ret
    exact ⟨rfl, rfl⟩
  · have g1 : decide (0 ≤ k) = false := decide_eq_false h
    rw [g1, Bool.false_and]
    go_enter Try.func12, Try.ntmps12
    go_wp2
    go_ret
    exact ⟨rfl, rfl⟩
end Go.Proofs.Ytdimkeknjhdjfab
