/- A sheet's making; the laws of the atomic numbers and of the lock, over this seat's program. -/
import Derived.Test.YtdimkeknjhdjfabSh17a
import Derived.Laws.LoneSync
import Derived.Defers
import Derived.RegionCalls
namespace Go.Proofs.Ytdimkeknjhdjfab
open Go.RowKit
set_option linter.unusedVariables false
set_option linter.unusedSimpArgs false

theorem build17 (w : World) : (Instr.build 50 #[(0, .bool true)]).run Try.prog w = .ok (.agg (shL true (.slice none 0 0) 0 0 0 pix0 0).toArray) w := by
  have hl : (shL false (.slice none 0 0) 0 0 0 pix0 0).toArray.size = 24582 := by rw [List.size_toArray]; exact shL_len pix0_len
  unfold Instr.build
  simp only [Sem.run_bind, zero17, Result.andThen_ok, Try.runUnderlying50]
  generalize hq : shL false (.slice none 0 0) 0 0 0 pix0 0 = q at *
  simp [Instr.fill, Value.cells, go_sem, hl]
  rw [← hq]
  rfl
theorem build17z (w : World) : (Instr.build 50 #[]).run Try.prog w = .ok (.agg (shL false (.slice none 0 0) 0 0 0 pix0 0).toArray) w := by
  unfold Instr.build
  simp only [Sem.run_bind, zero17, Result.andThen_ok, Try.runUnderlying50]
  generalize hq : shL false (.slice none 0 0) 0 0 0 pix0 0 = q at *
  simp [Instr.fill, Value.cells, go_sem]
/-- atomic.Int64's Load. -/
theorem aload17 (b o : Nat) (n : Int) (w : World) (hc : w.cell? ⟨b, o, none⟩ = some (.int .i64 n)) : Calls Try.prog 8 #[.pointer (some ⟨b, o, none⟩)] w fun e w' => e = .returned (.int .i64 n) ∧ w' = w := by
  have hl := run_call_load (P := Try.prog) Try.func15 (by kernel_rfl) (by kernel_rfl) (by kernel_rfl) .i64 (by kernel_rfl) hc
  go_enter Try.func8, Try.ntmps8
  go_wp2
  go_ret
  exact ⟨rfl, rfl⟩
/-- atomic.Int64's Add(1). -/
theorem aadd17 (b o : Nat) (n : Int) (w : World) (hc : w.cell? ⟨b, o, none⟩ = some (.int .i64 n)) (hz : w.frozen? ⟨b, o, none⟩ = false) (h0 : 0 ≤ n) (h1 : n < 1000000) : Calls Try.prog 9 #[.pointer (some ⟨b, o, none⟩), .int .i64 1] w fun e w' => e = .returned (.int .i64 (n + 1)) ∧ w' = w.setCell ⟨b, o, none⟩ (.int .i64 (n + 1)) := by
  have e1 : IntKind.i64.wrap (n + 1) = n + 1 := by rw [IntKind.wrap_i64]; omega
  have hs : (Op.intArith .add .i64 n 1).run Try.prog w = .ok (.int .i64 (n + 1)) w := by simp [go_sem, e1]
  have hl := run_call_add (P := Try.prog) Try.func16 (by kernel_rfl) (by kernel_rfl) (by kernel_rfl) .i64 (by kernel_rfl) (y := 1) (s := n + 1) hc hz hs
  clear hs
  go_enter Try.func9, Try.ntmps9
  go_wp2
  go_ret
  exact ⟨rfl, rfl⟩
end Go.Proofs.Ytdimkeknjhdjfab
