/- What the deferred functions of the program's layer 7 come to; Parse and Sum. -/
import Derived.Test.YtfmddnekooojkaaGreatDoorG36
import Derived.Defers
import Derived.Recover
namespace Go.Proofs.YtfmddnekooojkaaGreatDoor
open Go.RowKit
set_option linter.unusedVariables false
set_option linter.unusedSimpArgs false

theorem catchParse_yes (p : Addr) (x n : Int) (older : List PanicEntry) (w : World) (hc : w.cell? p = some (.int .i64 x)) (hz : w.frozen? p = false) :
    CallsD Tryz.prog 47 #[.pointer (some p)] (.panicking ({ v := .iface 26 (.int .i64 n), recovered := false } :: older)) w fun e u' w' =>
      e = .returned (.tuple #[]) ∧ u' = .panicking ({ v := .iface 26 (.int .i64 n), recovered := true } :: older) ∧ w' = w.setCell p (.int .i64 n) := by
  have hta : ∀ u, (Instr.typeAssert (.iface 26 (.int .i64 n)) 20 26 false).run Tryz.prog u = .ok (.int .i64 n) u := fun u => by kernel_rfl
  refine callsD_of_wpS Tryz.func47 rfl fun c₀ cs hu => ?_
  apply wpS_seq
  apply wpS_region
  simp [wpOpsS, go_sem, recoverD, hu, Tryz.ntmps47, Exit.thenS]
  refine wpS_of_wp ?_
  rw [show #[Value.pointer (some p)] ++ ((Array.replicate 6 undef).setIfInBounds 1 (.iface 26 (.int .i64 n))).setIfInBounds 0 (.iface 26 (.int .i64 n)) = #[.pointer (some p), .iface 26 (.int .i64 n), .iface 26 (.int .i64 n), undef, undef, undef, undef] from rfl]
  go_wp2
  simp [bodyPostS, results, Tryz.results47]
theorem catchMake_yes (p : Addr) (x n : Int) (older : List PanicEntry) (w : World) (hc : w.cell? p = some (.int .i64 x)) (hz : w.frozen? p = false) :
    CallsD Tryz.prog 68 #[.pointer (some p)] (.panicking ({ v := .iface 26 (.int .i64 n), recovered := false } :: older)) w fun e u' w' =>
      e = .returned (.tuple #[]) ∧ u' = .panicking ({ v := .iface 26 (.int .i64 n), recovered := true } :: older) ∧ w' = w.setCell p (.int .i64 n) := by
  have hta : ∀ u, (Instr.typeAssert (.iface 26 (.int .i64 n)) 20 26 false).run Tryz.prog u = .ok (.int .i64 n) u := fun u => by kernel_rfl
  refine callsD_of_wpS Tryz.func68 rfl fun c₀ cs hu => ?_
  apply wpS_seq
  apply wpS_region
  simp [wpOpsS, go_sem, recoverD, hu, Tryz.ntmps68, Exit.thenS]
  refine wpS_of_wp ?_
  rw [show #[Value.pointer (some p)] ++ ((Array.replicate 6 undef).setIfInBounds 1 (.iface 26 (.int .i64 n))).setIfInBounds 0 (.iface 26 (.int .i64 n)) = #[.pointer (some p), .iface 26 (.int .i64 n), .iface 26 (.int .i64 n), undef, undef, undef, undef] from rfl]
  go_wp2
  simp [bodyPostS, results, Tryz.results68]
theorem catchParse_idle (p : Addr) (w : World) :
    CallsD Tryz.prog 47 #[.pointer (some p)] .returning w fun e u' w' => e = .returned (.tuple #[]) ∧ u' = .returning ∧ w' = w := by
  refine callsD_of_wpS Tryz.func47 rfl fun c₀ cs hu => ?_
  apply wpS_seq
  apply wpS_region
  simp [wpOpsS, go_sem, recoverD, hu, Tryz.ntmps47, Exit.thenS]
  refine wpS_of_wp ?_
  rw [show #[Value.pointer (some p)] ++ ((Array.replicate 6 undef).setIfInBounds 1 .nilIface).setIfInBounds 0 .nilIface = #[.pointer (some p), .nilIface, .nilIface, undef, undef, undef, undef] from rfl]
  go_wp2
  cases c₀
  simp_all [bodyPostS, results, Tryz.results47]
theorem catchMake_idle (p : Addr) (w : World) :
    CallsD Tryz.prog 68 #[.pointer (some p)] .returning w fun e u' w' => e = .returned (.tuple #[]) ∧ u' = .returning ∧ w' = w := by
  refine callsD_of_wpS Tryz.func68 rfl fun c₀ cs hu => ?_
  apply wpS_seq
  apply wpS_region
  simp [wpOpsS, go_sem, recoverD, hu, Tryz.ntmps68, Exit.thenS]
  refine wpS_of_wp ?_
  rw [show #[Value.pointer (some p)] ++ ((Array.replicate 6 undef).setIfInBounds 1 .nilIface).setIfInBounds 0 .nilIface = #[.pointer (some p), .nilIface, .nilIface, undef, undef, undef, undef] from rfl]
  go_wp2
  cases c₀
  simp_all [bodyPostS, results, Tryz.results68]

theorem hid_kept {W w : World} (h : Kept W w) : Hid (Kept W w) := h
abbrev hz10 : Array Value := #[.string ⟨#[]⟩, .int .u8 0, .int .i64 0, .bool false, .bool false, .bool false, .int .i64 0, .int .i64 0, .int .u8 0, .int .u16 0]
set_option maxRecDepth 100000 in
set_option maxHeartbeats 4000000 in
theorem hparse_hd (z : List Int) (a : Option Addr) (cap : Nat) (w : World) (lay : Lay7 w) (row : Row w a z) (lc : z.length ≤ cap) (cm : cap ≤ maxLen) : Calls Tryz.prog 19 #[.slice a z.length cap] w fun e w' => e = .returned (.tuple #[hdV (parseH z), .int .i64 (parseE z)]) ∧ Kept w w' := by
  have C := hid (fun u (g : Kept w u) => pread_any z a cap u (lay.kept g) (row_kept g row) lc cm)
  have NO := hid (parse_no z)
  generalize parseH z = H at *
  generalize parseE z = E at *
  generalize z.length = n at *
  clear lay row
  have hmf : ∀ (fn : Fn) (first cap : Array Value) (w : World), (Instr.makeFunc fn first cap).run Tryz.prog w = .ok (.func fn first cap) w := fun _ _ _ _ => rfl
  go_enter_defers Tryz.func19, Tryz.ntmps19
  go_wp2_with fail
  refine (C.out _ (((Kept.refl w).alloc _).alloc _)).mono ?_
  rintro e u1 ⟨h, k1⟩
  have K1 := hid ((((Kept.refl w).alloc _).alloc _).trans k1)
  have HA := has_kept7 k1 (has_past (has_alloc w hz10 31) (.cells #[.int .i64 0] 26))
  have HB := has_kept7 k1 (has_alloc (w.alloc (.cells hz10 31)) #[.int .i64 0] 26)
  simp only [World.size_alloc] at HB
  have FA : ∀ o, u1.frozen? ⟨w.heap.size, o, none⟩ = false := fun o => by
    rw [k1.froz (x := ⟨w.heap.size, o, none⟩) (by simp; omega)]
    exact grown_froz (((Grown.refl w).alloc _ _).alloc _ _) (Nat.le_refl _) o
  have FB : ∀ o, u1.frozen? ⟨w.heap.size + 1, o, none⟩ = false := fun o => by
    rw [k1.froz (x := ⟨w.heap.size + 1, o, none⟩) (by simp)]
    exact grown_froz (((Grown.refl w).alloc _ _).alloc _ _) (Nat.le_succ _) o
  have a0 := HA.2 0
  have a1 := HA.2 1
  have a2 := HA.2 2
  have a3 := HA.2 3
  have a4 := HA.2 4
  have a5 := HA.2 5
  have a6 := HA.2 6
  have a7 := HA.2 7
  have a8 := HA.2 8
  have a9 := HA.2 9
  have b0 := HB.2 0
  simp at a0 a1 a2 a3 a4 a5 a6 a7 a8 a9 b0
  have zA := HA.1
  have zB := HB.1
  have nA : w.heap.size ≠ w.heap.size + 1 := by omega
  have nB : w.heap.size + 1 ≠ w.heap.size := by omega
  clear k1 HA HB
  rcases h with ⟨rfl, rfl⟩ | ⟨hne, rfl⟩
  · go_wp2
    refine leaves_cons (f := 47) (args := #[.pointer (some ⟨w.heap.size + 1, 0, none⟩)]) (by simp) (by simp [go_sem]) ?_
    refine (catchParse_idle ⟨w.heap.size + 1, 0, none⟩ _).mono ?_
    rintro e u' w'' ⟨rfl, rfl, rfl⟩
    refine ⟨.tuple #[hdV H, .int .i64 0], by simp [results, Tryz.results19, go_sem, a0, a1, a2, a3, a4, a5, a6, a7, a8, a9, b0, zA, zB, nA, nB], rfl, ?_⟩
    repeat (first | with_reducible exact K1.out | with_reducible refine Kept.setCell ?_ (Nat.le_refl _) _ _ | with_reducible refine Kept.setCell ?_ (Nat.le_succ _) _ _)
  · obtain rfl := NO.out hne
    go_wp2
    refine leaves_cons (f := 47) (args := #[.pointer (some ⟨w.heap.size + 1, 0, none⟩)]) (by simp) (by simp [go_sem]) ?_
    refine (catchParse_yes ⟨w.heap.size + 1, 0, none⟩ 0 E [] _ b0 (FB 0)).mono ?_
    rintro e u' w'' ⟨rfl, rfl, rfl⟩
    refine ⟨.tuple #[hdV hd0, .int .i64 E], by simp [results, Tryz.results19, go_sem, hd0, a0, a1, a2, a3, a4, a5, a6, a7, a8, a9, b0, zA, zB, nA, nB], rfl, ?_⟩
    exact K1.out.setCell (Nat.le_succ _) _ _
theorem hparse_any (z : List Int) (a : Option Addr) (cap : Nat) (w : World) (lay : Lay7 w) (row : Row w a z) (lc : z.length ≤ cap) (cm : cap ≤ maxLen) : Calls Tryz.prog 19 #[.slice a z.length cap] w fun e w' => e = .returned (.tuple #[.agg #[.string (parseH z).title, .int .u8 (parseH z).kind, .int .i64 (parseH z).map, .bool (parseH z).ram, .bool (parseH z).bat, .bool (parseH z).clk, .int .i64 (parseH z).banks, .int .i64 (parseH z).size, .int .u8 (parseH z).sum, .int .u16 (parseH z).whole], .int .i64 (parseE z)]) ∧ Kept w w' :=
  hparse_hd z a cap w lay row lc cm
end Go.Proofs.YtfmddnekooojkaaGreatDoor
