/- What the small calls of the program's layer 7 come to, those that give up too. What Parse of the document's answers of layer 7 comes to. -/
import Derived.Test.YtfmddnekooojkaaGreatDoorG06
import Derived.Test.YtfmddnekooojkaaGreatDoorG04
import Derived.Deep.QuietTactic
import Derived.BigQuiet
import Derived.Test.YtfmddnekooojkaaGreatDoorG07
namespace Go.Proofs.YtfmddnekooojkaaGreatDoor
open Go.RowKit
set_option linter.unusedVariables false
set_option linter.unusedSimpArgs false

abbrev pan (n : Int) : List PanicEntry := [{ v := .iface 26 (.int .i64 n), recovered := false }]
theorem nine {p : Int → Prop} (h0 : p 0) (h1 : p 1) (h2 : p 2) (h3 : p 3) (h4 : p 4) (h5 : p 5) (h6 : p 6) (h7 : p 7) (h8 : p 8) (r : Int) (a : 0 ≤ r) (b : r ≤ 8) : p r := by
  have : r = 0 ∨ r = 1 ∨ r = 2 ∨ r = 3 ∨ r = 4 ∨ r = 5 ∨ r = 6 ∨ r = 7 ∨ r = 8 := by omega
  rcases this with rfl | rfl | rfl | rfl | rfl | rfl | rfl | rfl | rfl <;> assumption
theorem add_off (x : Addr) (a b : Nat) (h : 0 < a) : x.add (a + b) = ⟨x.block, x.off + a + b, none⟩ := by
  unfold Addr.add
  rw [if_neg (by omega)]
  simp only [Nat.add_assoc]
def bankOf (r : Int) : Int := mostOf r / 16384
set_option maxRecDepth 100000 in
theorem pbanks_any (r : Int) (w : World) (r0 : 0 ≤ r) (r1 : r ≤ 8) : Calls Tryz.prog 76 #[.int .u8 r] w fun e w' => e = .returned (.int .i64 (bankOf r)) ∧ w' = w := by
  refine nine (p := fun r => Calls Tryz.prog 76 #[.int .u8 r] w fun e w' => e = .returned (.int .i64 (bankOf r)) ∧ w' = w) ?_ ?_ ?_ ?_ ?_ ?_ ?_ ?_ ?_ r r0 r1
  all_goals
    go_enter Tryz.func76, Tryz.ntmps76
    go_wp2
    go_ret
    exact ⟨by first | rfl | (show Ending.returned (.int .i64 _) = .returned (.int .i64 _); rfl), rfl⟩
theorem pprint_any (b : Int) (w : World) : Calls Tryz.prog 80 #[.int .u8 b] w fun e w' => e = .returned (.bool (signB b)) ∧ w' = w := by
  unfold signB
  go_enter Tryz.func80, Tryz.ntmps80
  by_cases h : 32 ≤ b
  · have h2 : decide (32 ≤ b) = true := decide_eq_true h
    rw [h2]
    go_wp2
    go_ret
    exact ⟨by simp, rfl⟩
  · have h2 : decide (32 ≤ b) = false := decide_eq_false h
    rw [h2]
    go_wp2
    go_ret
    exact ⟨by simp, rfl⟩
set_option maxRecDepth 100000 in
theorem psum_any (z : List Int) (x : Addr) (n cap : Nat) (w : World) (hn : 336 ≤ n) (hm : n ≤ maxLen) (hcap : n ≤ cap) (hcm : cap ≤ maxLen) (hz : 336 ≤ z.length) (hb : x.block < w.heap.size) (hc : ∀ i, i < 336 → w.cell? (x.add i) = some (.int .u8 (z.getD i 0)) ∧ InByte (z.getD i 0)) :
    Calls Tryz.prog 81 #[.slice (some x) n cap] w fun e w' => e = .returned (.int .u8 (sumOf z)) ∧ w' = w := by
  have HC := hid hc
  unfold sumOf
  unfold maxLen at hm hcm
  have s1 : (333 : Int) ≤ (cap : Int) := by omega
  clear hc
  go_enter Tryz.func81, Tryz.ntmps81
  go_wp2
  go_loopw [3, 9] (fun v i wr => ∃ k : Nat, k ≤ 25 ∧ v = .int .u8 (sumTo z k) ∧ i = .int .i64 (k : Int) ∧ wr = w) (fun _ i _ => 25 - (intOf i).toNat)
  case atStart => exact ⟨0, by omega, rfl, rfl, rfl⟩
  case round =>
    obtain ⟨k, hk, rfl, rfl, rfl⟩ := hrel
    have sb := sumTo_bd z k
    by_cases hlt : k < 25
    · have hlt2 : (k : Int) < 25 := by omega
      have ck := HC.out (308 + k) (by omega)
      have E := hid (show sumTo z (k + 1) = (sumTo z k + 512 - z.getD (308 + k) 0 - 1) % 256 from rfl)
      obtain ⟨y, hy⟩ : ∃ y, z.getD (308 + k) 0 = y := ⟨_, rfl⟩
      rw [hy] at ck E
      obtain ⟨ck, y0, y1⟩ := ck
      rw [add_off x 308 k (by decide)] at ck
      generalize sumTo z k = S at *
      clear hy
      have w1 : IntKind.u8.wrap (S - IntKind.u8.wrap (y + 1)) = (S + 512 - y - 1) % 256 := by rw [IntKind.wrap_u8, IntKind.wrap_u8]; omega
      go_wp2
      go_roundw
      case rel => exact ⟨k + 1, by omega, by rw [E.out]; congr 1 <;> omega, by go_num, by trivial⟩
      case measure => first | omega | (simp; omega) | (simp [intOf]; omega)
    · obtain rfl : k = 25 := by omega
      generalize hS : sumTo z 25 = S at *
      have HS := hid hS
      clear hS
      go_wp2
      go_ret
      exact ⟨by rw [HS.out]; rfl, rfl⟩
theorem phead_no (n cap : Nat) (a : Option Addr) (w : World) (h : n < 336) : Calls Tryz.prog 73 #[.slice a n cap] w fun e w' => e = .panicked (pan 2) ∧ w' = w := by
  have h2 : (n : Int) < 336 := by omega
  go_enter Tryz.func73, Tryz.ntmps73
  go_wp2
  exact ⟨rfl, rfl, rfl⟩
theorem phead_any (n cap : Nat) (x : Addr) (w : World) (h : 336 ≤ n) (hcap : n ≤ cap) (hcm : cap ≤ maxLen) : Calls Tryz.prog 73 #[.slice (some x) n cap] w fun e w' => e = .returned (.slice (some x) 336 cap) ∧ w' = w := by
  have h2 : ¬ ((n : Int) < 336) := by omega
  have h3 : (336 : Int) ≤ (cap : Int) := by omega
  unfold maxLen at hcm
  go_enter Tryz.func73, Tryz.ntmps73
  go_wp2
  go_ret
  exact ⟨rfl, rfl⟩

set_option maxRecDepth 100000 in
theorem pchk_ok (z : List Int) (x : Addr) (n cap : Nat) (w : World) (hn : 336 ≤ n) (hm : n ≤ maxLen) (hcap : n ≤ cap) (hcm : cap ≤ maxLen) (hz : 336 ≤ z.length) (hb : x.block < w.heap.size) (hc : ∀ i, i < 336 → w.cell? (x.add i) = some (.int .u8 (z.getD i 0)) ∧ InByte (z.getD i 0)) (ok : sumOf z = z.getD 333 0) :
    Calls Tryz.prog 74 #[.slice (some x) n cap] w fun e w' => e = .returned (.tuple #[]) ∧ Kept w w' := by
  have C := hid (fun u (g : Kept w u) => psum_any z x n cap u hn hm hcap hcm hz (Nat.lt_of_lt_of_le hb g.size) (fun i hi => ⟨(g.cell (x := x.add i) (by rw [addB]; exact hb)).trans (hc i hi).1, (hc i hi).2⟩))
  have c1 := (hc 333 (by omega)).1
  rw [← ok, add_off x 333 0 (by decide)] at c1
  obtain ⟨S, hS⟩ : ∃ v, sumOf z = v := ⟨_, rfl⟩
  rw [hS] at C c1
  have h3 : (333 : Int) < (n : Int) := by omega
  simp only [Nat.add_zero] at c1
  clear hc ok hS
  go_enter Tryz.func74, Tryz.ntmps74
  go_wp2_with fail
  go_quiet ((go_at_call 81; exact Calls.quiet_of_same (C.out _ (Kept.refl _).drewN)))
  go_wp2
  first | (go_end0; exact ⟨rfl, (Kept.refl _).drewN⟩) | exact bodyPost_normal (results_none rfl _ _ _) rfl ⟨rfl, (Kept.refl _).drewN⟩
end Go.Proofs.YtfmddnekooojkaaGreatDoor
namespace Go.Proofs.YtfmddnekooojkaaGreatDoor
open Go.RowKit
set_option linter.unusedVariables false
set_option linter.unusedSimpArgs false

theorem cell_grown7 {W w1 : World} (g : Grown W w1) {x : Addr} (h : x.block < W.heap.size) : w1.cell? x = W.cell? x := World.cell?_of_block (w := W) (gblock g x.block h)
set_option maxRecDepth 100000 in
set_option maxHeartbeats 8000000 in
theorem rparse_any (z : List Int) (a : Option Addr) (cap : Nat) (w : World) (row : Row w a z) : Calls Tryz.prog 22 #[.slice a z.length cap] w fun e w' => e = .returned (.tuple #[.agg #[.string (parseH z).title, .int .u8 (parseH z).kind, .int .i64 (parseH z).map, .bool (parseH z).ram, .bool (parseH z).bat, .bool (parseH z).clk, .int .i64 (parseH z).banks, .int .i64 (parseH z).size, .int .u8 (parseH z).sum, .int .u16 (parseH z).whole], .int .i64 (parseE z)]) ∧ Grown w w' := by
  have hm : z.length ≤ maxLen := row.1
  by_cases hs : z.length < 336
  · have EE := hid (show parseE z = 2 by simp [parseE, hs])
    have EH := hid (show parseH z = hd0 by unfold parseH; rw [if_neg (by rw [EE.out]; decide)])
    generalize z.length = n at *
    have h2 : (n : Int) < 336 := by omega
    clear row
    go_enter Tryz.func22, Tryz.ntmps22
    go_wp2
    exact bodyPost_ret (v := .tuple #[.agg #[.string ⟨#[]⟩, .int .u8 0, .int .i64 0, .bool false, .bool false, .bool false, .int .i64 0, .int .i64 0, .int .u8 0, .int .u16 0], .int .i64 2]) (by simp [results, Tryz.results22, go_sem]) rfl ⟨by rw [EE.out, EH.out]; rfl, alloc1 _ _ _⟩
  · obtain ⟨x, rfl, hx, hc⟩ := row_get row (by omega)
    obtain ⟨e327, k0, k1⟩ := hc 327 (by omega)
    have c327 : w.cell? ⟨x.block, x.off + 327, none⟩ = some (.int .u8 (z.getD 327 0)) := e327
    clear e327
    obtain ⟨e328, r0, r1⟩ := hc 328 (by omega)
    have c328 : w.cell? ⟨x.block, x.off + 328, none⟩ = some (.int .u8 (z.getD 328 0)) := e328
    clear e328
    obtain ⟨e329, m0, m1⟩ := hc 329 (by omega)
    have c329 : w.cell? ⟨x.block, x.off + 329, none⟩ = some (.int .u8 (z.getD 329 0)) := e329
    clear e329
    obtain ⟨e333, s0, s1⟩ := hc 333 (by omega)
    have c333 : w.cell? ⟨x.block, x.off + 333, none⟩ = some (.int .u8 (z.getD 333 0)) := e333
    clear e333
    obtain ⟨e334, v0, v1⟩ := hc 334 (by omega)
    have c334 : w.cell? ⟨x.block, x.off + 334, none⟩ = some (.int .u8 (z.getD 334 0)) := e334
    clear e334
    obtain ⟨e335, y0, y1⟩ := hc 335 (by omega)
    have c335 : w.cell? ⟨x.block, x.off + 335, none⟩ = some (.int .u8 (z.getD 335 0)) := e335
    clear e335
    have CS := fun u (g : Grown w u) => rsum_any z (some x) cap u ⟨row.1, row.2.1, .inr ⟨x, rfl, Nat.lt_of_lt_of_le hx g.2.2, fun i hi => (cell_grown7 g (x := x.add i) (by rw [addB]; exact hx)).trans (hc i hi).1⟩⟩
    rw [show sumV z = sumOf z by simp [sumV, hs], show sumE z = 0 by simp [sumE, hs]] at CS
    have CCS := hid CS
    have HC := hid hc
    have PE := hid (show parseE z = if kindOk (z.getD 327 0) = false then 4 else if 8 < z.getD 328 0 ∨ 5 < z.getD 329 0 ∨ mostOf (z.getD 328 0) < (z.length : Int) then 5 else if sumOf z ≠ z.getD 333 0 then 3 else 0 by unfold parseE; rw [if_neg hs])
    have PH := hid (show parseE z = 0 → parseH z = ⟨strB (titL z), z.getD 327 0, kMap (z.getD 327 0), kRam (z.getD 327 0), kBat (z.getD 327 0), kClk (z.getD 327 0), mostOf (z.getD 328 0) / 16384, (if kRam (z.getD 327 0) then sizeM (z.getD 329 0) else 0), sumOf z, 256 * z.getD 334 0 + z.getD 335 0⟩ from fun h => by unfold parseH; rw [if_pos h])
    have PN := hid (show parseE z ≠ 0 → parseH z = hd0 from fun h => by unfold parseH; rw [if_neg h])
    generalize hK : z.getD 327 0 = K at *
    generalize hR : z.getD 328 0 = R at *
    generalize hM : z.getD 329 0 = M at *
    generalize hS : z.getD 333 0 = S at *
    generalize hV : z.getD 334 0 = V at *
    generalize hY : z.getD 335 0 = Y at *
    have CK := hid (fun u => rkinds_any K u k0 k1)
    have CM := hid (fun u (h : R ≤ 8) => rmost_any R u r0 h)
    obtain ⟨n, hn⟩ : ∃ n, z.length = n := ⟨_, rfl⟩
    have HN := hid hn
    rw [hn] at hs hm CCS PE ⊢
    have h2 : ¬ ((n : Int) < 336) := by omega
    have sb := sumTo_bd z 25
    generalize hX : sumOf z = X at *
    have x0 : 0 ≤ X ∧ X ≤ 255 := by rw [← hX]; exact sb
    have i327 : (327 : Int) < (n : Int) := by omega
    have i328 : (328 : Int) < (n : Int) := by omega
    have i329 : (329 : Int) < (n : Int) := by omega
    have i333 : (333 : Int) < (n : Int) := by omega
    have i334 : (334 : Int) < (n : Int) := by omega
    have i335 : (335 : Int) < (n : Int) := by omega
    clear row hc hn sb CS hX hK hR hM hS hV hY
    cases hk : kindOk K
    · have EE := hid (show parseE z = 4 by rw [PE.out, if_pos hk])
      have EH := hid (PN.out (by rw [EE.out]; decide))
      have EK := hid (show kindH K = hd0 by simp [kindH, hk])
      rw [hk, EK.out] at CK
      clear PE PH PN EK hk
      go_enter Tryz.func22, Tryz.ntmps22
      go_wp2_with fail
      refine (CK.out _).mono ?_
      rintro e u1 ⟨rfl, g1⟩
      have G1 := hid (grown_trans (alloc1 w _ _) g1)
      have HA := hid (has_grown g1 (has_alloc w #[.string ⟨#[]⟩, .int .u8 0, .int .i64 0, .bool false, .bool false, .bool false, .int .i64 0, .int .i64 0, .int .u8 0, .int .u16 0] 31))
      obtain ⟨zA, cA⟩ := id HA.out
      have fA := fun o => grown_froz G1.out (Nat.le_refl w.heap.size) o
      have zx : x.block < u1.heap.size := Nat.lt_of_lt_of_le hx G1.out.2.2
      have nx : x.block ≠ u1.heap.size := by omega
      have nA : w.heap.size ≠ u1.heap.size := by omega
      have zu : w.heap.size < u1.heap.size + 1 := by omega
      have a0 := cA 0
      have a1 := cA 1
      have a2 := cA 2
      have a3 := cA 3
      have a4 := cA 4
      have a5 := cA 5
      have a6 := cA 6
      have a7 := cA 7
      have a8 := cA 8
      have a9 := cA 9
      simp at a0 a1 a2 a3 a4 a5 a6 a7 a8 a9
      have d327 : u1.cell? ⟨x.block, x.off + 327, none⟩ = _ := (cell_grown7 G1.out (x := ⟨x.block, x.off + 327, none⟩) hx).trans c327
      have d328 : u1.cell? ⟨x.block, x.off + 328, none⟩ = _ := (cell_grown7 G1.out (x := ⟨x.block, x.off + 328, none⟩) hx).trans c328
      have d329 : u1.cell? ⟨x.block, x.off + 329, none⟩ = _ := (cell_grown7 G1.out (x := ⟨x.block, x.off + 329, none⟩) hx).trans c329
      have d333 : u1.cell? ⟨x.block, x.off + 333, none⟩ = _ := (cell_grown7 G1.out (x := ⟨x.block, x.off + 333, none⟩) hx).trans c333
      have d334 : u1.cell? ⟨x.block, x.off + 334, none⟩ = _ := (cell_grown7 G1.out (x := ⟨x.block, x.off + 334, none⟩) hx).trans c334
      have d335 : u1.cell? ⟨x.block, x.off + 335, none⟩ = _ := (cell_grown7 G1.out (x := ⟨x.block, x.off + 335, none⟩) hx).trans c335
      clear cA g1
      go_wp2
      exact bodyPost_ret (v := .tuple #[.agg #[.string ⟨#[]⟩, .int .u8 0, .int .i64 0, .bool false, .bool false, .bool false, .int .i64 0, .int .i64 0, .int .u8 0, .int .u16 0], .int .i64 4]) (by simp [results, Tryz.results22, go_sem, a0, a1, a2, a3, a4, a5, a6, a7, a8, a9, zA]) rfl ⟨by rw [EE.out, EH.out]; rfl, (((((((((((G1.out.setCell (Nat.le_refl _) _).setCell (Nat.le_refl _) _).setCell (Nat.le_refl _) _).setCell (Nat.le_refl _) _).setCell (Nat.le_refl _) _).setCell (Nat.le_refl _) _).setCell (Nat.le_refl _) _).setCell (Nat.le_refl _) _).setCell (Nat.le_refl _) _).setCell (Nat.le_refl _) _).alloc _ _)⟩
    · have EK := hid (show kindH K = ⟨⟨#[]⟩, K, kMap K, kRam K, kBat K, kClk K, 0, 0, 0, 0⟩ by simp [kindH, hk])
      rw [hk, EK.out] at CK
      generalize hMP : kMap K = MP at *
      generalize hRm : kRam K = Rm at *
      generalize hBt : kBat K = Bt at *
      generalize hCk : kClk K = Ck at *
      clear EK hMP hRm hBt hCk
      by_cases he : 8 < R ∨ 5 < M ∨ mostOf R < (n : Int)
      · have EE := hid (show parseE z = 5 by rw [PE.out, if_neg (by rw [hk]; decide), if_pos he])
        have EH := hid (PN.out (by rw [EE.out]; decide))
        clear PE PH PN hk
        by_cases h8 : 8 < R
        · clear he
          go_enter Tryz.func22, Tryz.ntmps22
          go_wp2_with fail
          refine (CK.out _).mono ?_
          rintro e u1 ⟨rfl, g1⟩
          have G1 := hid (grown_trans (alloc1 w _ _) g1)
          have HA := hid (has_grown g1 (has_alloc w #[.string ⟨#[]⟩, .int .u8 0, .int .i64 0, .bool false, .bool false, .bool false, .int .i64 0, .int .i64 0, .int .u8 0, .int .u16 0] 31))
          obtain ⟨zA, cA⟩ := id HA.out
          have fA := fun o => grown_froz G1.out (Nat.le_refl w.heap.size) o
          have zx : x.block < u1.heap.size := Nat.lt_of_lt_of_le hx G1.out.2.2
          have nx : x.block ≠ u1.heap.size := by omega
          have nA : w.heap.size ≠ u1.heap.size := by omega
          have zu : w.heap.size < u1.heap.size + 1 := by omega
          have a0 := cA 0
          have a1 := cA 1
          have a2 := cA 2
          have a3 := cA 3
          have a4 := cA 4
          have a5 := cA 5
          have a6 := cA 6
          have a7 := cA 7
          have a8 := cA 8
          have a9 := cA 9
          simp at a0 a1 a2 a3 a4 a5 a6 a7 a8 a9
          have d327 : u1.cell? ⟨x.block, x.off + 327, none⟩ = _ := (cell_grown7 G1.out (x := ⟨x.block, x.off + 327, none⟩) hx).trans c327
          have d328 : u1.cell? ⟨x.block, x.off + 328, none⟩ = _ := (cell_grown7 G1.out (x := ⟨x.block, x.off + 328, none⟩) hx).trans c328
          have d329 : u1.cell? ⟨x.block, x.off + 329, none⟩ = _ := (cell_grown7 G1.out (x := ⟨x.block, x.off + 329, none⟩) hx).trans c329
          have d333 : u1.cell? ⟨x.block, x.off + 333, none⟩ = _ := (cell_grown7 G1.out (x := ⟨x.block, x.off + 333, none⟩) hx).trans c333
          have d334 : u1.cell? ⟨x.block, x.off + 334, none⟩ = _ := (cell_grown7 G1.out (x := ⟨x.block, x.off + 334, none⟩) hx).trans c334
          have d335 : u1.cell? ⟨x.block, x.off + 335, none⟩ = _ := (cell_grown7 G1.out (x := ⟨x.block, x.off + 335, none⟩) hx).trans c335
          clear cA g1
          go_wp2
          exact bodyPost_ret (v := .tuple #[.agg #[.string ⟨#[]⟩, .int .u8 0, .int .i64 0, .bool false, .bool false, .bool false, .int .i64 0, .int .i64 0, .int .u8 0, .int .u16 0], .int .i64 5]) (by simp [results, Tryz.results22, go_sem, a0, a1, a2, a3, a4, a5, a6, a7, a8, a9, zA]) rfl ⟨by rw [EE.out, EH.out]; rfl, (((((((((((G1.out.setCell (Nat.le_refl _) _).setCell (Nat.le_refl _) _).setCell (Nat.le_refl _) _).setCell (Nat.le_refl _) _).setCell (Nat.le_refl _) _).setCell (Nat.le_refl _) _).setCell (Nat.le_refl _) _).setCell (Nat.le_refl _) _).setCell (Nat.le_refl _) _).setCell (Nat.le_refl _) _).alloc _ _)⟩
        · have h8b : R ≤ 8 := by omega
          by_cases h5 : 5 < M
          · clear he
            go_enter Tryz.func22, Tryz.ntmps22
            go_wp2_with fail
            refine (CK.out _).mono ?_
            rintro e u1 ⟨rfl, g1⟩
            have G1 := hid (grown_trans (alloc1 w _ _) g1)
            have HA := hid (has_grown g1 (has_alloc w #[.string ⟨#[]⟩, .int .u8 0, .int .i64 0, .bool false, .bool false, .bool false, .int .i64 0, .int .i64 0, .int .u8 0, .int .u16 0] 31))
            obtain ⟨zA, cA⟩ := id HA.out
            have fA := fun o => grown_froz G1.out (Nat.le_refl w.heap.size) o
            have zx : x.block < u1.heap.size := Nat.lt_of_lt_of_le hx G1.out.2.2
            have nx : x.block ≠ u1.heap.size := by omega
            have nA : w.heap.size ≠ u1.heap.size := by omega
            have zu : w.heap.size < u1.heap.size + 1 := by omega
            have a0 := cA 0
            have a1 := cA 1
            have a2 := cA 2
            have a3 := cA 3
            have a4 := cA 4
            have a5 := cA 5
            have a6 := cA 6
            have a7 := cA 7
            have a8 := cA 8
            have a9 := cA 9
            simp at a0 a1 a2 a3 a4 a5 a6 a7 a8 a9
            have d327 : u1.cell? ⟨x.block, x.off + 327, none⟩ = _ := (cell_grown7 G1.out (x := ⟨x.block, x.off + 327, none⟩) hx).trans c327
            have d328 : u1.cell? ⟨x.block, x.off + 328, none⟩ = _ := (cell_grown7 G1.out (x := ⟨x.block, x.off + 328, none⟩) hx).trans c328
            have d329 : u1.cell? ⟨x.block, x.off + 329, none⟩ = _ := (cell_grown7 G1.out (x := ⟨x.block, x.off + 329, none⟩) hx).trans c329
            have d333 : u1.cell? ⟨x.block, x.off + 333, none⟩ = _ := (cell_grown7 G1.out (x := ⟨x.block, x.off + 333, none⟩) hx).trans c333
            have d334 : u1.cell? ⟨x.block, x.off + 334, none⟩ = _ := (cell_grown7 G1.out (x := ⟨x.block, x.off + 334, none⟩) hx).trans c334
            have d335 : u1.cell? ⟨x.block, x.off + 335, none⟩ = _ := (cell_grown7 G1.out (x := ⟨x.block, x.off + 335, none⟩) hx).trans c335
            clear cA g1
            go_wp2
            exact bodyPost_ret (v := .tuple #[.agg #[.string ⟨#[]⟩, .int .u8 0, .int .i64 0, .bool false, .bool false, .bool false, .int .i64 0, .int .i64 0, .int .u8 0, .int .u16 0], .int .i64 5]) (by simp [results, Tryz.results22, go_sem, a0, a1, a2, a3, a4, a5, a6, a7, a8, a9, zA]) rfl ⟨by rw [EE.out, EH.out]; rfl, (((((((((((G1.out.setCell (Nat.le_refl _) _).setCell (Nat.le_refl _) _).setCell (Nat.le_refl _) _).setCell (Nat.le_refl _) _).setCell (Nat.le_refl _) _).setCell (Nat.le_refl _) _).setCell (Nat.le_refl _) _).setCell (Nat.le_refl _) _).setCell (Nat.le_refl _) _).setCell (Nat.le_refl _) _).alloc _ _)⟩
          · have h9 : mostOf R < (n : Int) := by omega
            generalize mostOf R = MO at *
            clear he
            go_enter Tryz.func22, Tryz.ntmps22
            go_wp2_with fail
            refine (CK.out _).mono ?_
            rintro e u1 ⟨rfl, g1⟩
            have G1 := hid (grown_trans (alloc1 w _ _) g1)
            have HA := hid (has_grown g1 (has_alloc w #[.string ⟨#[]⟩, .int .u8 0, .int .i64 0, .bool false, .bool false, .bool false, .int .i64 0, .int .i64 0, .int .u8 0, .int .u16 0] 31))
            obtain ⟨zA, cA⟩ := id HA.out
            have fA := fun o => grown_froz G1.out (Nat.le_refl w.heap.size) o
            have zx : x.block < u1.heap.size := Nat.lt_of_lt_of_le hx G1.out.2.2
            have nx : x.block ≠ u1.heap.size := by omega
            have nA : w.heap.size ≠ u1.heap.size := by omega
            have zu : w.heap.size < u1.heap.size + 1 := by omega
            have a0 := cA 0
            have a1 := cA 1
            have a2 := cA 2
            have a3 := cA 3
            have a4 := cA 4
            have a5 := cA 5
            have a6 := cA 6
            have a7 := cA 7
            have a8 := cA 8
            have a9 := cA 9
            simp at a0 a1 a2 a3 a4 a5 a6 a7 a8 a9
            have d327 : u1.cell? ⟨x.block, x.off + 327, none⟩ = _ := (cell_grown7 G1.out (x := ⟨x.block, x.off + 327, none⟩) hx).trans c327
            have d328 : u1.cell? ⟨x.block, x.off + 328, none⟩ = _ := (cell_grown7 G1.out (x := ⟨x.block, x.off + 328, none⟩) hx).trans c328
            have d329 : u1.cell? ⟨x.block, x.off + 329, none⟩ = _ := (cell_grown7 G1.out (x := ⟨x.block, x.off + 329, none⟩) hx).trans c329
            have d333 : u1.cell? ⟨x.block, x.off + 333, none⟩ = _ := (cell_grown7 G1.out (x := ⟨x.block, x.off + 333, none⟩) hx).trans c333
            have d334 : u1.cell? ⟨x.block, x.off + 334, none⟩ = _ := (cell_grown7 G1.out (x := ⟨x.block, x.off + 334, none⟩) hx).trans c334
            have d335 : u1.cell? ⟨x.block, x.off + 335, none⟩ = _ := (cell_grown7 G1.out (x := ⟨x.block, x.off + 335, none⟩) hx).trans c335
            clear cA g1
            go_wp2_with (go_at_call 50; refine (CM.out _ h8b).mono ?_; rintro e w' ⟨rfl, rfl⟩)
            exact bodyPost_ret (v := .tuple #[.agg #[.string ⟨#[]⟩, .int .u8 0, .int .i64 0, .bool false, .bool false, .bool false, .int .i64 0, .int .i64 0, .int .u8 0, .int .u16 0], .int .i64 5]) (by simp [results, Tryz.results22, go_sem, a0, a1, a2, a3, a4, a5, a6, a7, a8, a9, zA]) rfl ⟨by rw [EE.out, EH.out]; rfl, (((((((((((G1.out.setCell (Nat.le_refl _) _).setCell (Nat.le_refl _) _).setCell (Nat.le_refl _) _).setCell (Nat.le_refl _) _).setCell (Nat.le_refl _) _).setCell (Nat.le_refl _) _).setCell (Nat.le_refl _) _).setCell (Nat.le_refl _) _).setCell (Nat.le_refl _) _).setCell (Nat.le_refl _) _).alloc _ _)⟩
      · have h8b : R ≤ 8 := by omega
        have h8 : ¬ 8 < R := by omega
        have h5 : ¬ 5 < M := by omega
        have h9 : ¬ mostOf R < (n : Int) := by omega
        have mb := most_fin ⟨R.toNat, by omega⟩
        have mb2 : 32768 ≤ mostOf R ∧ mostOf R ≤ 16777216 := mb
        clear mb
        generalize hMO : mostOf R = MO at *
        by_cases hsum : X = S
        · have dummy : True := trivial
          have EE := hid (show parseE z = 0 by rw [PE.out, if_neg (by rw [hk]; decide), if_neg he, if_neg (by simpa using hsum)])
          have EH := hid (PH.out EE.out)
          have hsb : (X != S) = false := by simpa using hsum
          have TF := hid (tit_full z (by rw [HN.out]; omega))
          have TE := hid (fun k => tit_end z k (by rw [HN.out]; omega))
          have TS := hid (fun k (h : k < 16) => tit_step z k (by rw [HN.out]; omega))
          have sz : ((#[.int .i64 0, .int .i64 2048, .int .i64 8192, .int .i64 32768, .int .i64 131072, .int .i64 65536] : Array Value)[M.toNat]?) = some (.int .i64 (sizeM M)) := by
            have : M = 0 ∨ M = 1 ∨ M = 2 ∨ M = 3 ∨ M = 4 ∨ M = 5 := by omega
            rcases this with rfl | rfl | rfl | rfl | rfl | rfl <;> rfl
          have wV : IntKind.u16.wrap (256 * V + Y) = 256 * V + Y := by rw [IntKind.wrap_u16]; omega
          have wV1 : IntKind.i64.wrap (256 * V) = 256 * V := by rw [IntKind.wrap_i64]; omega
          have wV2 : IntKind.i64.wrap (256 * V + Y) = 256 * V + Y := by rw [IntKind.wrap_i64]; omega
          have qM : Int.tdiv MO 16384 = MO / 16384 := Int.tdiv_eq_ediv_of_nonneg (by omega)
          clear PE PH PN hk he
          go_enter Tryz.func22, Tryz.ntmps22
          go_wp2_with fail
          refine (CK.out _).mono ?_
          rintro e u1 ⟨rfl, g1⟩
          have G1 := hid (grown_trans (alloc1 w _ _) g1)
          have HA := hid (has_grown g1 (has_alloc w #[.string ⟨#[]⟩, .int .u8 0, .int .i64 0, .bool false, .bool false, .bool false, .int .i64 0, .int .i64 0, .int .u8 0, .int .u16 0] 31))
          obtain ⟨zA, cA⟩ := id HA.out
          have fA := fun o => grown_froz G1.out (Nat.le_refl w.heap.size) o
          have zx : x.block < u1.heap.size := Nat.lt_of_lt_of_le hx G1.out.2.2
          have nx : x.block ≠ u1.heap.size := by omega
          have nA : w.heap.size ≠ u1.heap.size := by omega
          have zu : w.heap.size < u1.heap.size + 1 := by omega
          have a0 := cA 0
          have a1 := cA 1
          have a2 := cA 2
          have a3 := cA 3
          have a4 := cA 4
          have a5 := cA 5
          have a6 := cA 6
          have a7 := cA 7
          have a8 := cA 8
          have a9 := cA 9
          simp at a0 a1 a2 a3 a4 a5 a6 a7 a8 a9
          have d327 : u1.cell? ⟨x.block, x.off + 327, none⟩ = _ := (cell_grown7 G1.out (x := ⟨x.block, x.off + 327, none⟩) hx).trans c327
          have d328 : u1.cell? ⟨x.block, x.off + 328, none⟩ = _ := (cell_grown7 G1.out (x := ⟨x.block, x.off + 328, none⟩) hx).trans c328
          have d329 : u1.cell? ⟨x.block, x.off + 329, none⟩ = _ := (cell_grown7 G1.out (x := ⟨x.block, x.off + 329, none⟩) hx).trans c329
          have d333 : u1.cell? ⟨x.block, x.off + 333, none⟩ = _ := (cell_grown7 G1.out (x := ⟨x.block, x.off + 333, none⟩) hx).trans c333
          have d334 : u1.cell? ⟨x.block, x.off + 334, none⟩ = _ := (cell_grown7 G1.out (x := ⟨x.block, x.off + 334, none⟩) hx).trans c334
          have d335 : u1.cell? ⟨x.block, x.off + 335, none⟩ = _ := (cell_grown7 G1.out (x := ⟨x.block, x.off + 335, none⟩) hx).trans c335
          clear cA g1
          have GG := hid (G1.out.alloc #[.string ⟨#[]⟩, .int .u8 K, .int .i64 MP, .bool Rm, .bool Bt, .bool Ck, .int .i64 0, .int .i64 0, .int .u8 0, .int .u16 0] 31)
          go_wp2_with (first | (go_at_call 50; refine (CM.out _ h8b).mono ?_; rintro e w' ⟨rfl, rfl⟩) | (go_at_call 51; refine (CCS.out _ GG.out).mono ?_; rintro e w' ⟨rfl, rfl⟩))
          go_loopw [10] (fun i wr => ∃ k : Nat, k ≤ 16 ∧ i = .int .i64 (308 + (k : Int)) ∧ (∀ j, j < k → signB (z.getD (308 + j) 0) = true) ∧ Has wr u1.heap.size #[.string (strB (titTo z k)), .int .u8 K, .int .i64 MP, .bool Rm, .bool Bt, .bool Ck, .int .i64 0, .int .i64 0, .int .u8 0, .int .u16 0] ∧ Has wr w.heap.size #[.string ⟨#[]⟩, .int .u8 0, .int .i64 0, .bool false, .bool false, .bool false, .int .i64 0, .int .i64 0, .int .u8 0, .int .u16 0] ∧ Grown w wr) (fun i _ => 400 - (intOf i).toNat)
          case atStart => exact ⟨0, by omega, rfl, fun j h => absurd h (by omega), has_alloc u1 _ _, has_past HA.out _, GG.out⟩
          case round =>
            obtain ⟨k, hk, rfl, hno, hB, hA, hG⟩ := hrel
            have NO := hid hno
            have GW := hid hG
            clear hno a0 a1 a2 a3 a4 a5 a6 a7 a8 a9 d327 d328 d329 d333 d334 d335
            obtain ⟨zB, cB⟩ := id hB
            obtain ⟨zA2, cA2⟩ := id hA
            have HB := hid hB
            have HA2 := hid hA
            have fA := fun o => grown_froz GW.out (Nat.le_refl w.heap.size) o
            have fB := fun o => grown_froz GW.out (show w.heap.size ≤ u1.heap.size from Nat.le_of_lt zA) o
            have a0 := cA2 0
            have b0 := cB 0
            have a1 := cA2 1
            have b1 := cB 1
            have a2 := cA2 2
            have b2 := cB 2
            have a3 := cA2 3
            have b3 := cB 3
            have a4 := cA2 4
            have b4 := cB 4
            have a5 := cA2 5
            have b5 := cB 5
            have a6 := cA2 6
            have b6 := cB 6
            have a7 := cA2 7
            have b7 := cB 7
            have a8 := cA2 8
            have b8 := cB 8
            have a9 := cA2 9
            have b9 := cB 9
            simp at a0 b0 a1 b1 a2 b2 a3 b3 a4 b4 a5 b5 a6 b6 a7 b7 a8 b8 a9 b9
            have d334 : wr.cell? ⟨x.block, x.off + 334, none⟩ = _ := (cell_grown7 GW.out (x := ⟨x.block, x.off + 334, none⟩) hx).trans c334
            have d335 : wr.cell? ⟨x.block, x.off + 335, none⟩ = _ := (cell_grown7 GW.out (x := ⟨x.block, x.off + 335, none⟩) hx).trans c335
            have zx2 : x.block < wr.heap.size := Nat.lt_of_lt_of_le hx GW.out.2.2
            clear cB cA2 hB hA hG
            by_cases hlt : k < 16
            · have hlt2 : 308 + (k : Int) < 324 := by omega
              have hlt3 : 308 + (k : Int) < (n : Int) := by omega
              have tn : (308 + (k : Int)).toNat = 308 + k := by omega
              obtain ⟨ck0, q0, q1⟩ := HC.out (308 + k) (by rw [HN.out]; omega)
              have ck : wr.cell? (x.add (308 + k)) = _ := (cell_grown7 GW.out (x := x.add (308 + k)) (by rw [addB]; exact hx)).trans ck0
              have CG := hid (fun u => rsigns_any (z.getD (308 + k) 0) u)
              clear ck0
              cases hsg : signB (z.getD (308 + k) 0)
              · have TEQ := hid (TE.out k hlt NO.out hsg)
                rw [hsg] at CG
                generalize z.getD (308 + k) 0 = c at *
                have ET := hid (TEQ.out)
                generalize hT : strB (titTo z k) = T at *
                have HT := hid hT
                clear hT
                have oA : w.heap.size ≤ u1.heap.size := Nat.le_of_lt zA
                cases Rm
                · go_wp2_with (first | (go_at_call 52; refine (CG.out _).mono ?_; rintro e w' ⟨rfl, rfl⟩) | (go_at_call 50; refine (CM.out _ h8b).mono ?_; rintro e w' ⟨rfl, rfl⟩))
                  go_region
                  all_goals
                    go_wp2
                    exact bodyPost_ret (v := .tuple #[.agg #[.string T, .int .u8 K, .int .i64 MP, .bool false, .bool Bt, .bool Ck, .int .i64 (MO / 16384), .int .i64 0, .int .u8 S, .int .u16 (256 * V + Y)], .int .i64 0]) (by simp [results, Tryz.results22, go_sem, a0, b0, a1, b1, a2, b2, a3, b3, a4, b4, a5, b5, a6, b6, a7, b7, a8, b8, a9, b9, zA2, zB]) rfl ⟨by rw [EE.out, EH.out, ET.out, HT.out]; simp [hsum], (by repeat (first | with_reducible exact GW.out | with_reducible refine Grown.drew ?_ | with_reducible refine Grown.alloc ?_ _ _ | with_reducible refine Grown.setCell ?_ (by first | exact Nat.le_refl _ | exact oA) _))⟩
                · go_wp2_with (first | (go_at_call 52; refine (CG.out _).mono ?_; rintro e w' ⟨rfl, rfl⟩) | (go_at_call 50; refine (CM.out _ h8b).mono ?_; rintro e w' ⟨rfl, rfl⟩))
                  go_region
                  all_goals
                    go_wp2
                    exact bodyPost_ret (v := .tuple #[.agg #[.string T, .int .u8 K, .int .i64 MP, .bool true, .bool Bt, .bool Ck, .int .i64 (MO / 16384), .int .i64 (sizeM M), .int .u8 S, .int .u16 (256 * V + Y)], .int .i64 0]) (by simp [results, Tryz.results22, go_sem, a0, b0, a1, b1, a2, b2, a3, b3, a4, b4, a5, b5, a6, b6, a7, b7, a8, b8, a9, b9, zA2, zB]) rfl ⟨by rw [EE.out, EH.out, ET.out, HT.out]; simp [hsum], (by repeat (first | with_reducible exact GW.out | with_reducible refine Grown.drew ?_ | with_reducible refine Grown.alloc ?_ _ _ | with_reducible refine Grown.setCell ?_ (by first | exact Nat.le_refl _ | exact oA) _))⟩
              · have TSQ := hid (show strB (titTo z (k + 1)) = strB (titTo z k) ++ strB [z.getD (308 + k) 0] by rw [TS.out k hlt, strB_app])
                have tl : (strB (titTo z k)).size ≤ 16 := by rw [strB_size]; unfold titTo; simp; omega
                have t1 : (strB [z.getD (308 + k) 0]).size = 1 := by rw [strB_size]; rfl
                have NN := hid (show ∀ j, j < k + 1 → signB (z.getD (308 + j) 0) = true from fun j hj => by
                  by_cases e : j = k
                  · rw [e]; exact hsg
                  · exact NO.out j (by omega))
                rw [hsg] at CG
                have cv1 := fun u n h => conv_new u (z.getD (308 + k) 0) n h
                have cv2 := fun u n h => conv_new_drew u (z.getD (308 + k) 0) n h
                generalize strB [z.getD (308 + k) 0] = T1 at *
                generalize z.getD (308 + k) 0 = c at *
                generalize strB (titTo z k) = T at *
                have nb : ¬ 9223372036854775807 < T.size + T1.size := by omega
                clear hsg
                go_wp2_with (go_at_call 52; refine (CG.out _).mono ?_; rintro e w' ⟨rfl, rfl⟩)
                go_region
                all_goals
                  go_wp2
                  refine ⟨⟨k + 1, by omega, by go_num, NN.out, ?_, ?_, ?_⟩, by simp only [intOf]; omega⟩
                  · have q := has_set HB.out 0 (.string (T ++ T1)) (by simp)
                    rw [TSQ.out]
                    exact has_drew (has_past (by simpa using q) _)
                  · exact has_drew (has_past (has_other HA2.out (by show u1.heap.size ≠ w.heap.size; omega) _) _)
                  · exact ((GW.out.setCell (Nat.le_of_lt zA) _).alloc _ _).drew
            · obtain rfl : k = 16 := by omega
              have TEQ := hid (TF.out NO.out)
              have hl2 : ¬ ((308 : Int) + ((16 : Nat) : Int) < 324) := by decide
              have ET := hid (TEQ.out)
              generalize hT : strB (titTo z 16) = T at *
              have HT := hid hT
              clear hT
              have oA : w.heap.size ≤ u1.heap.size := Nat.le_of_lt zA
              cases Rm
              · go_wp2_with (first | (go_at_call 50; refine (CM.out _ h8b).mono ?_; rintro e w' ⟨rfl, rfl⟩))
                go_region
                all_goals
                  go_wp2
                  exact bodyPost_ret (v := .tuple #[.agg #[.string T, .int .u8 K, .int .i64 MP, .bool false, .bool Bt, .bool Ck, .int .i64 (MO / 16384), .int .i64 0, .int .u8 S, .int .u16 (256 * V + Y)], .int .i64 0]) (by simp [results, Tryz.results22, go_sem, a0, b0, a1, b1, a2, b2, a3, b3, a4, b4, a5, b5, a6, b6, a7, b7, a8, b8, a9, b9, zA2, zB]) rfl ⟨by rw [EE.out, EH.out, ET.out, HT.out]; simp [hsum], (by repeat (first | with_reducible exact GW.out | with_reducible refine Grown.drew ?_ | with_reducible refine Grown.alloc ?_ _ _ | with_reducible refine Grown.setCell ?_ (by first | exact Nat.le_refl _ | exact oA) _))⟩
              · go_wp2_with (first | (go_at_call 50; refine (CM.out _ h8b).mono ?_; rintro e w' ⟨rfl, rfl⟩))
                go_region
                all_goals
                  go_wp2
                  exact bodyPost_ret (v := .tuple #[.agg #[.string T, .int .u8 K, .int .i64 MP, .bool true, .bool Bt, .bool Ck, .int .i64 (MO / 16384), .int .i64 (sizeM M), .int .u8 S, .int .u16 (256 * V + Y)], .int .i64 0]) (by simp [results, Tryz.results22, go_sem, a0, b0, a1, b1, a2, b2, a3, b3, a4, b4, a5, b5, a6, b6, a7, b7, a8, b8, a9, b9, zA2, zB]) rfl ⟨by rw [EE.out, EH.out, ET.out, HT.out]; simp [hsum], (by repeat (first | with_reducible exact GW.out | with_reducible refine Grown.drew ?_ | with_reducible refine Grown.alloc ?_ _ _ | with_reducible refine Grown.setCell ?_ (by first | exact Nat.le_refl _ | exact oA) _))⟩

        · have EE := hid (show parseE z = 3 by rw [PE.out, if_neg (by rw [hk]; decide), if_neg he, if_pos hsum])
          have EH := hid (PN.out (by rw [EE.out]; decide))
          have hsb : (X != S) = true := by simpa using hsum
          clear PE PH PN hk he
          go_enter Tryz.func22, Tryz.ntmps22
          go_wp2_with fail
          refine (CK.out _).mono ?_
          rintro e u1 ⟨rfl, g1⟩
          have G1 := hid (grown_trans (alloc1 w _ _) g1)
          have HA := hid (has_grown g1 (has_alloc w #[.string ⟨#[]⟩, .int .u8 0, .int .i64 0, .bool false, .bool false, .bool false, .int .i64 0, .int .i64 0, .int .u8 0, .int .u16 0] 31))
          obtain ⟨zA, cA⟩ := id HA.out
          have fA := fun o => grown_froz G1.out (Nat.le_refl w.heap.size) o
          have zx : x.block < u1.heap.size := Nat.lt_of_lt_of_le hx G1.out.2.2
          have nx : x.block ≠ u1.heap.size := by omega
          have nA : w.heap.size ≠ u1.heap.size := by omega
          have zu : w.heap.size < u1.heap.size + 1 := by omega
          have a0 := cA 0
          have a1 := cA 1
          have a2 := cA 2
          have a3 := cA 3
          have a4 := cA 4
          have a5 := cA 5
          have a6 := cA 6
          have a7 := cA 7
          have a8 := cA 8
          have a9 := cA 9
          simp at a0 a1 a2 a3 a4 a5 a6 a7 a8 a9
          have d327 : u1.cell? ⟨x.block, x.off + 327, none⟩ = _ := (cell_grown7 G1.out (x := ⟨x.block, x.off + 327, none⟩) hx).trans c327
          have d328 : u1.cell? ⟨x.block, x.off + 328, none⟩ = _ := (cell_grown7 G1.out (x := ⟨x.block, x.off + 328, none⟩) hx).trans c328
          have d329 : u1.cell? ⟨x.block, x.off + 329, none⟩ = _ := (cell_grown7 G1.out (x := ⟨x.block, x.off + 329, none⟩) hx).trans c329
          have d333 : u1.cell? ⟨x.block, x.off + 333, none⟩ = _ := (cell_grown7 G1.out (x := ⟨x.block, x.off + 333, none⟩) hx).trans c333
          have d334 : u1.cell? ⟨x.block, x.off + 334, none⟩ = _ := (cell_grown7 G1.out (x := ⟨x.block, x.off + 334, none⟩) hx).trans c334
          have d335 : u1.cell? ⟨x.block, x.off + 335, none⟩ = _ := (cell_grown7 G1.out (x := ⟨x.block, x.off + 335, none⟩) hx).trans c335
          clear cA g1
          have GG := hid (G1.out.alloc #[.string ⟨#[]⟩, .int .u8 K, .int .i64 MP, .bool Rm, .bool Bt, .bool Ck, .int .i64 0, .int .i64 0, .int .u8 0, .int .u16 0] 31)
          go_wp2_with (first | (go_at_call 50; refine (CM.out _ h8b).mono ?_; rintro e w' ⟨rfl, rfl⟩) | (go_at_call 51; refine (CCS.out _ GG.out).mono ?_; rintro e w' ⟨rfl, rfl⟩))
          exact bodyPost_ret (v := .tuple #[.agg #[.string ⟨#[]⟩, .int .u8 0, .int .i64 0, .bool false, .bool false, .bool false, .int .i64 0, .int .i64 0, .int .u8 0, .int .u16 0], .int .i64 3]) (by simp [results, Tryz.results22, go_sem, a0, a1, a2, a3, a4, a5, a6, a7, a8, a9, zA]) rfl ⟨by rw [EE.out, EH.out]; rfl, (((((((((((G1.out.setCell (Nat.le_refl _) _).setCell (Nat.le_refl _) _).setCell (Nat.le_refl _) _).setCell (Nat.le_refl _) _).setCell (Nat.le_refl _) _).setCell (Nat.le_refl _) _).setCell (Nat.le_refl _) _).setCell (Nat.le_refl _) _).setCell (Nat.le_refl _) _).setCell (Nat.le_refl _) _).alloc _ _)⟩
end Go.Proofs.YtfmddnekooojkaaGreatDoor
