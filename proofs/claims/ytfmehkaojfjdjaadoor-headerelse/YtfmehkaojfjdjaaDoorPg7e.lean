/- What traitsOf of the program's layer 7 comes to. -/
import Derived.Test.YtfmehkaojfjdjaaDoorPg7d
namespace Go.Proofs.YtfmehkaojfjdjaaDoor
open Go.RowKit
set_option linter.unusedVariables false
set_option linter.unusedSimpArgs false

theorem wpList_load_eq {P : Program} {ops : Array Oper} {rest : List Oper} {o : Oper} {a : Act} {w : World} {Q : Exit → Act → World → Prop} (hgd : o.guard = none) (ty : TypeId) (x : Operand) (ho : o.op = .load ty x)
    (g : Addr) (hx : a.eval x = .pointer (some g)) (v : Value) (hg : (loadVar ty g).run P w = .ok v w)
    (h : wpList P ops Q rest (a.put o.dst v) w) : wpList P ops Q (o :: rest) a w :=
  wpList_plain hgd fun _ hK => by
    unfold Oper.wp execOp
    simp only [ho, hx, Instr.loadAt, Instr.sureAddr, Sem.run_bind, Sem.run_pure, Result.andThen_ok, hg]
    exact hK _ _ h
set_option maxRecDepth 100000 in
set_option maxHeartbeats 4000000 in
theorem ptraits_any (k : Int) (w : World) (lay : Lay7 w) (k0 : 0 ≤ k) (k1 : k ≤ 255) : Calls Tryd.prog 28 #[.int .u8 k] w fun e w' => ((kindOk k = true ∧ e = .returned (traitsV k)) ∨ (kindOk k = false ∧ e = .panicked (pan 4))) ∧ Grown w w' := by
  have HN := hid (kind_none k k0 k1)
  have ld := hid (load_kinds (w.alloc (.cells #[.int .u8 0, .int .i64 0, .bool false, .bool false, .bool false] 57)) (has_past lay.kinds _))
  have IX := hid idx_kinds
  have RF := hid (fun i (h : i < 17) => row_fin ⟨i, h⟩)
  unfold traitsV
  clear lay
  generalize kindsA = KA at *
  go_enter Tryd.func28, Tryd.ntmps28
  go_wp2_with (refine wpList_load_eq rfl 66 (.global 1) rfl ⟨1, 0, none⟩ rfl _ ld.out ?_)
  go_loopw [6] (fun i wr => ∃ j : Nat, j ≤ 17 ∧ i = .int .i64 (j : Int) ∧ (∀ l, l < j → kK l ≠ k) ∧ Grown w wr ∧ Has wr w.heap.size #[.int .u8 0, .int .i64 0, .bool false, .bool false, .bool false]) (fun i _ => 17 - (intOf i).toNat)
  case atStart => exact ⟨0, by omega, rfl, fun l h => absurd h (by omega), alloc1 _ _ _, has_alloc _ _ _⟩
  case round =>
    obtain ⟨j, hj, rfl, hno, hgr, hhs⟩ := hrel
    have NO := hid hno
    have G := hid hgr
    have HS := hid hhs
    clear hno hgr hhs ld
    by_cases hlt : j < 17
    · have hlt2 : (j : Int) < 17 := by omega
      have ix := fun u => IX.out u j hlt
      have rf := hid (RF.out j hlt)
      obtain ⟨K0, hK⟩ : ∃ v, kK j = v := ⟨_, rfl⟩
      obtain ⟨M0, hM⟩ : ∃ v, kM j = v := ⟨_, rfl⟩
      obtain ⟨R0, hR⟩ : ∃ v, kR j = v := ⟨_, rfl⟩
      obtain ⟨B0, hB⟩ : ∃ v, kB j = v := ⟨_, rfl⟩
      obtain ⟨C0, hC⟩ : ∃ v, kC j = v := ⟨_, rfl⟩
      rw [hK, hM, hR, hB, hC] at ix rf
      cases hb : (K0 == k)
      · have hb2 : K0 ≠ k := by simpa using hb
        have NN := hid (show ∀ l, l < j + 1 → kK l ≠ k from fun l hl => by
          by_cases e : l = j
          · rw [e, hK]; exact hb2
          · exact NO.out l (by omega))
        have zb := HS.out.1
        have zn : wr.heap.size ≠ w.heap.size := by omega
        clear hb2 hK hM hR hB hC
        go_wp2
        go_roundw
        case rel => exact ⟨j + 1, by omega, by go_num, NN.out, (by repeat (first | with_reducible exact G.out | with_reducible refine Grown.alloc ?_ _ _ | with_reducible refine Grown.setCell ?_ G.out.2.2 _)), (by repeat (first | with_reducible exact HS.out | with_reducible refine has_past ?_ _ | with_reducible refine has_other ?_ zn _))⟩
        case measure => first | omega | (simp; omega) | (simp [intOf]; omega)
      · have hb2 : K0 = k := by simpa using hb
        subst hb2
        have zb := HS.out.1
        have zn : wr.heap.size ≠ w.heap.size := by omega
        have zn2 : w.heap.size ≠ wr.heap.size := by omega
        have zu : w.heap.size < wr.heap.size + 1 := by omega
        obtain ⟨r1, r2, r3, r4, r5⟩ := rf.out
        have R1 := hid r1
        have c0 := HS.out.2 0
        have c1 := HS.out.2 1
        have c2 := HS.out.2 2
        have c3 := HS.out.2 3
        have c4 := HS.out.2 4
        simp at c0 c1 c2 c3 c4
        have fz := fun o => grown_froz G.out (Nat.le_refl w.heap.size) o
        have VV := hid (show Ending.returned (.agg #[.int .u8 K0, .int .i64 M0, .bool R0, .bool B0, .bool C0]) = .returned (.agg #[.int .u8 K0, .int .i64 (kMap K0), .bool (kRam K0), .bool (kBat K0), .bool (kClk K0)]) by rw [r2, r3, r4, r5])
        clear r1 r2 r3 r4 r5 rf hK hM hR hB hC
        go_wp2
        exact bodyPost_ret (v := .agg #[.int .u8 K0, .int .i64 M0, .bool R0, .bool B0, .bool C0]) (by simp [results, Tryd.results28, go_sem, zn, zn2, zu, zb, c0, c1, c2, c3, c4]) rfl ⟨.inl ⟨R1.out, VV.out⟩, (by repeat (first | with_reducible exact G.out | with_reducible refine Grown.alloc ?_ _ _ | with_reducible refine Grown.setCell ?_ (Nat.le_refl _) _ | with_reducible refine Grown.setCell ?_ G.out.2.2 _))⟩
    · obtain rfl : j = 17 := by omega
      have E := hid (HN.out NO.out)
      go_wp2
      exact ⟨rfl, .inr ⟨E.out, rfl⟩, G.out⟩
end Go.Proofs.YtfmehkaojfjdjaaDoor
