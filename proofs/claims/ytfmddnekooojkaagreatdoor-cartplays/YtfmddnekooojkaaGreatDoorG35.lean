/- The laid tables of layer 7 (kinds, sizes of RAM), cell by cell; traitsOf. What traitsOf of the program's layer 7 comes to. -/
import Derived.Test.YtfmddnekooojkaaGreatDoorG12
import Derived.Test.YtfmddnekooojkaaGreatDoorG27
import Derived.Lay
namespace Go.Proofs.YtfmddnekooojkaaGreatDoor
open Go.ChangeShapes Go.WideShapes Go.ChangeAt Go.RowKit
set_option linter.unusedVariables false
set_option linter.unusedSimpArgs false

def kT : List (Int × Int × Bool × Bool × Bool) := [(0, 0, false, false, false), (8, 0, true, false, false), (9, 0, true, true, false), (1, 1, false, false, false), (2, 1, true, false, false), (3, 1, true, true, false), (15, 3, false, true, true), (16, 3, true, true, true), (17, 3, false, false, false), (18, 3, true, false, false), (19, 3, true, true, false), (25, 5, false, false, false), (26, 5, true, false, false), (27, 5, true, true, false), (28, 5, false, false, false), (29, 5, true, false, false), (30, 5, true, true, false)]
def kindsA : Array Value := (kT.flatMap fun x => [Value.int .u8 x.1, .int .i64 x.2.1, .bool x.2.2.1, .bool x.2.2.2.1, .bool x.2.2.2.2]).toArray
def ramsA : Array Value := #[.int .i64 0, .int .i64 2048, .int .i64 8192, .int .i64 32768, .int .i64 131072, .int .i64 65536]
theorem has_kept7 {W w1 : World} (g : Kept W w1) {b : Nat} {cs : Array Value} (h : Has W b cs) : Has w1 b cs :=
  ⟨Nat.lt_of_lt_of_le h.1 g.size, fun i => (g.cell (x := ⟨b, i, none⟩) h.1).trans (h.2 i)⟩
structure Lay7 (w : World) : Prop where
  kinds : Has w 1 kindsA
  rams : Has w 0 ramsA
theorem Lay7.kept {W w1 : World} (h : Lay7 W) (g : Kept W w1) : Lay7 w1 := ⟨has_kept7 g h.kinds, has_kept7 g h.rams⟩
theorem laid_at7 {P : Program} {W : World} : ∀ {laid : List (String × DataW Unit)} {ps : List MemPlace}, DataW.LaidVars P W laid ps → ∀ (i : Nat) (x : String × DataW Unit), laid[i]? = some x → ∀ {g t k : Nat} {l : List Value},
    P.globalNamed x.1 = some g → (P.globals[g]?).map (·.type) = some t → untrod P k t x.2 = some l → 0 < l.length → Has W g l.toArray
  | [], _, _, i, x, hx, _, _, _, _, _, _, _, _ => by simp at hx
  | (n, d) :: r, ps, h, 0, x, hx, g, t, k, l, hg, ht, hu, h0 => by
    obtain ⟨g2, t2, cs, f, p, q, hg2, ht2, hv, hd, _, _⟩ := h
    obtain rfl : (n, d) = x := by simpa using hx
    obtain rfl := Option.some.inj (hg.symm.trans hg2)
    obtain rfl := Option.some.inj (ht.symm.trans ht2)
    exact has_var hg hv hd hu h0
  | (n, d) :: r, ps, h, i + 1, x, hx, g, t, k, l, hg, ht, hu, h0 => by
    obtain ⟨_, _, _, _, _, q, _, _, _, _, hr, _⟩ := h
    exact laid_at7 hr i x (by simpa using hx) hg ht hu h0
theorem of_laid {W : World} (h : laidMetH Tryz.prog Rows.cartPlaysRow.laid W) : Lay7 W := by
  rw [MakeChecks.laidMetH_plain _ _ _ (by kernel_rfl)] at h
  obtain ⟨ps, hL, _, _⟩ := h
  exact ⟨laid_at7 hL 0 _ rfl (t := 127) (k := 6) (l := kindsA.toList) (by kernel_rfl) (by kernel_rfl) (by kernel_rfl) (by decide), laid_at7 hL 1 _ rfl (t := 119) (k := 4) (l := ramsA.toList) (by kernel_rfl) (by kernel_rfl) (by kernel_rfl) (by decide)⟩
theorem start_met (os : Os) (args : Array Value) : laidMetH Tryz.prog Rows.cartPlaysRow.laid ((World.laidAll Tryz.prog os Rows.cartPlaysRow.laid).forCall (fun _ _ => 0) ⟨#[], args, []⟩).memory := by
  rw [MakeChecks.laidMetH_plain _ _ _ (by kernel_rfl)]
  exact laidMet_laidAll _ (by kernel_rfl) (by kernel_rfl)
def kK (i : Nat) : Int := (kT.getD i (0, 0, false, false, false)).1
def kM (i : Nat) : Int := (kT.getD i (0, 0, false, false, false)).2.1
def kR (i : Nat) : Bool := (kT.getD i (0, 0, false, false, false)).2.2.1
def kB (i : Nat) : Bool := (kT.getD i (0, 0, false, false, false)).2.2.2.1
def kC (i : Nat) : Bool := (kT.getD i (0, 0, false, false, false)).2.2.2.2
theorem idx_kinds (u : World) : ∀ (i : Nat), i < 17 → (Instr.index 127 (.agg kindsA) (.int .i64 (i : Int))).run Tryz.prog u = .ok (.agg #[.int .u8 (kK i), .int .i64 (kM i), .bool (kR i), .bool (kB i), .bool (kC i)]) u
  | 0, _ => by kernel_rfl
  | 1, _ => by kernel_rfl
  | 2, _ => by kernel_rfl
  | 3, _ => by kernel_rfl
  | 4, _ => by kernel_rfl
  | 5, _ => by kernel_rfl
  | 6, _ => by kernel_rfl
  | 7, _ => by kernel_rfl
  | 8, _ => by kernel_rfl
  | 9, _ => by kernel_rfl
  | 10, _ => by kernel_rfl
  | 11, _ => by kernel_rfl
  | 12, _ => by kernel_rfl
  | 13, _ => by kernel_rfl
  | 14, _ => by kernel_rfl
  | 15, _ => by kernel_rfl
  | 16, _ => by kernel_rfl
  | i + 17, h => absurd h (by omega)
theorem load_kinds (u : World) (h : Has u 1 kindsA) : (loadVar 127 ⟨1, 0, none⟩).run Tryz.prog u = .ok (.agg kindsA) u := by
  have hl : (loadCells ⟨1, 0, none⟩ kindsA.toList.length).run Tryz.prog u = .ok kindsA.toList.toArray u :=
    run_loadCells_list (P := Tryz.prog) u ⟨1, 0, none⟩ kindsA.toList (fun j v hv => by
      have hadd : (⟨1, 0, none⟩ : Addr).add j = ⟨1, j, none⟩ := by unfold Addr.add; split <;> simp_all
      rw [hadd, h.2 j]
      simpa using hv)
  have hs : (Tryz.prog.info? 127).map (·.size) = some 85 := by kernel_rfl
  cases hq : Tryz.prog.info? 127 with
  | none => simp [hq] at hs
  | some i =>
    have hs2 : i.size = 85 := by simpa [hq] using hs
    have hagg : (isAgg 127).run Tryz.prog u = .ok true u := by
      unfold isAgg
      rw [Sem.run_bind, run_underlying Tryz.underlying127 u]
      simp
    have h85 : kindsA.toList.length = 85 := by decide
    rw [h85] at hl
    simp only [Array.toArray_toList] at hl
    simp [loadVar, Sem.run_bind, hagg, sizeOf, typeInfo, hq, hs2, hl]
theorem row_fin : ∀ i : Fin 17, kindOk (kK i.val) = true ∧ kM i.val = kMap (kK i.val) ∧ kR i.val = kRam (kK i.val) ∧ kB i.val = kBat (kK i.val) ∧ kC i.val = kClk (kK i.val) := by decide +kernel
theorem none_fin : ∀ a : Fin 256, kindOk (a.val : Int) = true → ∃ i : Fin 17, kK i.val = (a.val : Int) := by decide +kernel
theorem kind_none (k : Int) (k0 : 0 ≤ k) (k1 : k ≤ 255) (h : ∀ l, l < 17 → kK l ≠ k) : kindOk k = false := by
  cases e : kindOk k with
  | false => rfl
  | true =>
    exfalso
    obtain ⟨i, hi⟩ := fin8 (p := fun k => kindOk k = true → ∃ i : Fin 17, kK i.val = k) none_fin k k0 k1 e
    exact h i.val i.isLt hi
def traitsV (k : Int) : Value := .agg #[.int .u8 k, .int .i64 (kMap k), .bool (kRam k), .bool (kBat k), .bool (kClk k)]
end Go.Proofs.YtfmddnekooojkaaGreatDoor
namespace Go.Proofs.YtfmddnekooojkaaGreatDoor
open Go.RowKit
set_option linter.unusedVariables false
set_option linter.unusedSimpArgs false

theorem wpList_load_eq {P : Program} {ops : Array Oper} {rest : List Oper} {o : Oper} {a : Act} {w : World} {Q : Exit → Act → World → Prop} (hgd : o.guard = none) (ty : TypeId) (x : Operand) (ho : o.op = .load ty x)
    (g : Addr) (hx : a.eval x = .pointer (some g)) (v : Value) (hg : (loadVar ty g).run P w = .ok v w)
    (h : wpList P ops Q rest (a.put o.dst v) w) : wpList P ops Q (o :: rest) a w :=
  wpList_plain hgd fun _ hK => by
    unfold Oper.wp execOp
    simp only [ho, hx, Instr.loadAt, Instr.sureAddr, Sem.run_bind, Sem.run_pure, Result.andThen_ok, hg]
    exact hK _ _ h
set_option maxRecDepth 100000 in
set_option maxHeartbeats 4000000 in
theorem ptraits_any (k : Int) (w : World) (lay : Lay7 w) (k0 : 0 ≤ k) (k1 : k ≤ 255) : Calls Tryz.prog 70 #[.int .u8 k] w fun e w' => ((kindOk k = true ∧ e = .returned (traitsV k)) ∨ (kindOk k = false ∧ e = .panicked (pan 4))) ∧ Grown w w' := by
  have HN := hid (kind_none k k0 k1)
  have ld := hid (load_kinds (w.alloc (.cells #[.int .u8 0, .int .i64 0, .bool false, .bool false, .bool false] 112)) (has_past lay.kinds _))
  have IX := hid idx_kinds
  have RF := hid (fun i (h : i < 17) => row_fin ⟨i, h⟩)
  unfold traitsV
  clear lay
  generalize kindsA = KA at *
  go_enter Tryz.func70, Tryz.ntmps70
  go_wp2_with (refine wpList_load_eq rfl 127 (.global 1) rfl ⟨1, 0, none⟩ rfl _ ld.out ?_)
  go_loopw [6] (fun i wr => ∃ j : Nat, j ≤ 17 ∧ i = .int .i64 (j : Int) ∧ (∀ l, l < j → kK l ≠ k) ∧ Grown w wr ∧ Has wr w.heap.size #[.int .u8 0, .int .i64 0, .bool false, .bool false, .bool false]) (fun i _ => 17 - (intOf i).toNat)
  case atStart => exact ⟨0, by omega, rfl, fun l h => absurd h (by omega), alloc1 _ _ _, has_alloc _ _ _⟩
  case round =>
    obtain ⟨j, hj, rfl, hno, hgr, hhs⟩ := hrel
    have NO := hid hno
    have G := hid hgr
    have HS := hid hhs
    clear hno hgr hhs ld
    by_cases hlt : j < 17
    · have hlt2 : (j : Int) < 17 := by omega
      have ix := fun u => IX.out u j hlt
      have rf := hid (RF.out j hlt)
      obtain ⟨K0, hK⟩ : ∃ v, kK j = v := ⟨_, rfl⟩
      obtain ⟨M0, hM⟩ : ∃ v, kM j = v := ⟨_, rfl⟩
      obtain ⟨R0, hR⟩ : ∃ v, kR j = v := ⟨_, rfl⟩
      obtain ⟨B0, hB⟩ : ∃ v, kB j = v := ⟨_, rfl⟩
      obtain ⟨C0, hC⟩ : ∃ v, kC j = v := ⟨_, rfl⟩
      rw [hK, hM, hR, hB, hC] at ix rf
      cases hb : (K0 == k)
      · have hb2 : K0 ≠ k := by simpa using hb
        have NN := hid (show ∀ l, l < j + 1 → kK l ≠ k from fun l hl => by
          by_cases e : l = j
          · rw [e, hK]; exact hb2
          · exact NO.out l (by omega))
        have zb := HS.out.1
        have zn : wr.heap.size ≠ w.heap.size := by omega
        clear hb2 hK hM hR hB hC
        go_wp2
        go_roundw
        case rel => exact ⟨j + 1, by omega, by go_num, NN.out, (by repeat (first | with_reducible exact G.out | with_reducible refine Grown.alloc ?_ _ _ | with_reducible refine Grown.setCell ?_ G.out.2.2 _)), (by repeat (first | with_reducible exact HS.out | with_reducible refine has_past ?_ _ | with_reducible refine has_other ?_ zn _))⟩
        case measure => first | omega | (simp; omega) | (simp [intOf]; omega)
      · have hb2 : K0 = k := by simpa using hb
        subst hb2
        have zb := HS.out.1
        have zn : wr.heap.size ≠ w.heap.size := by omega
        have zn2 : w.heap.size ≠ wr.heap.size := by omega
        have zu : w.heap.size < wr.heap.size + 1 := by omega
        obtain ⟨r1, r2, r3, r4, r5⟩ := rf.out
        have R1 := hid r1
        have c0 := HS.out.2 0
        have c1 := HS.out.2 1
        have c2 := HS.out.2 2
        have c3 := HS.out.2 3
        have c4 := HS.out.2 4
        simp at c0 c1 c2 c3 c4
        have fz := fun o => grown_froz G.out (Nat.le_refl w.heap.size) o
        have VV := hid (show Ending.returned (.agg #[.int .u8 K0, .int .i64 M0, .bool R0, .bool B0, .bool C0]) = .returned (.agg #[.int .u8 K0, .int .i64 (kMap K0), .bool (kRam K0), .bool (kBat K0), .bool (kClk K0)]) by rw [r2, r3, r4, r5])
        clear r1 r2 r3 r4 r5 rf hK hM hR hB hC
        go_wp2
        exact bodyPost_ret (v := .agg #[.int .u8 K0, .int .i64 M0, .bool R0, .bool B0, .bool C0]) (by simp [results, Tryz.results70, go_sem, zn, zn2, zu, zb, c0, c1, c2, c3, c4]) rfl ⟨.inl ⟨R1.out, VV.out⟩, (by repeat (first | with_reducible exact G.out | with_reducible refine Grown.alloc ?_ _ _ | with_reducible refine Grown.setCell ?_ (Nat.le_refl _) _ | with_reducible refine Grown.setCell ?_ G.out.2.2 _))⟩
    · obtain rfl : j = 17 := by omega
      have E := hid (HN.out NO.out)
      go_wp2
      exact ⟨rfl, .inr ⟨E.out, rfl⟩, G.out⟩
end Go.Proofs.YtfmddnekooojkaaGreatDoor
