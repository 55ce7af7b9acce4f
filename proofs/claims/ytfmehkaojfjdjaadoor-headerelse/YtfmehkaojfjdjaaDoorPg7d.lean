/- The laid tables of layer 7 (kinds, sizes of RAM), cell by cell; traitsOf. -/
import Derived.Test.YtfmehkaojfjdjaaDoorLaid
import Derived.Test.YtfmehkaojfjdjaaDoorPg7c
import Derived.Lay
namespace Go.Proofs.YtfmehkaojfjdjaaDoor
open Go.ChangeShapes Go.WideShapes Go.ChangeAt Go.RowKit
set_option linter.unusedVariables false
set_option linter.unusedSimpArgs false

def kT : List (Int × Int × Bool × Bool × Bool) := [(0, 0, false, false, false), (8, 0, true, false, false), (9, 0, true, true, false), (1, 1, false, false, false), (2, 1, true, false, false), (3, 1, true, true, false), (15, 3, false, true, true), (16, 3, true, true, true), (17, 3, false, false, false), (18, 3, true, false, false), (19, 3, true, true, false), (25, 5, false, false, false), (26, 5, true, false, false), (27, 5, true, true, false), (28, 5, false, false, false), (29, 5, true, false, false), (30, 5, true, true, false)]
def kindsA : Array Value := (kT.flatMap fun x => [Value.int .u8 x.1, .int .i64 x.2.1, .bool x.2.2.1, .bool x.2.2.2.1, .bool x.2.2.2.2]).toArray
def ramsA : Array Value := #[.int .i64 0, .int .i64 2048, .int .i64 8192, .int .i64 32768, .int .i64 131072, .int .i64 65536]
theorem has_kept7 {W w1 : World} (g : Kept W w1) {b : Nat} {cs : Array Value} (h : Has W b cs) : Has w1 b cs :=
  ⟨Nat.lt_of_lt_of_le h.1 g.size, fun i => (g.cell (x := ⟨b, i, none⟩) h.1).trans (h.2 i)⟩
structure Lay7 (w : World) : Prop where
  kinds : Has w 1 kindsA
  rams : Has w 0 ramsA
theorem Lay7.kept {W w1 : World} (h : Lay7 W) (g : Kept W w1) : Lay7 w1 := ⟨has_kept7 g h.kinds, has_kept7 g h.rams⟩
theorem laid_at7 {P : Program} {W : World} : ∀ {laid : List (String × DataW Unit)} {ps : List MemPlace}, DataW.LaidVars P W laid ps → ∀ (i : Nat) (x : String × DataW Unit), laid[i]? = some x → ∀ {g t k : Nat} {l : List Value},
    P.globalNamed x.1 = some g → (P.globals[g]?).map (·.type) = some t → untrod P k t x.2 = some l → 0 < l.length → Has W g l.toArray
  | [], _, _, i, x, hx, _, _, _, _, _, _, _, _ => by simp at hx
  | (n, d) :: r, ps, h, 0, x, hx, g, t, k, l, hg, ht, hu, h0 => by
    obtain ⟨g2, t2, cs, f, p, q, hg2, ht2, hv, hd, _, _⟩ := h
    obtain rfl : (n, d) = x := by simpa using hx
    obtain rfl := Option.some.inj (hg.symm.trans hg2)
    obtain rfl := Option.some.inj (ht.symm.trans ht2)
    exact has_var hg hv hd hu h0
  | (n, d) :: r, ps, h, i + 1, x, hx, g, t, k, l, hg, ht, hu, h0 => by
    obtain ⟨_, _, _, _, _, q, _, _, _, _, hr, _⟩ := h
    exact laid_at7 hr i x (by simpa using hx) hg ht hu h0
theorem of_laid {W : World} (h : laidMetH Tryd.prog Rows.headerParsesRow.laid W) : Lay7 W := by
  rw [MakeChecks.laidMetH_plain _ _ _ (by kernel_rfl)] at h
  obtain ⟨ps, hL, _, _⟩ := h
  exact ⟨laid_at7 hL 0 _ rfl (t := 66) (k := 6) (l := kindsA.toList) (by kernel_rfl) (by kernel_rfl) (by kernel_rfl) (by decide), laid_at7 hL 1 _ rfl (t := 64) (k := 4) (l := ramsA.toList) (by kernel_rfl) (by kernel_rfl) (by kernel_rfl) (by decide)⟩
theorem start_met (os : Os) (args : Array Value) : laidMetH Tryd.prog Rows.headerParsesRow.laid ((World.laidAll Tryd.prog os Rows.headerParsesRow.laid).forCall (fun _ _ => 0) ⟨#[], args, []⟩).memory := by
  rw [MakeChecks.laidMetH_plain _ _ _ (by kernel_rfl)]
  exact laidMet_laidAll _ (by kernel_rfl) (by kernel_rfl)
def kK (i : Nat) : Int := (kT.getD i (0, 0, false, false, false)).1
def kM (i : Nat) : Int := (kT.getD i (0, 0, false, false, false)).2.1
def kR (i : Nat) : Bool := (kT.getD i (0, 0, false, false, false)).2.2.1
def kB (i : Nat) : Bool := (kT.getD i (0, 0, false, false, false)).2.2.2.1
def kC (i : Nat) : Bool := (kT.getD i (0, 0, false, false, false)).2.2.2.2
theorem idx_kinds (u : World) : ∀ (i : Nat), i < 17 → (Instr.index 66 (.agg kindsA) (.int .i64 (i : Int))).run Tryd.prog u = .ok (.agg #[.int .u8 (kK i), .int .i64 (kM i), .bool (kR i), .bool (kB i), .bool (kC i)]) u
  | 0, _ => by kernel_rfl
  | 1, _ => by kernel_rfl
  | 2, _ => by kernel_rfl
  | 3, _ => by kernel_rfl
  | 4, _ => by kernel_rfl
  | 5, _ => by kernel_rfl
  | 6, _ => by kernel_rfl
  | 7, _ => by kernel_rfl
  | 8, _ => by kernel_rfl
  | 9, _ => by kernel_rfl
  | 10, _ => by kernel_rfl
  | 11, _ => by kernel_rfl
  | 12, _ => by kernel_rfl
  | 13, _ => by kernel_rfl
  | 14, _ => by kernel_rfl
  | 15, _ => by kernel_rfl
  | 16, _ => by kernel_rfl
  | i + 17, h => absurd h (by omega)
theorem load_kinds (u : World) (h : Has u 1 kindsA) : (loadVar 66 ⟨1, 0, none⟩).run Tryd.prog u = .ok (.agg kindsA) u := by
  have hl : (loadCells ⟨1, 0, none⟩ kindsA.toList.length).run Tryd.prog u = .ok kindsA.toList.toArray u :=
    run_loadCells_list (P := Tryd.prog) u ⟨1, 0, none⟩ kindsA.toList (fun j v hv => by
      have hadd : (⟨1, 0, none⟩ : Addr).add j = ⟨1, j, none⟩ := by unfold Addr.add; split <;> simp_all
      rw [hadd, h.2 j]
      simpa using hv)
  have hs : (Tryd.prog.info? 66).map (·.size) = some 85 := by kernel_rfl
  cases hq : Tryd.prog.info? 66 with
  | none => simp [hq] at hs
  | some i =>
    have hs2 : i.size = 85 := by simpa [hq] using hs
    have hagg : (isAgg 66).run Tryd.prog u = .ok true u := by
      unfold isAgg
      rw [Sem.run_bind, run_underlying Tryd.underlying66 u]
      simp
    have h85 : kindsA.toList.length = 85 := by decide
    rw [h85] at hl
    simp only [Array.toArray_toList] at hl
    simp [loadVar, Sem.run_bind, hagg, sizeOf, typeInfo, hq, hs2, hl]
theorem row_fin : ∀ i : Fin 17, kindOk (kK i.val) = true ∧ kM i.val = kMap (kK i.val) ∧ kR i.val = kRam (kK i.val) ∧ kB i.val = kBat (kK i.val) ∧ kC i.val = kClk (kK i.val) := by decide +kernel
theorem none_fin : ∀ a : Fin 256, kindOk (a.val : Int) = true → ∃ i : Fin 17, kK i.val = (a.val : Int) := by decide +kernel
theorem kind_none (k : Int) (k0 : 0 ≤ k) (k1 : k ≤ 255) (h : ∀ l, l < 17 → kK l ≠ k) : kindOk k = false := by
  cases e : kindOk k with
  | false => rfl
  | true =>
    exfalso
    obtain ⟨i, hi⟩ := fin8 (p := fun k => kindOk k = true → ∃ i : Fin 17, kK i.val = k) none_fin k k0 k1 e
    exact h i.val i.isLt hi
def traitsV (k : Int) : Value := .agg #[.int .u8 k, .int .i64 (kMap k), .bool (kRam k), .bool (kBat k), .bool (kClk k)]
end Go.Proofs.YtfmehkaojfjdjaaDoor
