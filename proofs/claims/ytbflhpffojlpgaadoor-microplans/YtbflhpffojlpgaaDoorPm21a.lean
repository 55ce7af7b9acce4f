/- The laid tables of layer 21; the program's small plans, over this seat's translation. -/
import Derived.Test.YtbflhpffojlpgaaDoorLaidAt
import Derived.Test.YtbflhpffojlpgaaDoorPt21
import Derived.BigQuiet
import Derived.Deep.RegionHeld3
namespace Go.Proofs.YtbflhpffojlpgaaDoor
open Go.ChangeShapes Go.WideShapes Go.ChangeAt Go.RowKit
set_option linter.unusedVariables false
set_option linter.unusedSimpArgs false

def preA : Array Value := #[.int .i64 43, .int .i64 4, .int .i64 44, .int .i64 3, .int .i64 45, .int .i64 4, .int .i64 46, .int .i64 4]
def poiA : Array Value := #[.int .i64 3, .int .i64 4, .int .i64 5, .int .i64 6]
def Lay21 (w : World) : Prop := Has w 0 preA ∧ Has w 1 poiA
theorem lay21_kept {W w : World} (h : Lay21 W) (k : Kept W w) : Lay21 w := ⟨hasK k h.1, hasK k h.2⟩
theorem of_laid {W : World} (h : laidMetH Tryd.prog Rows.microPlansRow.laid W) : Lay21 W := by
  rw [MakeChecks.laidMetH_plain _ _ _ (by kernel_rfl)] at h
  obtain ⟨ps, hL, _, _⟩ := h
  exact ⟨laid_at hL 0 _ rfl (t := 45) (k := 5) (l := preA.toList) (by kernel_rfl) (by kernel_rfl) (by kernel_rfl) (by decide), laid_at hL 1 _ rfl (t := 51) (k := 5) (l := poiA.toList) (by kernel_rfl) (by kernel_rfl) (by kernel_rfl) (by decide)⟩
theorem start_met (os : Os) (args : Array Value) : laidMetH Tryd.prog Rows.microPlansRow.laid ((World.laidAll Tryd.prog os Rows.microPlansRow.laid).forCall (fun _ _ => 0) ⟨#[], args, []⟩).memory := by
  rw [MakeChecks.laidMetH_plain _ _ _ (by kernel_rfl)]
  exact laidMet_laidAll _ (by kernel_rfl) (by kernel_rfl)
def rdM (p v : Int) : List Mc := [(1, p, v)]
def wrM (p v : Int) : List Mc := [(2, p, v)]
theorem cellsM (u : World) (vs : List Value) (j : Nat) : (u.alloc (.cells vs.toArray 24)).cell? ((⟨u.heap.size, 0, none⟩ : Addr).add j) = vs[j]? := by
  rw [ownB_add, cell_of_row _ u.heap.size j vs.toArray 24 (0, 0) (heap_alloc_new u _)]
  simp
theorem togN (u : World) (ps : List Ms) (hs : ∀ p ∈ ps, SlMs u p) (hn : ps.length ≤ 1000) (hl : (allOf ps).length ≤ 1000) : Calls Tryd.prog 18 #[.slice (some ⟨u.heap.size, 0, none⟩) ps.length ps.length] (u.alloc (.cells (ps.map msV).toArray 24)) (MRet u (allOf ps)) := by
  refine (ptog21 ⟨u.heap.size, 0, none⟩ ps.length ps.length ps _ (by simp) (fun j p h => by rw [cellsM, List.getElem?_map, h]; rfl) (fun p h => slM_kept ((Kept.refl u).alloc _) (hs p h)) rfl hn hl).mono ?_
  rintro e v ⟨a, c, h1, h2, h3⟩
  exact ⟨a, c, h1, h2, ((Kept.refl u).alloc _).trans h3⟩
theorem on100 (g : Bool) {l : List Mc} (h : l.length ≤ 100) : (onM g l).length ≤ 100 := by cases g <;> simp [onM] <;> omega
theorem le_two {l m : List Mc} (h1 : l.length ≤ 100) (h2 : m.length ≤ 100) : (l ++ m).length ≤ 1000 := by rw [List.length_append]; omega
theorem ret_two {a : Option Addr} {c : Nat} {l m : List Mc} : Ending.returned (.slice a (l.length + m.length) c) = Ending.returned (.slice a (l ++ m).length c) := by rw [List.length_append]
theorem tog2 (u : World) {a1 : Option Addr} {c1 : Nat} {L1 : List Mc} {a2 : Option Addr} {c2 : Nat} {L2 : List Mc} (s1 : SlM u a1 c1 L1) (s2 : SlM u a2 c2 L2) (hl : (L1 ++ L2).length ≤ 1000) : Calls Tryd.prog 18 #[.slice (some ⟨u.heap.size, 0, none⟩) 2 2] (u.alloc (.cells #[.slice a1 L1.length c1, .slice a2 L2.length c2] 24)) (MRet u (L1 ++ L2)) := by
  have e : allOf [(a1, c1, L1), (a2, c2, L2)] = L1 ++ L2 := by simp [allOf]
  have := togN u [(a1, c1, L1), (a2, c2, L2)] (fun p h => by simp only [List.mem_cons, List.not_mem_nil, or_false] at h; rcases h with rfl | rfl <;> assumption) (by simp) (by rw [e]; exact hl)
  rw [e] at this
  exact this
theorem tog3 (u : World) {a1 : Option Addr} {c1 : Nat} {L1 : List Mc} {a2 : Option Addr} {c2 : Nat} {L2 : List Mc} {a3 : Option Addr} {c3 : Nat} {L3 : List Mc} (s1 : SlM u a1 c1 L1) (s2 : SlM u a2 c2 L2) (s3 : SlM u a3 c3 L3) (hl : (L1 ++ L2 ++ L3).length ≤ 1000) : Calls Tryd.prog 18 #[.slice (some ⟨u.heap.size, 0, none⟩) 3 3] (u.alloc (.cells #[.slice a1 L1.length c1, .slice a2 L2.length c2, .slice a3 L3.length c3] 24)) (MRet u (L1 ++ L2 ++ L3)) := by
  have e : allOf [(a1, c1, L1), (a2, c2, L2), (a3, c3, L3)] = L1 ++ L2 ++ L3 := by simp [allOf]
  have := togN u [(a1, c1, L1), (a2, c2, L2), (a3, c3, L3)] (fun p h => by simp only [List.mem_cons, List.not_mem_nil, or_false] at h; rcases h with rfl | rfl | rfl <;> assumption) (by simp) (by rw [e]; exact hl)
  rw [e] at this
  exact this
theorem tog4 (u : World) {a1 : Option Addr} {c1 : Nat} {L1 : List Mc} {a2 : Option Addr} {c2 : Nat} {L2 : List Mc} {a3 : Option Addr} {c3 : Nat} {L3 : List Mc} {a4 : Option Addr} {c4 : Nat} {L4 : List Mc} (s1 : SlM u a1 c1 L1) (s2 : SlM u a2 c2 L2) (s3 : SlM u a3 c3 L3) (s4 : SlM u a4 c4 L4) (hl : (L1 ++ L2 ++ L3 ++ L4).length ≤ 1000) : Calls Tryd.prog 18 #[.slice (some ⟨u.heap.size, 0, none⟩) 4 4] (u.alloc (.cells #[.slice a1 L1.length c1, .slice a2 L2.length c2, .slice a3 L3.length c3, .slice a4 L4.length c4] 24)) (MRet u (L1 ++ L2 ++ L3 ++ L4)) := by
  have e : allOf [(a1, c1, L1), (a2, c2, L2), (a3, c3, L3), (a4, c4, L4)] = L1 ++ L2 ++ L3 ++ L4 := by simp [allOf]
  have := togN u [(a1, c1, L1), (a2, c2, L2), (a3, c3, L3), (a4, c4, L4)] (fun p h => by simp only [List.mem_cons, List.not_mem_nil, or_false] at h; rcases h with rfl | rfl | rfl | rfl <;> assumption) (by simp) (by rw [e]; exact hl)
  rw [e] at this
  exact this
theorem pread21 (p v : Int) (w : World) : Calls Tryd.prog 33 #[.int .i64 p, .int .i64 v] w (MRet w (rdM p v)) := by
  go_enter Tryd.func33, Tryd.ntmps33
  go_wp2
  go_ret
  exact ⟨some ⟨w.heap.size, 0, none⟩, 1, rfl, one_slM w (1, p, v), (Kept.refl w).alloc _⟩
theorem pwrite21 (p v : Int) (w : World) : Calls Tryd.prog 34 #[.int .i64 p, .int .i64 v] w (MRet w (wrM p v)) := by
  go_enter Tryd.func34, Tryd.ntmps34
  go_wp2
  go_ret
  exact ⟨some ⟨w.heap.size, 0, none⟩, 1, rfl, one_slM w (2, p, v), (Kept.refl w).alloc _⟩
theorem pidle21 (w : World) : Calls Tryd.prog 39 #[] w (MRet w idlM) := by
  go_enter Tryd.func39, Tryd.ntmps39
  go_wp2
  go_ret
  exact ⟨some ⟨w.heap.size, 0, none⟩, 1, rfl, one_slM w (0, 0, 0), (Kept.refl w).alloc _⟩
theorem ponly21 (g : Bool) {a : Option Addr} {cap : Nat} {L : List Mc} (w : World) (h : SlM w a cap L) : Calls Tryd.prog 37 #[.bool g, .slice a L.length cap] w (MRet w (onM g L)) := by
  have H := hid h
  clear h
  cases g
  · go_enter Tryd.func37, Tryd.ntmps37
    go_wp2
    go_ret
    exact ⟨none, 0, rfl, slM_nil w, Kept.refl w⟩
  · go_enter Tryd.func37, Tryd.ntmps37
    go_wp2
    go_ret
    exact ⟨a, cap, rfl, H.out, Kept.refl w⟩
theorem pbyte21 (w : World) : Calls Tryd.prog 35 #[] w (MRet w (rdM 1 1)) := by
  go_enter Tryd.func35, Tryd.ntmps35
  have K0 := hid (Kept.refl w)
  go_wp2_with fail
  refine (pread21 1 1 _).mono ?_
  rintro e u1 ⟨a1, c1, rfl, s1, k1⟩
  have K1 := hid (K0.out.trans k1)
  have SP0_1 := hid s1
  clear s1 k1
  go_wp2
  go_ret
  exact ⟨a1, c1, (by first | rfl | exact ret_two), SP0_1.out, K1.out⟩
theorem pword21 (w : World) : Calls Tryd.prog 36 #[] w (MRet w wdM) := by
  go_enter Tryd.func36, Tryd.ntmps36
  have K0 := hid (Kept.refl w)
  go_wp2_with fail
  refine (pread21 1 1 _).mono ?_
  rintro e u1 ⟨a1, c1, rfl, s1, k1⟩
  have K1 := hid (K0.out.trans k1)
  have SP0_1 := hid s1
  clear s1 k1
  go_wp2_with fail
  refine (pread21 1 2 _).mono ?_
  rintro e u2 ⟨a2, c2, rfl, s2, k2⟩
  have K2 := hid (K1.out.trans k2)
  have SP0_2 := hid (slM_kept k2 SP0_1.out)
  have SP1_2 := hid s2
  clear s2 k2
  go_wp2_with fail
  refine (tog2 _ SP0_2.out SP1_2.out (by first | decide | exact le_two (by first | decide | exact on100 _ (by decide)) (by first | decide | exact on100 _ (by decide)))).mono ?_
  rintro e u3 ⟨a3, c3, rfl, s3, k3⟩
  have K3 := hid (K2.out.trans k3)
  have SP0_3 := hid (slM_kept k3 SP0_2.out)
  have SP1_3 := hid (slM_kept k3 SP1_2.out)
  have ST_3 := hid s3
  clear s3 k3
  go_wp2
  go_ret
  exact ⟨a3, c3, (by first | rfl | exact ret_two), ST_3.out, K3.out⟩
theorem pchange21 (w : World) : Calls Tryd.prog 38 #[] w (MRet w chgM) := by
  go_enter Tryd.func38, Tryd.ntmps38
  have K0 := hid (Kept.refl w)
  go_wp2_with fail
  refine (pread21 2 1 _).mono ?_
  rintro e u1 ⟨a1, c1, rfl, s1, k1⟩
  have K1 := hid (K0.out.trans k1)
  have SP0_1 := hid s1
  clear s1 k1
  go_wp2_with fail
  refine (pwrite21 2 9 _).mono ?_
  rintro e u2 ⟨a2, c2, rfl, s2, k2⟩
  have K2 := hid (K1.out.trans k2)
  have SP0_2 := hid (slM_kept k2 SP0_1.out)
  have SP1_2 := hid s2
  clear s2 k2
  go_wp2_with fail
  refine (tog2 _ SP0_2.out SP1_2.out (by first | decide | exact le_two (by first | decide | exact on100 _ (by decide)) (by first | decide | exact on100 _ (by decide)))).mono ?_
  rintro e u3 ⟨a3, c3, rfl, s3, k3⟩
  have K3 := hid (K2.out.trans k3)
  have SP0_3 := hid (slM_kept k3 SP0_2.out)
  have SP1_3 := hid (slM_kept k3 SP1_2.out)
  have ST_3 := hid s3
  clear s3 k3
  go_wp2
  go_ret
  exact ⟨a3, c3, (by first | rfl | exact ret_two), ST_3.out, K3.out⟩
theorem ppop21 (w : World) : Calls Tryd.prog 40 #[] w (MRet w popM) := by
  go_enter Tryd.func40, Tryd.ntmps40
  have K0 := hid (Kept.refl w)
  go_wp2_with fail
  refine (pread21 12 1 _).mono ?_
  rintro e u1 ⟨a1, c1, rfl, s1, k1⟩
  have K1 := hid (K0.out.trans k1)
  have SP0_1 := hid s1
  clear s1 k1
  go_wp2_with fail
  refine (pread21 12 2 _).mono ?_
  rintro e u2 ⟨a2, c2, rfl, s2, k2⟩
  have K2 := hid (K1.out.trans k2)
  have SP0_2 := hid (slM_kept k2 SP0_1.out)
  have SP1_2 := hid s2
  clear s2 k2
  go_wp2_with fail
  refine (tog2 _ SP0_2.out SP1_2.out (by first | decide | exact le_two (by first | decide | exact on100 _ (by decide)) (by first | decide | exact on100 _ (by decide)))).mono ?_
  rintro e u3 ⟨a3, c3, rfl, s3, k3⟩
  have K3 := hid (K2.out.trans k3)
  have SP0_3 := hid (slM_kept k3 SP0_2.out)
  have SP1_3 := hid (slM_kept k3 SP1_2.out)
  have ST_3 := hid s3
  clear s3 k3
  go_wp2
  go_ret
  exact ⟨a3, c3, (by first | rfl | exact ret_two), ST_3.out, K3.out⟩
theorem pcall21 (w : World) : Calls Tryd.prog 41 #[] w (MRet w callM) := by
  go_enter Tryd.func41, Tryd.ntmps41
  have K0 := hid (Kept.refl w)
  go_wp2_with fail
  refine (pidle21 _).mono ?_
  rintro e u1 ⟨a1, c1, rfl, s1, k1⟩
  have K1 := hid (K0.out.trans k1)
  have SP0_1 := hid s1
  clear s1 k1
  go_wp2_with fail
  refine (pwrite21 11 8 _).mono ?_
  rintro e u2 ⟨a2, c2, rfl, s2, k2⟩
  have K2 := hid (K1.out.trans k2)
  have SP0_2 := hid (slM_kept k2 SP0_1.out)
  have SP1_2 := hid s2
  clear s2 k2
  go_wp2_with fail
  refine (pwrite21 11 7 _).mono ?_
  rintro e u3 ⟨a3, c3, rfl, s3, k3⟩
  have K3 := hid (K2.out.trans k3)
  have SP0_3 := hid (slM_kept k3 SP0_2.out)
  have SP1_3 := hid (slM_kept k3 SP1_2.out)
  have SP2_3 := hid s3
  clear s3 k3
  go_wp2_with fail
  refine (tog3 _ SP0_3.out SP1_3.out SP2_3.out (by first | decide | exact le_two (by first | decide | exact on100 _ (by decide)) (by first | decide | exact on100 _ (by decide)))).mono ?_
  rintro e u4 ⟨a4, c4, rfl, s4, k4⟩
  have K4 := hid (K3.out.trans k4)
  have SP0_4 := hid (slM_kept k4 SP0_3.out)
  have SP1_4 := hid (slM_kept k4 SP1_3.out)
  have SP2_4 := hid (slM_kept k4 SP2_3.out)
  have ST_4 := hid s4
  clear s4 k4
  go_wp2
  go_ret
  exact ⟨a4, c4, (by first | rfl | exact ret_two), ST_4.out, K4.out⟩
theorem pback21 (w : World) : Calls Tryd.prog 42 #[] w (MRet w backM) := by
  go_enter Tryd.func42, Tryd.ntmps42
  have K0 := hid (Kept.refl w)
  go_wp2_with fail
  refine (ppop21 _).mono ?_
  rintro e u1 ⟨a1, c1, rfl, s1, k1⟩
  have K1 := hid (K0.out.trans k1)
  have SP0_1 := hid s1
  clear s1 k1
  go_wp2_with fail
  refine (pidle21 _).mono ?_
  rintro e u2 ⟨a2, c2, rfl, s2, k2⟩
  have K2 := hid (K1.out.trans k2)
  have SP0_2 := hid (slM_kept k2 SP0_1.out)
  have SP1_2 := hid s2
  clear s2 k2
  go_wp2_with fail
  refine (tog2 _ SP0_2.out SP1_2.out (by first | decide | exact le_two (by first | decide | exact on100 _ (by decide)) (by first | decide | exact on100 _ (by decide)))).mono ?_
  rintro e u3 ⟨a3, c3, rfl, s3, k3⟩
  have K3 := hid (K2.out.trans k3)
  have SP0_3 := hid (slM_kept k3 SP0_2.out)
  have SP1_3 := hid (slM_kept k3 SP1_2.out)
  have ST_3 := hid s3
  clear s3 k3
  go_wp2
  go_ret
  exact ⟨a3, c3, (by first | rfl | exact ret_two), ST_3.out, K3.out⟩
end Go.Proofs.YtbflhpffojlpgaaDoor
