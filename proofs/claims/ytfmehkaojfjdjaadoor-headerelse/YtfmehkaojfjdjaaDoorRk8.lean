/- What Kinds of the document's answers of layer 7 comes to. -/
import Derived.Test.YtfmehkaojfjdjaaDoorRk7
namespace Go.Proofs.YtfmehkaojfjdjaaDoor
open Go.RowKit
set_option linter.unusedVariables false
set_option linter.unusedSimpArgs false

theorem rin_new (ls : List Int) (n : Nat) (hn : ls.length = n) (hl : n ≤ 1000) (b : Int) (g : Nat) (u : World) (hg : g = u.heap.size) : Calls Tryd.prog 34 #[.slice (some ⟨g, 0, none⟩) n n, .int .u8 b] (u.alloc (.cells (ls.map (Value.int .u8)).toArray 5)) fun e w' => e = .returned (.bool (inL ls b)) ∧ w' = u.alloc (.cells (ls.map (Value.int .u8)).toArray 5) := by
  subst hn
  subst hg
  refine rin_any ls b _ _ _ (by simp) (fun i hi => ?_) hl
  rw [(has_alloc u (ls.map (Value.int .u8)).toArray 5).2 i]
  simp [List.getD_eq_getElem?_getD, List.getElem?_eq_getElem hi]
set_option maxRecDepth 100000 in
set_option maxHeartbeats 4000000 in
theorem rkinds_any (k : Int) (w : World) (h0 : 0 ≤ k) (h1 : k ≤ 255) : Calls Tryd.prog 20 #[.int .u8 k] w fun e w' => e = .returned (.tuple #[.agg #[.string (kindH k).title, .int .u8 (kindH k).kind, .int .i64 (kindH k).map, .bool (kindH k).ram, .bool (kindH k).bat, .bool (kindH k).clk, .int .i64 (kindH k).banks, .int .i64 (kindH k).size, .int .u8 (kindH k).sum, .int .u16 (kindH k).whole], .bool (kindOk k)]) ∧ Grown w w' := by
  have Ck1 := hid (fun (u : World) (g : Nat) (hg : g = u.heap.size) => show Calls Tryd.prog 34 #[.slice (some ⟨g, 0, none⟩) 3 3, .int .u8 k] (u.alloc (.cells #[.int .u8 1, .int .u8 2, .int .u8 3] 5)) (fun e w' => e = .returned (.bool (k1 k)) ∧ w' = u.alloc (.cells #[.int .u8 1, .int .u8 2, .int .u8 3] 5)) from rin_new [1, 2, 3] 3 rfl (by decide) k g u hg)
  have Ck3 := hid (fun (u : World) (g : Nat) (hg : g = u.heap.size) => show Calls Tryd.prog 34 #[.slice (some ⟨g, 0, none⟩) 5 5, .int .u8 k] (u.alloc (.cells #[.int .u8 15, .int .u8 16, .int .u8 17, .int .u8 18, .int .u8 19] 5)) (fun e w' => e = .returned (.bool (k3 k)) ∧ w' = u.alloc (.cells #[.int .u8 15, .int .u8 16, .int .u8 17, .int .u8 18, .int .u8 19] 5)) from rin_new [15, 16, 17, 18, 19] 5 rfl (by decide) k g u hg)
  have Ck5 := hid (fun (u : World) (g : Nat) (hg : g = u.heap.size) => show Calls Tryd.prog 34 #[.slice (some ⟨g, 0, none⟩) 6 6, .int .u8 k] (u.alloc (.cells #[.int .u8 25, .int .u8 26, .int .u8 27, .int .u8 28, .int .u8 29, .int .u8 30] 5)) (fun e w' => e = .returned (.bool (k5 k)) ∧ w' = u.alloc (.cells #[.int .u8 25, .int .u8 26, .int .u8 27, .int .u8 28, .int .u8 29, .int .u8 30] 5)) from rin_new [25, 26, 27, 28, 29, 30] 6 rfl (by decide) k g u hg)
  have CkN := hid (fun (u : World) (g : Nat) (hg : g = u.heap.size) => show Calls Tryd.prog 34 #[.slice (some ⟨g, 0, none⟩) 3 3, .int .u8 k] (u.alloc (.cells #[.int .u8 0, .int .u8 8, .int .u8 9] 5)) (fun e w' => e = .returned (.bool (kN k)) ∧ w' = u.alloc (.cells #[.int .u8 0, .int .u8 8, .int .u8 9] 5)) from rin_new [0, 8, 9] 3 rfl (by decide) k g u hg)
  have CkRam := hid (fun (u : World) (g : Nat) (hg : g = u.heap.size) => show Calls Tryd.prog 34 #[.slice (some ⟨g, 0, none⟩) 11 11, .int .u8 k] (u.alloc (.cells #[.int .u8 2, .int .u8 3, .int .u8 8, .int .u8 9, .int .u8 16, .int .u8 18, .int .u8 19, .int .u8 26, .int .u8 27, .int .u8 29, .int .u8 30] 5)) (fun e w' => e = .returned (.bool (kRam k)) ∧ w' = u.alloc (.cells #[.int .u8 2, .int .u8 3, .int .u8 8, .int .u8 9, .int .u8 16, .int .u8 18, .int .u8 19, .int .u8 26, .int .u8 27, .int .u8 29, .int .u8 30] 5)) from rin_new [2, 3, 8, 9, 16, 18, 19, 26, 27, 29, 30] 11 rfl (by decide) k g u hg)
  have CkBat := hid (fun (u : World) (g : Nat) (hg : g = u.heap.size) => show Calls Tryd.prog 34 #[.slice (some ⟨g, 0, none⟩) 7 7, .int .u8 k] (u.alloc (.cells #[.int .u8 3, .int .u8 9, .int .u8 15, .int .u8 16, .int .u8 19, .int .u8 27, .int .u8 30] 5)) (fun e w' => e = .returned (.bool (kBat k)) ∧ w' = u.alloc (.cells #[.int .u8 3, .int .u8 9, .int .u8 15, .int .u8 16, .int .u8 19, .int .u8 27, .int .u8 30] 5)) from rin_new [3, 9, 15, 16, 19, 27, 30] 7 rfl (by decide) k g u hg)
  have CkClk := hid (fun (u : World) (g : Nat) (hg : g = u.heap.size) => show Calls Tryd.prog 34 #[.slice (some ⟨g, 0, none⟩) 2 2, .int .u8 k] (u.alloc (.cells #[.int .u8 15, .int .u8 16] 5)) (fun e w' => e = .returned (.bool (kClk k)) ∧ w' = u.alloc (.cells #[.int .u8 15, .int .u8 16] 5)) from rin_new [15, 16] 2 rfl (by decide) k g u hg)
  have KR : kRam k = kRam k := rfl
  generalize hR : kRam k = R at *
  generalize hB : kBat k = Bt at *
  generalize hC : kClk k = Ck at *
  have HR := hid hR
  have HB := hid hB
  have HC := hid hC
  clear hR hB hC KR
  rcases kind_of k h0 h1 with ⟨q1, q3, q5, q0⟩ | ⟨q1, q3, q5, q0⟩ | ⟨q1, q3, q5, q0⟩ | ⟨q1, q3, q5, q0⟩ | ⟨q1, q3, q5, q0⟩
  · have EK := hid (show kindOk k = true by simp [kindOk, q1, q3, q5, q0])
    have EH := hid (show kindH k = ⟨⟨#[]⟩, k, 1, R, Bt, Ck, 0, 0, 0, 0⟩ by simp [kindH, kindOk, kMap, q1, q3, q5, q0, HR.out, HB.out, HC.out])
    rw [q1] at Ck1
    rw [q3] at Ck3
    rw [q5] at Ck5
    rw [q0] at CkN
    clear q1 q3 q5 q0
    go_enter Tryd.func20, Tryd.ntmps20
    go_wp2_with fail
    refine (Ck1.out _ _ (by simp)).mono ?_
    rintro e w' ⟨rfl, rfl⟩
    go_wp2_with fail
    refine (Ck3.out _ _ (by simp)).mono ?_
    rintro e w' ⟨rfl, rfl⟩
    go_wp2_with fail
    refine (Ck5.out _ _ (by simp)).mono ?_
    rintro e w' ⟨rfl, rfl⟩
    go_wp2_with fail
    refine (CkN.out _ _ (by simp)).mono ?_
    rintro e w' ⟨rfl, rfl⟩
    go_wp2_with fail
    refine (CkRam.out _ _ (by simp)).mono ?_
    rintro e w' ⟨rfl, rfl⟩
    go_wp2_with fail
    refine (CkBat.out _ _ (by simp)).mono ?_
    rintro e w' ⟨rfl, rfl⟩
    go_wp2_with fail
    refine (CkClk.out _ _ (by simp)).mono ?_
    rintro e w' ⟨rfl, rfl⟩
    go_wp2
    exact bodyPost_ret (v := .tuple #[.agg #[.string ⟨#[]⟩, .int .u8 k, .int .i64 1, .bool R, .bool Bt, .bool Ck, .int .i64 0, .int .i64 0, .int .u8 0, .int .u16 0], .bool true]) (by simp [results, Tryd.results20, go_sem]) rfl ⟨by rw [EK.out, EH.out], ((((((((((Grown.refl w).alloc _ _).alloc _ _).alloc _ _).alloc _ _).alloc _ _).alloc _ _).alloc _ _).alloc _ _).alloc _ _)⟩
  · have EK := hid (show kindOk k = true by simp [kindOk, q1, q3, q5, q0])
    have EH := hid (show kindH k = ⟨⟨#[]⟩, k, 3, R, Bt, Ck, 0, 0, 0, 0⟩ by simp [kindH, kindOk, kMap, q1, q3, q5, q0, HR.out, HB.out, HC.out])
    rw [q1] at Ck1
    rw [q3] at Ck3
    rw [q5] at Ck5
    rw [q0] at CkN
    clear q1 q3 q5 q0
    go_enter Tryd.func20, Tryd.ntmps20
    go_wp2_with fail
    refine (Ck1.out _ _ (by simp)).mono ?_
    rintro e w' ⟨rfl, rfl⟩
    go_wp2_with fail
    refine (Ck3.out _ _ (by simp)).mono ?_
    rintro e w' ⟨rfl, rfl⟩
    go_wp2_with fail
    refine (Ck5.out _ _ (by simp)).mono ?_
    rintro e w' ⟨rfl, rfl⟩
    go_wp2_with fail
    refine (CkN.out _ _ (by simp)).mono ?_
    rintro e w' ⟨rfl, rfl⟩
    go_wp2_with fail
    refine (CkRam.out _ _ (by simp)).mono ?_
    rintro e w' ⟨rfl, rfl⟩
    go_wp2_with fail
    refine (CkBat.out _ _ (by simp)).mono ?_
    rintro e w' ⟨rfl, rfl⟩
    go_wp2_with fail
    refine (CkClk.out _ _ (by simp)).mono ?_
    rintro e w' ⟨rfl, rfl⟩
    go_wp2
    exact bodyPost_ret (v := .tuple #[.agg #[.string ⟨#[]⟩, .int .u8 k, .int .i64 3, .bool R, .bool Bt, .bool Ck, .int .i64 0, .int .i64 0, .int .u8 0, .int .u16 0], .bool true]) (by simp [results, Tryd.results20, go_sem]) rfl ⟨by rw [EK.out, EH.out], ((((((((((Grown.refl w).alloc _ _).alloc _ _).alloc _ _).alloc _ _).alloc _ _).alloc _ _).alloc _ _).alloc _ _).alloc _ _)⟩
  · have EK := hid (show kindOk k = true by simp [kindOk, q1, q3, q5, q0])
    have EH := hid (show kindH k = ⟨⟨#[]⟩, k, 5, R, Bt, Ck, 0, 0, 0, 0⟩ by simp [kindH, kindOk, kMap, q1, q3, q5, q0, HR.out, HB.out, HC.out])
    rw [q1] at Ck1
    rw [q3] at Ck3
    rw [q5] at Ck5
    rw [q0] at CkN
    clear q1 q3 q5 q0
    go_enter Tryd.func20, Tryd.ntmps20
    go_wp2_with fail
    refine (Ck1.out _ _ (by simp)).mono ?_
    rintro e w' ⟨rfl, rfl⟩
    go_wp2_with fail
    refine (Ck3.out _ _ (by simp)).mono ?_
    rintro e w' ⟨rfl, rfl⟩
    go_wp2_with fail
    refine (Ck5.out _ _ (by simp)).mono ?_
    rintro e w' ⟨rfl, rfl⟩
    go_wp2_with fail
    refine (CkN.out _ _ (by simp)).mono ?_
    rintro e w' ⟨rfl, rfl⟩
    go_wp2_with fail
    refine (CkRam.out _ _ (by simp)).mono ?_
    rintro e w' ⟨rfl, rfl⟩
    go_wp2_with fail
    refine (CkBat.out _ _ (by simp)).mono ?_
    rintro e w' ⟨rfl, rfl⟩
    go_wp2_with fail
    refine (CkClk.out _ _ (by simp)).mono ?_
    rintro e w' ⟨rfl, rfl⟩
    go_wp2
    exact bodyPost_ret (v := .tuple #[.agg #[.string ⟨#[]⟩, .int .u8 k, .int .i64 5, .bool R, .bool Bt, .bool Ck, .int .i64 0, .int .i64 0, .int .u8 0, .int .u16 0], .bool true]) (by simp [results, Tryd.results20, go_sem]) rfl ⟨by rw [EK.out, EH.out], ((((((((((Grown.refl w).alloc _ _).alloc _ _).alloc _ _).alloc _ _).alloc _ _).alloc _ _).alloc _ _).alloc _ _).alloc _ _)⟩
  · have EK := hid (show kindOk k = true by simp [kindOk, q1, q3, q5, q0])
    have EH := hid (show kindH k = ⟨⟨#[]⟩, k, 0, R, Bt, Ck, 0, 0, 0, 0⟩ by simp [kindH, kindOk, kMap, q1, q3, q5, q0, HR.out, HB.out, HC.out])
    rw [q1] at Ck1
    rw [q3] at Ck3
    rw [q5] at Ck5
    rw [q0] at CkN
    clear q1 q3 q5 q0
    go_enter Tryd.func20, Tryd.ntmps20
    go_wp2_with fail
    refine (Ck1.out _ _ (by simp)).mono ?_
    rintro e w' ⟨rfl, rfl⟩
    go_wp2_with fail
    refine (Ck3.out _ _ (by simp)).mono ?_
    rintro e w' ⟨rfl, rfl⟩
    go_wp2_with fail
    refine (Ck5.out _ _ (by simp)).mono ?_
    rintro e w' ⟨rfl, rfl⟩
    go_wp2_with fail
    refine (CkN.out _ _ (by simp)).mono ?_
    rintro e w' ⟨rfl, rfl⟩
    go_wp2_with fail
    refine (CkRam.out _ _ (by simp)).mono ?_
    rintro e w' ⟨rfl, rfl⟩
    go_wp2_with fail
    refine (CkBat.out _ _ (by simp)).mono ?_
    rintro e w' ⟨rfl, rfl⟩
    go_wp2_with fail
    refine (CkClk.out _ _ (by simp)).mono ?_
    rintro e w' ⟨rfl, rfl⟩
    go_wp2
    exact bodyPost_ret (v := .tuple #[.agg #[.string ⟨#[]⟩, .int .u8 k, .int .i64 0, .bool R, .bool Bt, .bool Ck, .int .i64 0, .int .i64 0, .int .u8 0, .int .u16 0], .bool true]) (by simp [results, Tryd.results20, go_sem]) rfl ⟨by rw [EK.out, EH.out], ((((((((((Grown.refl w).alloc _ _).alloc _ _).alloc _ _).alloc _ _).alloc _ _).alloc _ _).alloc _ _).alloc _ _).alloc _ _)⟩
  · have EK := hid (show kindOk k = false by simp [kindOk, q1, q3, q5, q0])
    have EH := hid (show kindH k = hd0 by simp [kindH, kindOk, kMap, q1, q3, q5, q0, HR.out, HB.out, HC.out])
    rw [q1] at Ck1
    rw [q3] at Ck3
    rw [q5] at Ck5
    rw [q0] at CkN
    clear q1 q3 q5 q0
    go_enter Tryd.func20, Tryd.ntmps20
    go_wp2_with fail
    refine (Ck1.out _ _ (by simp)).mono ?_
    rintro e w' ⟨rfl, rfl⟩
    go_wp2_with fail
    refine (Ck3.out _ _ (by simp)).mono ?_
    rintro e w' ⟨rfl, rfl⟩
    go_wp2_with fail
    refine (Ck5.out _ _ (by simp)).mono ?_
    rintro e w' ⟨rfl, rfl⟩
    go_wp2_with fail
    refine (CkN.out _ _ (by simp)).mono ?_
    rintro e w' ⟨rfl, rfl⟩
    go_wp2_with fail
    refine (CkRam.out _ _ (by simp)).mono ?_
    rintro e w' ⟨rfl, rfl⟩
    go_wp2_with fail
    refine (CkBat.out _ _ (by simp)).mono ?_
    rintro e w' ⟨rfl, rfl⟩
    go_wp2_with fail
    refine (CkClk.out _ _ (by simp)).mono ?_
    rintro e w' ⟨rfl, rfl⟩
    go_wp2
    exact bodyPost_ret (v := .tuple #[.agg #[.string ⟨#[]⟩, .int .u8 0, .int .i64 0, .bool false, .bool false, .bool false, .int .i64 0, .int .i64 0, .int .u8 0, .int .u16 0], .bool false]) (by simp [results, Tryd.results20, go_sem]) rfl ⟨by rw [EK.out, EH.out]; rfl, ((((((((((Grown.refl w).alloc _ _).alloc _ _).alloc _ _).alloc _ _).alloc _ _).alloc _ _).alloc _ _).alloc _ _).alloc _ _)⟩
end Go.Proofs.YtfmehkaojfjdjaaDoor
