/- Layer 20's law Nobody. -/
import Derived.Test.YtfndpikcodjajabDoorSw20
namespace Go.Proofs.YtfndpikcodjajabDoor
open Go.RowKit
set_option linter.unusedVariables false
set_option linter.unusedSimpArgs false

/-- A memory that is nil, or that nobody made. -/
def NoMem (w : World) (v : Value) : Prop := Calls Tryd.prog 18 #[v] w fun e w' => e = .returned (.bool true) ∧ w' = w
section
variable {v : Value} {w : World}
theorem nput20 (a x : Int) (h : ∀ u, Kept w u → NoMem u v) (lay : Lay20 w) (a0 : 0 ≤ a) (a1 : a ≤ 65535) : Calls Tryd.prog 5 #[v, .int .u16 a, .int .u8 x] w fun e w' => e = .returned (.tuple #[]) ∧ Kept w w' :=
  pputs20 0 v _ (regP a) a x w _ (fun w' => Kept w w') (preg_nat a w lay a0 a1) (fun u k => pheld_none v _ u (h u k)) (fun u k => (pput_no _ x u (by omega)).mono fun e y ⟨e1, e2⟩ => ⟨e1, by rw [e2]; exact k⟩)
theorem nobj20 (i x : Int) (h : NoMem w v) (i0 : 0 ≤ i) (i1 : i ≤ 255) : Calls Tryd.prog 6 #[v, .int .u8 i, .int .u8 x] w fun e w' => e = .returned (.tuple #[]) ∧ w' = w :=
  pobjs20 v i x w _ (fun w' => w' = w) i0 i1 (pheld_none v 4 w h) (pput_no i x w i0)
theorem nget20 (a : Int) (h : ∀ u, Kept w u → NoMem u v) (lay : Lay20 w) (a0 : 0 ≤ a) (a1 : a ≤ 65535) : Calls Tryd.prog 7 #[v, .int .u16 a] w fun e w' => e = .returned (.int .u8 255) ∧ Kept w w' :=
  pget_no v _ (regP a) a w (preg_nat a w lay a0 a1) (fun u k => pheld_none v _ u (h u k))
theorem nvram20 (h : NoMem w v) : Calls Tryd.prog 8 #[v] w fun e w' => e = .returned (.slice none 0 0) ∧ w' = w := pvrams20 v _ _ w (fun w' => w' = w) (pheld_none v 1 w h) (pcopy_no w)
theorem noam20 (h : NoMem w v) : Calls Tryd.prog 9 #[v] w fun e w' => e = .returned (.slice none 0 0) ∧ w' = w := poams20 v _ _ w (fun w' => w' = w) (pheld_none v 4 w h) (pcopy_no w)
end
set_option maxRecDepth 100000 in
set_option maxHeartbeats 4000000 in
theorem nobody20 (a x : Int) (w : World) (lay : Lay20 w) (a0 : 0 ≤ a) (a1 : a ≤ 65535) : Calls Tryd.prog 3 #[.int .u16 a, .int .u8 x] w fun e w' => e = .returned (.bool true) ∧ Kept w w' := by
  have LY0 : Hid (∀ u, Kept w u → Lay20 u) := fun u k => lay20_kept lay k
  have SH := hid (kshown20 w lay)
  obtain ⟨Z, hZ⟩ : ∃ Z, (memL false M0).toArray = Z := ⟨_, rfl⟩
  have hz0 : ∀ u, (zeroValue 29).run Tryd.prog u = .ok (.agg Z) u := fun u => by rw [← hZ]; exact zero20 u
  have hz1 : ¬ Z = #[] := by rw [← hZ]; intro q; have := congrArg Array.size q; rw [List.size_toArray, memL_len M0_len] at this; simp at this
  have BZ : Hid (∀ u : World, Blk (u.alloc (.cells Z 29)) u.heap.size 29 (memL false M0)) := fun u => by rw [← hZ]; exact blk_new u _ _
  clear hZ lay
  go_enter Tryd.func3, Tryd.ntmps3
  go_wp2_with fail
  refine SH.out.mono ?_
  rintro e u0 ⟨rfl, k0⟩
  have KW : Hid (Kept w (u0.alloc (.cells Z 29))) := k0.alloc _
  have BQ := hid (BZ.out u0)
  clear k0 SH BZ
  go_wp2_with fail
  obtain ⟨b, hb⟩ : ∃ b, u0.heap.size = b := ⟨_, rfl⟩
  rw [hb] at BQ
  try rw [hb]
  obtain ⟨U, hU⟩ : ∃ U, u0.alloc (.cells Z 29) = U := ⟨_, rfl⟩
  rw [hU] at KW BQ
  try rw [hU]
  have LY : Hid (∀ u, Kept U u → Lay20 u) := fun u k => LY0.out u (KW.out.trans k)
  clear LY0 hb hU hz0 hz1
  have w8 : IntKind.u8.wrap a = a % 256 := by rw [IntKind.wrap_u8]
  go_loopw [8] (fun iv wr => ∃ j : Nat, j ≤ 2 ∧ iv = .int .i64 (j : Int) ∧ Kept U wr) (fun iv _ => 2 - (intOf iv).toNat)
  case atStart => exact ⟨0, by decide, rfl, Kept.refl U⟩
  case round =>
    obtain ⟨j, hj, rfl, hk⟩ := hrel
    have K0 := hid hk
    clear hk
    by_cases h0 : j = 0
    · subst h0
      have NV : Hid (∀ u, Kept U u → NoMem u (.pointer none)) := fun u _ => pnob_nil u
      go_wp2_with fail
      refine (nput20 a x (fun u k => NV.out _ (K0.out.trans k)) (LY.out _ K0.out) a0 a1).mono ?_
      rintro e v1 ⟨rfl, k1⟩
      have K1 := hid (K0.out.trans k1)
      clear k1
      go_wp2_with fail
      refine (nobj20 (a % 256) x (NV.out _ K1.out) (by omega) (by omega)).mono ?_
      rintro e v2 ⟨rfl, e2⟩
      subst e2
      go_wp2_with fail
      refine (nget20 a (fun u k => NV.out _ (K1.out.trans k)) (LY.out _ K1.out) a0 a1).mono ?_
      rintro e v3 ⟨rfl, k3⟩
      have K3 := hid (K1.out.trans k3)
      clear k3
      go_wp2_with fail
      refine (nvram20 (NV.out _ K3.out)).mono ?_
      rintro e v4 ⟨rfl, e4⟩
      subst e4
      go_wp2_with fail
      refine (noam20 (NV.out _ K3.out)).mono ?_
      rintro e v5 ⟨rfl, e5⟩
      subst e5
      go_wp2_with fail
      go_roundw
      case rel => exact ⟨1, by omega, by first | go_num | rfl, K3.out⟩
      case measure => first | omega | (simp; omega) | (simp [intOf]; done) | (simp [intOf]; omega)
    · by_cases h1 : j = 1
      · subst h1
        have NV : Hid (∀ u, Kept U u → NoMem u (.pointer (some ⟨b, 0, none⟩))) := fun u k => pnob20 b false u (blk_cell (blk_kept k BQ.out) 0) (blk_lt (blk_kept k BQ.out))
        go_wp2_with fail
        refine (nput20 a x (fun u k => NV.out _ (K0.out.trans k)) (LY.out _ K0.out) a0 a1).mono ?_
        rintro e v1 ⟨rfl, k1⟩
        have K1 := hid (K0.out.trans k1)
        clear k1
        go_wp2_with fail
        refine (nobj20 (a % 256) x (NV.out _ K1.out) (by omega) (by omega)).mono ?_
        rintro e v2 ⟨rfl, e2⟩
        subst e2
        go_wp2_with fail
        refine (nget20 a (fun u k => NV.out _ (K1.out.trans k)) (LY.out _ K1.out) a0 a1).mono ?_
        rintro e v3 ⟨rfl, k3⟩
        have K3 := hid (K1.out.trans k3)
        clear k3
        go_wp2_with fail
        refine (nvram20 (NV.out _ K3.out)).mono ?_
        rintro e v4 ⟨rfl, e4⟩
        subst e4
        go_wp2_with fail
        refine (noam20 (NV.out _ K3.out)).mono ?_
        rintro e v5 ⟨rfl, e5⟩
        subst e5
        go_wp2_with fail
        go_roundw
        case rel => exact ⟨2, by omega, by first | go_num | rfl, K3.out⟩
        case measure => first | omega | (simp; omega) | (simp [intOf]; done) | (simp [intOf]; omega)
      · have g1 : decide ((j : Int) < 2) = false := decide_eq_false (by omega)
        have g2 : decide (j < 2) = false := decide_eq_false (by omega)
        go_wp2
        go_ret
        exact ⟨rfl, KW.out.trans K0.out⟩
end Go.Proofs.YtfndpikcodjajabDoor
