/- The order's closure, over this seat's translation. -/
import Derived.Test.YtecgpdjgbdobbabOb16
import Derived.Test.YtecgpdjgbdobbabSt16b
import Derived.Test.YtecgpdjgbdobbabLib16
import Derived.Test.YtecgpdjgbdobbabChecked
import Derived.Shelf.SlSortCmp.KitK
import Derived.Deep.LoopGhost
import Derived.BigRegion
namespace Go.Proofs.Ytecgpdjgbdobbab
open Go.RowKit Go.Sort Go.Lib Go.Shelf
set_option linter.unusedVariables false
set_option linter.unusedSimpArgs false

set_option maxRecDepth 100000 in
set_option maxHeartbeats 4000000 in
theorem nan16 (x : Int) (w : World) : Calls Try.prog 46 #[.int .u8 x] w fun e w' => e = .returned (.bool false) ∧ w' = w := by
  go_enter Try.func46, Try.ntmps46
  go_wp2
  go_ret
  exact ⟨by simp, rfl⟩
set_option maxRecDepth 100000 in
set_option maxHeartbeats 4000000 in
theorem cmp16 (x y : Int) (w : World) : Calls Try.prog 39 #[.int .u8 x, .int .u8 y] w fun e w' => e = .returned (.int .i64 (cmpI x y)) ∧ w' = w := by
  have N := hid (fun z u => nan16 z u)
  rcases Int.lt_trichotomy x y with h | h | h
  · have E : cmpI x y = -1 := by unfold cmpI; rw [if_pos h]
    rw [E]; clear E
    have g1 : decide (x < y) = true := decide_eq_true h
    have g2 : decide (y < x) = false := decide_eq_false (by omega)
    clear h
    go_enter Try.func39, Try.ntmps39
    go_wp2_with (go_at_call 46; refine (N.out _ _).mono ?_; rintro e u ⟨rfl, rfl⟩)
    go_ret
    exact ⟨rfl, rfl⟩
  · subst h
    have E : cmpI x x = 0 := by unfold cmpI; rw [if_neg (by omega), if_neg (by omega)]
    rw [E]; clear E
    have g1 : decide (x < x) = false := decide_eq_false (by omega)
    go_enter Try.func39, Try.ntmps39
    go_wp2_with (go_at_call 46; refine (N.out _ _).mono ?_; rintro e u ⟨rfl, rfl⟩)
    go_ret
    exact ⟨rfl, rfl⟩
  · have E : cmpI x y = 1 := by unfold cmpI; rw [if_neg (by omega), if_pos h]
    rw [E]; clear E
    have g1 : decide (x < y) = false := decide_eq_false (by omega)
    have g2 : decide (y < x) = true := decide_eq_true h
    clear h
    go_enter Try.func39, Try.ntmps39
    go_wp2_with (go_at_call 46; refine (N.out _ _).mono ?_; rintro e u ⟨rfl, rfl⟩)
    go_ret
    exact ⟨rfl, rfl⟩
set_option maxRecDepth 100000 in
set_option maxHeartbeats 4000000 in
theorem ord16 (a b : Ob) (w : World) : Calls Try.prog 38 #[.agg (obC a).toArray, .agg (obC b).toArray] w fun e w' => e = .returned (.int .i64 (cf16 a b)) ∧ ∃ os, w' = Go.Sort.grow w os := by
  have C := hid (fun x y u => cmp16 x y u)
  obtain ⟨⟨a0, l0⟩, ⟨a1, l1⟩, ⟨a2, l2⟩, ⟨a3, l3⟩, ⟨a4, l4⟩⟩ := a
  obtain ⟨⟨b0, m0⟩, ⟨b1, m1⟩, ⟨b2, m2⟩, ⟨b3, m3⟩, ⟨b4, m4⟩⟩ := b
  simp only [obC, b8, cf16]
  have G : ∀ (x y : Obj), ∃ os, (w.alloc x).alloc y = Go.Sort.grow w os := fun x y => ⟨#[x] ++ #[y], by rw [alloc_eq_grow, alloc_eq_grow, grow_grow]⟩
  have G := hid G
  by_cases h : a1 = b1
  · rw [if_pos h]
    subst h
    go_enter Try.func38, Try.ntmps38
    go_wp2_with (go_at_call 39; refine (C.out _ _ _).mono ?_; rintro e u ⟨rfl, rfl⟩)
    go_ret
    exact ⟨rfl, G.out _ _⟩
  · rw [if_neg h]
    have g1 : ((a1 : Int) == (b1 : Int)) = false := by simp; omega
    go_enter Try.func38, Try.ntmps38
    go_wp2_with (go_at_call 39; refine (C.out _ _ _).mono ?_; rintro e u ⟨rfl, rfl⟩)
    go_ret
    exact ⟨rfl, G.out _ _⟩
theorem lays16 (blk off n : Nat) (w : World) : CmpLays Try.prog 38 #[] obC 5 cf16 blk off n w := fun m os dk hs x y => by
  refine (ord16 x y _).mono ?_
  rintro e u ⟨rfl, os2, rfl⟩
  exact ⟨rfl, 0, os2, rfl⟩
theorem lt16 (x y : Ob) : ltOf cf16 x y = true → key16 x < key16 y := fun h => (cf_neg x y).1 (by unfold ltOf at h; simpa using h)
theorem swo16 : SWO (ltOf cf16) := by
  have e : ∀ x y, ltOf cf16 x y = decide (key16 x < key16 y) := fun x y => by
    unfold ltOf
    by_cases h : key16 x < key16 y
    · rw [decide_eq_true h, decide_eq_true ((cf_neg x y).2 h)]
    · rw [decide_eq_false h, decide_eq_false (fun q => h ((cf_neg x y).1 q))]
  refine ⟨fun x => ?_, fun x y z h1 h2 => ?_, fun x y z h1 h2 => ?_⟩
  · rw [e]; simp
  · rw [e] at *; simp at *; omega
  · rw [e] at *; simp at *; omega
/-- What a part that was put in order by insertion is. -/
theorem ins_pure (d : Array Ob) (a b : Nat) (h : a ≤ b) (hb : b ≤ d.size) : Mv key16 d (insertionSort (ltOf cf16) d a b) a b ∧ Srt key16 (insertionSort (ltOf cf16) d a b) a b := by
  refine ⟨mv_outer _ lt16 a b _ _ d (Nat.le_refl _) hb, fun i j h1 h2 h3 => ?_⟩
  have := (insertionSort_holds (lt := ltOf cf16) swo16 d a b h hb).2 i j h1 h2 h3
  refine Nat.le_of_not_lt fun q => ?_
  have t : ltOf cf16 (insertionSort (ltOf cf16) d a b)[j]! (insertionSort (ltOf cf16) d a b)[i]! = true := decide_eq_true ((cf_neg _ _).2 q)
  rw [this] at t
  cases t
abbrev W16 (w0 : World) (blk off : Nat) (d : Array Ob) (W : World) : Prop := SWK obC 5 w0 blk off d W
theorem rowK16 {w0 : World} {blk off : Nat} {d0 : Array Ob} (hH : HoldsK obC 5 w0 blk off d0) (hb : blk < w0.heap.size) : RowK obC 5 w0 blk off d0 := ⟨fun _ => rfl, obC_one, hH, hb⟩
theorem insC16 (blk off cap a b : Nat) (d0 d : Array Ob) (w0 w : World) (R : RowK obC 5 w0 blk off d0) (hs : d.size = d0.size) (S : W16 w0 blk off d w) (hab : a ≤ b) (hb : b ≤ d.size) (hsz : d.size ≤ 1000) :
    Calls Try.prog 47 #[.slice (some ⟨blk, off, none⟩) d.size cap, .int .i64 a, .int .i64 b, .func (.func 38) #[] #[]] w fun e w' => e = .returned (.tuple #[]) ∧ ∃ d2 : Array Ob, W16 w0 blk off d2 w' ∧ Mv key16 d d2 a b ∧ Srt key16 d2 a b := by
  have eg : ∀ args w, (callFunc 38 args).run Try.prog w = .ok (.enter 38 args) w := enters_of Try.func38 (by kernel_rfl) rfl
  have H := AnyQ.insertionSortCmpFunc Try.ins16 5 Try.isAgg52 Try.sizeOf52 obC (fun _ => rfl) obC_one cf16 38 #[] blk off cap a b d w eg (lays16 _ _ _ _) (S.holds R.hblk R.hH hs) (S.lt R.hblk) hab hb (by omega)
  refine Calls.mono H ?_
  rintro e u ⟨rfl, n, os, rfl⟩
  obtain ⟨p1, p2⟩ := ins_pure d a b hab hb
  exact ⟨rfl, _, S.on R.hblk n _ os p1.size, p1, p2⟩
end Go.Proofs.Ytecgpdjgbdobbab
