/- The order's closure, over this seat's translation. Parts of a row changed for each other, and turned about: slices' own, over a program of which the types are facts. Two parts in order brought together: slices' own symMerge, over a program of which the types are facts. -/
import Derived.Test.YtecgpdjgbdobbabG15
import Derived.Test.YtecgpdjgbdobbabG02
import Derived.Test.YtecgpdjgbdobbabG04
import Derived.Test.YtecgpdjgbdobbabChecked
import Derived.Shelf.SlSortCmp.KitK
import Derived.Deep.LoopGhost
import Derived.BigRegion
namespace Go.Proofs.Ytecgpdjgbdobbab
open Go.RowKit Go.Sort Go.Lib Go.Shelf
set_option linter.unusedVariables false
set_option linter.unusedSimpArgs false

set_option maxRecDepth 100000 in
set_option maxHeartbeats 4000000 in
theorem nan16 (x : Int) (w : World) : Calls Try.prog 46 #[.int .u8 x] w fun e w' => e = .returned (.bool false) ∧ w' = w := by
  go_enter Try.func46, Try.ntmps46
  go_wp2
  go_ret
  exact ⟨by simp, rfl⟩
set_option maxRecDepth 100000 in
set_option maxHeartbeats 4000000 in
theorem cmp16 (x y : Int) (w : World) : Calls Try.prog 39 #[.int .u8 x, .int .u8 y] w fun e w' => e = .returned (.int .i64 (cmpI x y)) ∧ w' = w := by
  have N := hid (fun z u => nan16 z u)
  rcases Int.lt_trichotomy x y with h | h | h
  · have E : cmpI x y = -1 := by unfold cmpI; rw [if_pos h]
    rw [E]; clear E
    have g1 : decide (x < y) = true := decide_eq_true h
    have g2 : decide (y < x) = false := decide_eq_false (by omega)
    clear h
    go_enter Try.func39, Try.ntmps39
    go_wp2_with (go_at_call 46; refine (N.out _ _).mono ?_; rintro e u ⟨rfl, rfl⟩)
    go_ret
    exact ⟨rfl, rfl⟩
  · subst h
    have E : cmpI x x = 0 := by unfold cmpI; rw [if_neg (by omega), if_neg (by omega)]
    rw [E]; clear E
    have g1 : decide (x < x) = false := decide_eq_false (by omega)
    go_enter Try.func39, Try.ntmps39
    go_wp2_with (go_at_call 46; refine (N.out _ _).mono ?_; rintro e u ⟨rfl, rfl⟩)
    go_ret
    exact ⟨rfl, rfl⟩
  · have E : cmpI x y = 1 := by unfold cmpI; rw [if_neg (by omega), if_pos h]
    rw [E]; clear E
    have g1 : decide (x < y) = false := decide_eq_false (by omega)
    have g2 : decide (y < x) = true := decide_eq_true h
    clear h
    go_enter Try.func39, Try.ntmps39
    go_wp2_with (go_at_call 46; refine (N.out _ _).mono ?_; rintro e u ⟨rfl, rfl⟩)
    go_ret
    exact ⟨rfl, rfl⟩
set_option maxRecDepth 100000 in
set_option maxHeartbeats 4000000 in
theorem ord16 (a b : Ob) (w : World) : Calls Try.prog 38 #[.agg (obC a).toArray, .agg (obC b).toArray] w fun e w' => e = .returned (.int .i64 (cf16 a b)) ∧ ∃ os, w' = Go.Sort.grow w os := by
  have C := hid (fun x y u => cmp16 x y u)
  obtain ⟨⟨a0, l0⟩, ⟨a1, l1⟩, ⟨a2, l2⟩, ⟨a3, l3⟩, ⟨a4, l4⟩⟩ := a
  obtain ⟨⟨b0, m0⟩, ⟨b1, m1⟩, ⟨b2, m2⟩, ⟨b3, m3⟩, ⟨b4, m4⟩⟩ := b
  simp only [obC, b8, cf16]
  have G : ∀ (x y : Obj), ∃ os, (w.alloc x).alloc y = Go.Sort.grow w os := fun x y => ⟨#[x] ++ #[y], by rw [alloc_eq_grow, alloc_eq_grow, grow_grow]⟩
  have G := hid G
  by_cases h : a1 = b1
  · rw [if_pos h]
    subst h
    go_enter Try.func38, Try.ntmps38
    go_wp2_with (go_at_call 39; refine (C.out _ _ _).mono ?_; rintro e u ⟨rfl, rfl⟩)
    go_ret
    exact ⟨rfl, G.out _ _⟩
  · rw [if_neg h]
    have g1 : ((a1 : Int) == (b1 : Int)) = false := by simp; omega
    go_enter Try.func38, Try.ntmps38
    go_wp2_with (go_at_call 39; refine (C.out _ _ _).mono ?_; rintro e u ⟨rfl, rfl⟩)
    go_ret
    exact ⟨rfl, G.out _ _⟩
theorem lays16 (blk off n : Nat) (w : World) : CmpLays Try.prog 38 #[] obC 5 cf16 blk off n w := fun m os dk hs x y => by
  refine (ord16 x y _).mono ?_
  rintro e u ⟨rfl, os2, rfl⟩
  exact ⟨rfl, 0, os2, rfl⟩
theorem lt16 (x y : Ob) : ltOf cf16 x y = true → key16 x < key16 y := fun h => (cf_neg x y).1 (by unfold ltOf at h; simpa using h)
theorem swo16 : SWO (ltOf cf16) := by
  have e : ∀ x y, ltOf cf16 x y = decide (key16 x < key16 y) := fun x y => by
    unfold ltOf
    by_cases h : key16 x < key16 y
    · rw [decide_eq_true h, decide_eq_true ((cf_neg x y).2 h)]
    · rw [decide_eq_false h, decide_eq_false (fun q => h ((cf_neg x y).1 q))]
  refine ⟨fun x => ?_, fun x y z h1 h2 => ?_, fun x y z h1 h2 => ?_⟩
  · rw [e]; simp
  · rw [e] at *; simp at *; omega
  · rw [e] at *; simp at *; omega
/-- What a part that was put in order by insertion is. -/
theorem ins_pure (d : Array Ob) (a b : Nat) (h : a ≤ b) (hb : b ≤ d.size) : Mv key16 d (insertionSort (ltOf cf16) d a b) a b ∧ Srt key16 (insertionSort (ltOf cf16) d a b) a b := by
  refine ⟨mv_outer _ lt16 a b _ _ d (Nat.le_refl _) hb, fun i j h1 h2 h3 => ?_⟩
  have := (insertionSort_holds (lt := ltOf cf16) swo16 d a b h hb).2 i j h1 h2 h3
  refine Nat.le_of_not_lt fun q => ?_
  have t : ltOf cf16 (insertionSort (ltOf cf16) d a b)[j]! (insertionSort (ltOf cf16) d a b)[i]! = true := decide_eq_true ((cf_neg _ _).2 q)
  rw [this] at t
  cases t
abbrev W16 (w0 : World) (blk off : Nat) (d : Array Ob) (W : World) : Prop := SWK obC 5 w0 blk off d W
theorem rowK16 {w0 : World} {blk off : Nat} {d0 : Array Ob} (hH : HoldsK obC 5 w0 blk off d0) (hb : blk < w0.heap.size) : RowK obC 5 w0 blk off d0 := ⟨fun _ => rfl, obC_one, hH, hb⟩
theorem insC16 (blk off cap a b : Nat) (d0 d : Array Ob) (w0 w : World) (R : RowK obC 5 w0 blk off d0) (hs : d.size = d0.size) (S : W16 w0 blk off d w) (hab : a ≤ b) (hb : b ≤ d.size) (hsz : d.size ≤ 1000) :
    Calls Try.prog 47 #[.slice (some ⟨blk, off, none⟩) d.size cap, .int .i64 a, .int .i64 b, .func (.func 38) #[] #[]] w fun e w' => e = .returned (.tuple #[]) ∧ ∃ d2 : Array Ob, W16 w0 blk off d2 w' ∧ Mv key16 d d2 a b ∧ Srt key16 d2 a b := by
  have eg : ∀ args w, (callFunc 38 args).run Try.prog w = .ok (.enter 38 args) w := enters_of Try.func38 (by kernel_rfl) rfl
  have H := AnyQ.insertionSortCmpFunc Try.ins16 5 Try.isAgg52 Try.sizeOf52 obC (fun _ => rfl) obC_one cf16 38 #[] blk off cap a b d w eg (lays16 _ _ _ _) (S.holds R.hblk R.hH hs) (S.lt R.hblk) hab hb (by omega)
  refine Calls.mono H ?_
  rintro e u ⟨rfl, n, os, rfl⟩
  obtain ⟨p1, p2⟩ := ins_pure d a b hab hb
  exact ⟨rfl, _, S.on R.hblk n _ os p1.size, p1, p2⟩
end Go.Proofs.Ytecgpdjgbdobbab
namespace Go.Proofs.Ytecgpdjgbdobbab
open Go.RowKit Go.Sort Go.Lib Go.Shelf
set_option linter.unusedVariables false
set_option linter.unusedSimpArgs false

structure Open16 (P : Program) (k : Nat) : Prop where
  mixed : P.follows .mixedOrders = true
  tn0 : P.underlying 0 = some (TypeDesc.tuple #[])
  an0 : ∀ w, (isAgg 0).run P w = .ok false w
  zn0 : ∀ w, (Go.sizeOf 0).run P w = .ok 1 w
  vn0 : ∀ w, (zeroValue 0).run P w = .ok (Value.tuple #[]) w
  tni : P.underlying 3 = some (TypeDesc.int IntKind.i64)
  ani : ∀ w, (isAgg 3).run P w = .ok false w
  zni : ∀ w, (Go.sizeOf 3).run P w = .ok 1 w
  vni : ∀ w, (zeroValue 3).run P w = .ok (Value.int IntKind.i64 0) w
  tnb : P.underlying 4 = some (TypeDesc.bool)
  anb : ∀ w, (isAgg 4).run P w = .ok false w
  znb : ∀ w, (Go.sizeOf 4).run P w = .ok 1 w
  vnb : ∀ w, (zeroValue 4).run P w = .ok (Value.bool false) w
  tns : P.underlying 63 = some (TypeDesc.slice 52)
  ans : ∀ w, (isAgg 63).run P w = .ok false w
  zns : ∀ w, (Go.sizeOf 63).run P w = .ok 1 w
  vns : ∀ w, (zeroValue 63).run P w = .ok (Value.slice none 0 0) w
  tnf : P.underlying 78 = some (TypeDesc.func #[52, 52] #[3] false)
  anf : ∀ w, (isAgg 78).run P w = .ok false w
  znf : ∀ w, (Go.sizeOf 78).run P w = .ok 1 w
  vnf : ∀ w, (zeroValue 78).run P w = .ok (Value.nilFunc) w
  tnu : P.underlying 75 = some (TypeDesc.int IntKind.u64)
  anu : ∀ w, (isAgg 75).run P w = .ok false w
  znu : ∀ w, (Go.sizeOf 75).run P w = .ok 1 w
  vnu : ∀ w, (zeroValue 75).run P w = .ok (Value.int IntKind.u64 0) w
  aO : ∀ w, (isAgg 52).run P w = .ok true w
  zO : ∀ w, (Go.sizeOf 52).run P w = .ok k w
  fsw : P.funcs[50]? = some Try.f50
  fro : P.funcs[49]? = some Try.f49
  fsy : P.funcs[48]? = some Try.f48
  fst : P.funcs[45]? = some Try.f45
theorem open16 : Open16 Try.prog 5 := {
  mixed := by kernel_rfl
  tn0 := Try.underlying0
  an0 := Try.isAgg0
  zn0 := Try.sizeOf0
  vn0 := Try.zeroValue0
  tni := Try.underlying3
  ani := Try.isAgg3
  zni := Try.sizeOf3
  vni := Try.zeroValue3
  tnb := Try.underlying4
  anb := Try.isAgg4
  znb := Try.sizeOf4
  vnb := Try.zeroValue4
  tns := Try.underlying63
  ans := Try.isAgg63
  zns := Try.sizeOf63
  vns := Try.zeroValue63
  tnf := Try.underlying78
  anf := Try.isAgg78
  znf := Try.sizeOf78
  vnf := Try.zeroValue78
  tnu := Try.underlying75
  anu := Try.isAgg75
  znu := Try.sizeOf75
  vnu := Try.zeroValue75
  aO := Try.isAgg52
  zO := Try.sizeOf52
  fsw := Try.func50
  fro := Try.func49
  fsy := Try.func48
  fst := Try.func45 }
section
variable {P : Program} {k : Nat}
set_option maxRecDepth 1000000 in
set_option maxHeartbeats 1000000 in
theorem swapR16 (L : Open16 P k) (blk off cap a b n : Nat) (cv : Value) (N : Nat) (d0 d : Array Ob) (w0 w : World) (R : RowK obC k w0 blk off d0) (h0 : d0.size = N) (hN : d.size = N) (S : SWK obC k w0 blk off d w) (h1 : a + n ≤ b) (h2 : b + n ≤ N) (hsz : N ≤ 1000) :
    Calls P 50 #[.slice (some ⟨blk, off, none⟩) N cap, .int .i64 a, .int .i64 b, .int .i64 n, cv] w fun e w' => e = .returned (.tuple #[]) ∧ ∃ d2 : Array Ob, SWK obC k w0 blk off d2 w' ∧ d2.size = N ∧ ∀ t, t < N → d2[t]! = swpI d a b n t := by
  have mixed := L.mixed; have tn0 := L.tn0; have an0 := L.an0; have zn0 := L.zn0; have vn0 := L.vn0; have tni := L.tni; have ani := L.ani; have zni := L.zni; have vni := L.vni; have tnb := L.tnb; have anb := L.anb; have znb := L.znb; have vnb := L.vnb; have tns := L.tns; have ans := L.ans; have zns := L.zns; have vns := L.vns; have tnf := L.tnf; have anf := L.anf; have znf := L.znf; have vnf := L.vnf; have tnu := L.tnu; have anu := L.anu; have znu := L.znu; have vnu := L.vnu; have aO := L.aO; have zO := L.zO
  have FG := L.fsw
  have S0 : Aside (SWK obC k w0 blk off d w) := S
  clear S
  go_enter FG, Try.ntmps50
  go_wp2
  go_loopg [10] n (fun kx s8 wr => ∃ (i : Nat) (dk : Array Ob), s8 = .int .i64 i ∧ i ≤ n ∧ n - i ≤ kx ∧ dk.size = N ∧ Aside (SWK obC k w0 blk off dk wr) ∧ Aside (∀ t, t < N → dk[t]! = swpI d a b i t))
  case atStart => exact ⟨0, d, rfl, Nat.zero_le _, by omega, hN, S0, fun t _ => (swp_none d a b t).symm⟩
  case round =>
    clear S0
    obtain ⟨i, dk, rfl, hi, hkx, hds, S1, E1⟩ := hrel
    by_cases hlt : i < n
    · have hltz : (i : Int) < (n : Int) := by omega
      have E2 : Aside (∀ t, t < N → (swp dk (a + i) (b + i))[t]! = swpI d a b (i + 1) t) := by subst hN; exact swp_next hds E1.out (by omega) (by omega)
      clear E1
      obtain ⟨A, hA⟩ : ∃ A, A = a + i := ⟨_, rfl⟩
      obtain ⟨B, hB⟩ : ∃ B, B = b + i := ⟨_, rfl⟩
      rw [← hA, ← hB] at E2
      have ra : IntKind.i64.wrap ((a : Int) + (i : Int)) = (A : Int) := by rw [IntKind.wrap_i64]; omega
      have rb : IntKind.i64.wrap ((b : Int) + (i : Int)) = (B : Int) := by rw [IntKind.wrap_i64]; omega
      have bA : (A : Int) < (N : Int) := by omega
      have bB : (B : Int) < (N : Int) := by omega
      clear hA hB
      have S2 : Aside (SWK obC k w0 blk off (swp dk A B) ((wr.drew.setCells blk (off + A * k) (obC dk[B]!)).setCells blk (off + B * k) (obC dk[A]!))) := S1.out.swapped R A B (by omega) (by omega)
      have l1 := S1.out.ld1 R (by omega) P A (by omega)
      have l2 := S1.out.ld1 R (by omega) P B (by omega)
      have s1 := S1.out.st1 R (by omega) P A (by omega) dk[B]!
      have s2 := S1.out.st2 R (by omega) P A B (by omega) (by omega) dk[B]! dk[A]!
      have n1 : (obC dk[A]!).length = k := R.hk _
      have n2 : (obC dk[B]!).length = k := R.hk _
      generalize obC dk[A]! = cI at S2 l1 s2 n1
      generalize obC dk[B]! = cJ at S2 l2 s1 s2 n2
      clear S1
      go_wp2_with fail
      go_big_region_o
      clear l1 l2 s1 s2
      generalize (wr.drew.setCells blk (off + A * k) cJ).setCells blk (off + B * k) cI = w2 at S2 ⊢
      go_wp2
      go_roundg (n - (i + 1))
      case measure => omega
      case rel => exact ⟨i + 1, swp dk A B, by go_num, by omega, by omega, by rw [size_swp]; exact hds, S2, E2⟩
    · go_wp2
      go_end0
      obtain rfl : i = n := by omega
      exact ⟨rfl, dk, S1.out, hds, E1.out⟩
set_option maxRecDepth 1000000 in
set_option maxHeartbeats 1000000 in
theorem rot16 (L : Open16 P k) (blk off cap a m b : Nat) (cv : Value) (N : Nat) (d0 d : Array Ob) (w0 w : World) (R : RowK obC k w0 blk off d0) (h0 : d0.size = N) (hN : d.size = N) (S : SWK obC k w0 blk off d w) (h1 : a < m) (h2 : m < b) (h3 : b ≤ N) (hsz : N ≤ 1000) :
    Calls P 49 #[.slice (some ⟨blk, off, none⟩) N cap, .int .i64 a, .int .i64 m, .int .i64 b, cv] w fun e w' => e = .returned (.tuple #[]) ∧ ∃ d2 : Array Ob, SWK obC k w0 blk off d2 w' ∧ d2.size = N ∧ ∀ t, t < N → d2[t]! = rotI d a m b t := by
  have eS : ∀ args w, (callFunc 50 args).run P w = .ok (.enter 50 args) w := enters_of L.fsw (by kernel_rfl) rfl
  have HS : Aside (∀ (x y n : Nat) (dk : Array Ob) (u : World), dk.size = N → SWK obC k w0 blk off dk u → x + n ≤ y → y + n ≤ N → _) := fun x y n dk u q1 q2 q3 q4 => swapR16 L blk off cap x y n cv N d0 dk w0 u R h0 q1 q2 q3 q4 hsz
  have mixed := L.mixed; have tn0 := L.tn0; have an0 := L.an0; have zn0 := L.zn0; have vn0 := L.vn0; have tni := L.tni; have ani := L.ani; have zni := L.zni; have vni := L.vni; have tnb := L.tnb; have anb := L.anb; have znb := L.znb; have vnb := L.vnb; have tns := L.tns; have ans := L.ans; have zns := L.zns; have vns := L.vns; have tnf := L.tnf; have anf := L.anf; have znf := L.znf; have vnf := L.vnf; have tnu := L.tnu; have anu := L.anu; have znu := L.znu; have vnu := L.vnu; have aO := L.aO; have zO := L.zO
  have FG := L.fro
  have S0 : Aside (SWK obC k w0 blk off d w) := S
  clear S L
  obtain ⟨i0, hi0⟩ : ∃ x, x = m - a := ⟨_, rfl⟩
  obtain ⟨j0, hj0⟩ : ∃ x, x = b - m := ⟨_, rfl⟩
  have ri : IntKind.i64.wrap ((m : Int) - (a : Int)) = (i0 : Int) := by rw [IntKind.wrap_i64]; omega
  have rj : IntKind.i64.wrap ((b : Int) - (m : Int)) = (j0 : Int) := by rw [IntKind.wrap_i64]; omega
  have HI : Hid (i0 = m - a ∧ j0 = b - m) := ⟨hi0, hj0⟩
  clear hi0 hj0
  go_enter FG, Try.ntmps49
  go_wp2
  go_loopg [10, 11] (b - a) (fun kx s8 s9 wr => ∃ (i j : Nat) (dk : Array Ob), s8 = .int .i64 i ∧ s9 = .int .i64 j ∧ 0 < i ∧ 0 < j ∧ i ≤ m ∧ m + j ≤ N ∧ i + j ≤ kx ∧ dk.size = N ∧ Aside (SWK obC k w0 blk off dk wr) ∧ Aside (∀ t, t < N → rotI dk (m - i) m (m + j) t = rotI d a m b t))
  case atStart =>
    obtain ⟨e1, e2⟩ := HI.out
    refine ⟨i0, j0, d, rfl, rfl, by omega, by omega, by omega, by omega, by omega, hN, S0, (show ∀ t, t < N → _ from fun t _ => ?_)⟩
    rw [show m - i0 = a by omega, show m + j0 = b by omega]
  case round =>
    clear S0 ri rj HI
    obtain ⟨i, j, dk, rfl, rfl, i0, j0, im, jm, hkx, hds, S1, E1⟩ := hrel
    obtain ⟨A, hA⟩ : ∃ A, A = m - i := ⟨_, rfl⟩
    have ra : IntKind.i64.wrap ((m : Int) - (i : Int)) = (A : Int) := by rw [IntKind.wrap_i64]; omega
    rcases Nat.lt_trichotomy i j with hc | hc | hc
    · have g1 : ((i : Int) == (j : Int)) = false := by simp; omega
      have g2 : decide ((j : Int) < (i : Int)) = false := decide_eq_false (by omega)
      obtain ⟨B, hB⟩ : ∃ B, B = m + j - i := ⟨_, rfl⟩
      have rb2 : IntKind.i64.wrap ((m : Int) + (j : Int) - (i : Int)) = (B : Int) := by rw [IntKind.wrap_i64]; omega
      have rc : IntKind.i64.wrap ((m : Int) + (j : Int)) = (m : Int) + (j : Int) := by rw [IntKind.wrap_i64]; omega
      have rd : IntKind.i64.wrap ((j : Int) - (i : Int)) = ((j - i : Nat) : Int) := by rw [IntKind.wrap_i64]; omega
      have HC := HS.out A B i dk wr hds S1.out (by omega) (by omega)
      have HX : Aside (∀ c2 : Array Ob, c2.size = N → (∀ t, t < N → c2[t]! = swpI dk A B i t) → ∀ t, t < N → rotI c2 (m - i) m (m + (j - i)) t = rotI d a m b t) := fun c2 q1 q2 t ht => by
        rw [rot_lt (c := dk) (by omega) (fun t ht => by rw [q2 t (by omega), hA, hB]) hc i0 im (by omega) t (by omega)]; exact E1.out t ht
      clear S1 E1 hA hB HS
      generalize hz : (j - i : Nat) = z at rd HX
      have hz2 : Hid (j - i = z) := hz
      clear hz
      go_wp2_with (go_at_fn 50; refine HC.mono ?_; rintro e w1 ⟨rfl, c2, S2, q1, q2⟩; have S2 : Aside _ := S2; have E2 : Aside _ := HX.out c2 q1 q2; clear q2)
      go_roundg (i + z)
      case measure => have := hz2.out; omega
      case rel =>
        have := hz2.out
        exact ⟨i, z, c2, by go_num, by go_num, i0, by omega, im, by omega, by omega, q1, S2, E2⟩
    · subst hc
      have HC := HS.out A m i dk wr hds S1.out (by omega) (by omega)
      have HX : Aside (∀ c2 : Array Ob, (∀ t, t < N → c2[t]! = swpI dk A m i t) → ∀ t, t < N → c2[t]! = rotI d a m b t) := fun c2 q2 t ht => by
        rw [q2 t ht, hA, rot_eq im]; exact E1.out t ht
      clear S1 E1 hA HS
      go_wp2_with (go_at_fn 50; refine HC.mono ?_; rintro e w1 ⟨rfl, c2, S2, q1, q2⟩)
      go_end0
      exact ⟨rfl, c2, S2, q1, HX.out c2 q2⟩
    · have g1 : ((i : Int) == (j : Int)) = false := by simp; omega
      have g2 : decide ((j : Int) < (i : Int)) = true := decide_eq_true (by omega)
      have rd : IntKind.i64.wrap ((i : Int) - (j : Int)) = ((i - j : Nat) : Int) := by rw [IntKind.wrap_i64]; omega
      have HC := HS.out A m j dk wr hds S1.out (by omega) (by omega)
      have HX : Aside (∀ c2 : Array Ob, c2.size = N → (∀ t, t < N → c2[t]! = swpI dk A m j t) → ∀ t, t < N → rotI c2 (m - (i - j)) m (m + j) t = rotI d a m b t) := fun c2 q1 q2 t ht => by
        rw [rot_gt (c := dk) (by omega) (fun t ht => by rw [q2 t (by omega), hA]) hc j0 im (by omega) t (by omega)]; exact E1.out t ht
      clear S1 E1 hA HS
      generalize hz : (i - j : Nat) = z at rd HX
      have hz2 : Hid (i - j = z) := hz
      clear hz
      go_wp2_with (go_at_fn 50; refine HC.mono ?_; rintro e w1 ⟨rfl, c2, S2, q1, q2⟩; have S2 : Aside _ := S2; have E2 : Aside _ := HX.out c2 q1 q2; clear q2)
      go_roundg (z + j)
      case measure => have := hz2.out; omega
      case rel =>
        have := hz2.out
        exact ⟨z, j, c2, by go_num, by go_num, by omega, j0, by omega, jm, by omega, q1, S2, E2⟩
end
end Go.Proofs.Ytecgpdjgbdobbab
namespace Go.Proofs.Ytecgpdjgbdobbab
open Go.RowKit Go.Sort Go.Lib Go.Shelf
set_option linter.unusedVariables false
set_option linter.unusedSimpArgs false

section
variable {P : Program} {k : Nat}
set_option maxRecDepth 1000000 in
set_option maxHeartbeats 1000000 in
theorem sym_l (L : Open16 P k) (blk off cap a m b : Nat) (g : Nat) (cb : Array Value) (N : Nat) (d0 d : Array Ob) (w0 w : World) (R : RowK obC k w0 blk off d0) (h0 : d0.size = N) (hN : d.size = N) (S : SWK obC k w0 blk off d w) (eg : ∀ args w, (callFunc g args).run P w = .ok (.enter g args) w) (hC : CmpLays P g cb obC k cf16 blk off N w0) (h1 : m = a + 1) (h2 : m < b) (h3 : b ≤ N) (hsz : N ≤ 1000) (T1 : Srt key16 d a m) (T2 : Srt key16 d m b) :
    Calls P 48 #[.slice (some ⟨blk, off, none⟩) N cap, .int .i64 a, .int .i64 m, .int .i64 b, .func (.func g) #[] cb] w fun e w' => e = .returned (.tuple #[]) ∧ ∃ d2 : Array Ob, SWK obC k w0 blk off d2 w' ∧ d2.size = N ∧ Mv key16 d d2 a b ∧ Srt key16 d2 a b := by
  have mixed := L.mixed; have tn0 := L.tn0; have an0 := L.an0; have zn0 := L.zn0; have vn0 := L.vn0; have tni := L.tni; have ani := L.ani; have zni := L.zni; have vni := L.vni; have tnb := L.tnb; have anb := L.anb; have znb := L.znb; have vnb := L.vnb; have tns := L.tns; have ans := L.ans; have zns := L.zns; have vns := L.vns; have tnf := L.tnf; have anf := L.anf; have znf := L.znf; have vnf := L.vnf; have tnu := L.tnu; have anu := L.anu; have znu := L.znu; have vnu := L.vnu; have aO := L.aO; have zO := L.zO
  have FG := L.fsy
  have S0 : Aside (SWK obC k w0 blk off d w) := S
  have HC : Aside (CmpLays P g cb obC k cf16 blk off N w0) := hC
  have U2 : Aside (Srt key16 d m b) := T2
  clear S L hC T1 T2
  have r1 : IntKind.i64.wrap ((m : Int) - (a : Int)) = 1 := by rw [IntKind.wrap_i64]; omega
  have HM : Hid (m = a + 1) := h1
  have hm : a < m := by omega
  clear h1
  go_enter FG, Try.ntmps48
  go_wp2
  go_loopg [10, 11] (b - m) (fun kx s8 s9 wr => ∃ (i j : Nat), s8 = .int .i64 i ∧ s9 = .int .i64 j ∧ m ≤ i ∧ i ≤ j ∧ j ≤ b ∧ j - i ≤ kx ∧ Aside (SWK obC k w0 blk off d wr) ∧ Aside (∀ t, m ≤ t → t < i → key16 d[t]! < key16 d[a]!) ∧ Aside (∀ t, j ≤ t → t < b → key16 d[a]! ≤ key16 d[t]!))
  case atStart => exact ⟨m, b, rfl, rfl, Nat.le_refl _, by omega, Nat.le_refl _, by omega, S0, (show ∀ t, m ≤ t → t < m → _ from fun t q1 q2 => by omega), (show ∀ t, b ≤ t → t < b → _ from fun t q1 q2 => by omega)⟩
  case round =>
    clear S0
    obtain ⟨i, j, rfl, rfl, mi, ij, jb, hkx, S1, E1, E2⟩ := hrel
    by_cases hlt : i < j
    · have hltz : (i : Int) < (j : Int) := by omega
      obtain ⟨K, hK⟩ : ∃ K, K = i + j := ⟨_, rfl⟩
      obtain ⟨H, hH⟩ : ∃ H, H = K / 2 := ⟨_, rfl⟩
      have rK : IntKind.i64.wrap ((i : Int) + (j : Int)) = (K : Int) := by rw [IntKind.wrap_i64]; omega
      have rU : IntKind.u64.wrap (K : Int) = (K : Int) := by rw [IntKind.wrap_u64]; omega
      have rH : (K : Int) / 2 = (H : Int) := by omega
      have rV : IntKind.u64.wrap (H : Int) = (H : Int) := by rw [IntKind.wrap_u64]; omega
      have rW : IntKind.i64.wrap (H : Int) = (H : Int) := by rw [IntKind.wrap_i64]; omega
      have hH1 : i ≤ H := by omega
      have hH2 : H < j := by omega
      have bH : (H : Int) < (N : Int) := by omega
      have ba : (a : Int) < (N : Int) := by omega
      clear hK hH
      obtain ⟨xI, hxI⟩ : ∃ x, d[H]! = x := ⟨_, rfl⟩
      obtain ⟨xJ, hxJ⟩ : ∃ x, d[a]! = x := ⟨_, rfl⟩
      have lI := fun n os => S1.out.ld R (by omega) P H (by omega) n os
      have lJ := fun n os => S1.out.ld R (by omega) P a (by omega) n os
      have hcg := fun n os => S1.out.cmp HC.out (by omega) xI xJ n os
      have SG : Aside (∀ n os, SWK obC k w0 blk off d (grow (wr.drewN n) os)) := fun n os => S1.out.grown n os
      rw [hxI] at lI
      rw [hxJ] at lJ
      by_cases hlv : cf16 xI xJ < 0
      · have E3 : Aside (∀ t, m ≤ t → t < H + 1 → key16 d[t]! < key16 d[a]!) := fun t q1 q2 => by
          have z1 := (cf_neg _ _).1 hlv
          rw [← hxI, ← hxJ] at z1
          have z2 := srt_le U2.out (i := t) (j := H) q1 (by omega) (by omega)
          omega
        clear S1 E1 hxI hxJ
        go_wp2_with fail
        go_quiet_grown (first | (go_at_fn g; refine Calls.grown_of (hcg _ _)))
        have S2 : Aside _ := SG.out nq osq
        clear SG lI lJ hcg
        generalize grow (wr.drewN nq) osq = w2 at S2 ⊢
        go_wp2
        go_roundg (j - (H + 1))
        case measure => omega
        case rel => exact ⟨H + 1, j, by go_num, rfl, by omega, by omega, jb, Nat.le_refl _, S2, E3, E2⟩
      · have E3 : Aside (∀ t, H ≤ t → t < b → key16 d[a]! ≤ key16 d[t]!) := fun t q1 q2 => by
          have z1 : ¬ key16 xI < key16 xJ := fun q => hlv ((cf_neg _ _).2 q)
          rw [← hxI, ← hxJ] at z1
          have z2 := srt_le U2.out (i := H) (j := t) (by omega) q1 q2
          omega
        clear S1 E2 hxI hxJ
        go_wp2_with fail
        go_quiet_grown (first | (go_at_fn g; refine Calls.grown_of (hcg _ _)))
        have S2 : Aside _ := SG.out nq osq
        clear SG lI lJ hcg
        generalize grow (wr.drewN nq) osq = w2 at S2 ⊢
        go_wp2
        go_roundg (H - i)
        case measure => omega
        case rel => exact ⟨i, H, rfl, by go_num, mi, by omega, by omega, Nat.le_refl _, S2, E1, E3⟩
    · obtain rfl : i = j := by omega
      have EV : Aside (∀ d2 : Array Ob, d2.size = N → (∀ t, t < N → d2[t]! = rotI d a (a + 1) i t) → Mv key16 d d2 a b ∧ Srt key16 d2 a b) := fun d2 q1 q2 => by
        have := HM.out
        subst this
        refine one_left (key := key16) (by omega) (fun t ht => q2 t (by omega)) U2.out mi jb (by omega) E1.out E2.out
      clear E1 E2
      have r2 : IntKind.i64.wrap ((i : Int) - 1) = (i : Int) - 1 := by rw [IntKind.wrap_i64]; omega
      go_wp2
      go_loopg [13] (b - a) (fun kx s8 wr => ∃ (q : Nat) (dk : Array Ob), s8 = .int .i64 q ∧ a ≤ q ∧ q + 1 ≤ i ∧ i - q ≤ kx ∧ dk.size = N ∧ Aside (SWK obC k w0 blk off dk wr) ∧ Aside (∀ t, t < N → dk[t]! = rotI d a (a + 1) (q + 1) t))
      case atStart => exact ⟨a, d, rfl, Nat.le_refl _, by omega, by omega, hN, S1, (show ∀ t, t < N → _ from fun t _ => (rot_same2 d a (a + 1) t).symm)⟩
      case round =>
        clear S1
        obtain ⟨q, dk, rfl, aq, qi, hkx2, hds, S1, F1⟩ := hrel
        by_cases hq : q + 1 < i
        · have hqz : (q : Int) < (i : Int) - 1 := by omega
          have F2 : Aside (∀ t, t < N → (swp dk q (q + 1))[t]! = rotI d a (a + 1) (q + 2) t) := by subst hN; exact rot_up hds F1.out aq (by omega)
          clear F1
          obtain ⟨B, hB⟩ : ∃ B, B = q + 1 := ⟨_, rfl⟩
          rw [← hB] at F2
          have rb : IntKind.i64.wrap ((q : Int) + 1) = (B : Int) := by rw [IntKind.wrap_i64]; omega
          have bq : (q : Int) < (N : Int) := by omega
          have bB : (B : Int) < (N : Int) := by omega
          have HB : Hid (B = q + 1) := hB
          have hBi : B < i := by omega
          have hBz : B ≤ N := by omega
          clear hB
          have S2 : Aside (SWK obC k w0 blk off (swp dk q B) ((wr.drew.setCells blk (off + q * k) (obC dk[B]!)).setCells blk (off + B * k) (obC dk[q]!))) := S1.out.swapped R q B (by omega) (by omega)
          have l1 := S1.out.ld1 R (by omega) P q (by omega)
          have l2 := S1.out.ld1 R (by omega) P B (by omega)
          have s1 := S1.out.st1 R (by omega) P q (by omega) dk[B]!
          have s2 := S1.out.st2 R (by omega) P q B (by omega) (by omega) dk[B]! dk[q]!
          have n1 : (obC dk[q]!).length = k := R.hk _
          have n2 : (obC dk[B]!).length = k := R.hk _
          generalize obC dk[q]! = cI at S2 l1 s2 n1
          generalize obC dk[B]! = cJ at S2 l2 s1 s2 n2
          clear S1
          go_wp2_with fail
          go_big_region_o
          clear l1 l2 s1 s2
          generalize (wr.drew.setCells blk (off + q * k) cJ).setCells blk (off + B * k) cI = w2 at S2 ⊢
          go_wp2
          go_roundg (i - B)
          case measure => have := HB.out; omega
          case rel =>
            have e := HB.out
            refine ⟨B, swp dk q B, by first | rfl | go_num, by omega, by omega, Nat.le_refl _, by rw [size_swp]; exact hds, S2, (show ∀ t, t < N → _ from ?_)⟩
            subst e
            exact F2.out
        · have hqz : ¬ (q : Int) < (i : Int) - 1 := by omega
          go_wp2
          refine bodyPost_ret (results_none rfl _ _ _) rfl ?_
          obtain rfl : i = q + 1 := by omega
          exact ⟨rfl, dk, S1.out, hds, EV.out dk hds F1.out⟩
set_option maxRecDepth 1000000 in
set_option maxHeartbeats 1000000 in
theorem sym_r (L : Open16 P k) (blk off cap a m b : Nat) (g : Nat) (cb : Array Value) (N : Nat) (d0 d : Array Ob) (w0 w : World) (R : RowK obC k w0 blk off d0) (h0 : d0.size = N) (hN : d.size = N) (S : SWK obC k w0 blk off d w) (eg : ∀ args w, (callFunc g args).run P w = .ok (.enter g args) w) (hC : CmpLays P g cb obC k cf16 blk off N w0) (h1 : a + 1 < m) (h2 : b = m + 1) (h3 : b ≤ N) (hsz : N ≤ 1000) (T1 : Srt key16 d a m) (T2 : Srt key16 d m b) :
    Calls P 48 #[.slice (some ⟨blk, off, none⟩) N cap, .int .i64 a, .int .i64 m, .int .i64 b, .func (.func g) #[] cb] w fun e w' => e = .returned (.tuple #[]) ∧ ∃ d2 : Array Ob, SWK obC k w0 blk off d2 w' ∧ d2.size = N ∧ Mv key16 d d2 a b ∧ Srt key16 d2 a b := by
  have mixed := L.mixed; have tn0 := L.tn0; have an0 := L.an0; have zn0 := L.zn0; have vn0 := L.vn0; have tni := L.tni; have ani := L.ani; have zni := L.zni; have vni := L.vni; have tnb := L.tnb; have anb := L.anb; have znb := L.znb; have vnb := L.vnb; have tns := L.tns; have ans := L.ans; have zns := L.zns; have vns := L.vns; have tnf := L.tnf; have anf := L.anf; have znf := L.znf; have vnf := L.vnf; have tnu := L.tnu; have anu := L.anu; have znu := L.znu; have vnu := L.vnu; have aO := L.aO; have zO := L.zO
  have FG := L.fsy
  have S0 : Aside (SWK obC k w0 blk off d w) := S
  have HC : Aside (CmpLays P g cb obC k cf16 blk off N w0) := hC
  have U1 : Aside (Srt key16 d a m) := T1
  clear S L hC T1 T2
  have r0 : IntKind.i64.wrap ((m : Int) - (a : Int)) = (m : Int) - (a : Int) := by rw [IntKind.wrap_i64]; omega
  have r9 : ((m : Int) - (a : Int) == 1) = false := by simp; omega
  have r1 : IntKind.i64.wrap ((b : Int) - (m : Int)) = 1 := by rw [IntKind.wrap_i64]; omega
  have HM : Hid (b = m + 1) := h2
  have hm : m < b := by omega
  clear h2
  go_enter FG, Try.ntmps48
  go_wp2
  go_loopg [14, 15] (m - a) (fun kx s8 s9 wr => ∃ (i j : Nat), s8 = .int .i64 i ∧ s9 = .int .i64 j ∧ a ≤ i ∧ i ≤ j ∧ j ≤ m ∧ j - i ≤ kx ∧ Aside (SWK obC k w0 blk off d wr) ∧ Aside (∀ t, a ≤ t → t < i → key16 d[t]! ≤ key16 d[m]!) ∧ Aside (∀ t, j ≤ t → t < m → key16 d[m]! < key16 d[t]!))
  case atStart => exact ⟨a, m, rfl, rfl, Nat.le_refl _, by omega, Nat.le_refl _, by omega, S0, (show ∀ t, a ≤ t → t < a → _ from fun t q1 q2 => by omega), (show ∀ t, m ≤ t → t < m → _ from fun t q1 q2 => by omega)⟩
  case round =>
    clear S0
    obtain ⟨i, j, rfl, rfl, mi, ij, jb, hkx, S1, E1, E2⟩ := hrel
    by_cases hlt : i < j
    · have hltz : (i : Int) < (j : Int) := by omega
      obtain ⟨K, hK⟩ : ∃ K, K = i + j := ⟨_, rfl⟩
      obtain ⟨H, hH⟩ : ∃ H, H = K / 2 := ⟨_, rfl⟩
      have rK : IntKind.i64.wrap ((i : Int) + (j : Int)) = (K : Int) := by rw [IntKind.wrap_i64]; omega
      have rU : IntKind.u64.wrap (K : Int) = (K : Int) := by rw [IntKind.wrap_u64]; omega
      have rH : (K : Int) / 2 = (H : Int) := by omega
      have rV : IntKind.u64.wrap (H : Int) = (H : Int) := by rw [IntKind.wrap_u64]; omega
      have rW : IntKind.i64.wrap (H : Int) = (H : Int) := by rw [IntKind.wrap_i64]; omega
      have hH1 : i ≤ H := by omega
      have hH2 : H < j := by omega
      have bH : (H : Int) < (N : Int) := by omega
      have ba : (m : Int) < (N : Int) := by omega
      clear hK hH
      obtain ⟨xI, hxI⟩ : ∃ x, d[m]! = x := ⟨_, rfl⟩
      obtain ⟨xJ, hxJ⟩ : ∃ x, d[H]! = x := ⟨_, rfl⟩
      have lI := fun n os => S1.out.ld R (by omega) P m (by omega) n os
      have lJ := fun n os => S1.out.ld R (by omega) P H (by omega) n os
      have hcg := fun n os => S1.out.cmp HC.out (by omega) xI xJ n os
      have SG : Aside (∀ n os, SWK obC k w0 blk off d (grow (wr.drewN n) os)) := fun n os => S1.out.grown n os
      rw [hxI] at lI
      rw [hxJ] at lJ
      by_cases hlv : cf16 xI xJ < 0
      · have E3 : Aside (∀ t, H ≤ t → t < m → key16 d[m]! < key16 d[t]!) := fun t q1 q2 => by
          have z1 := (cf_neg _ _).1 hlv
          rw [← hxI, ← hxJ] at z1
          have z2 := srt_le U1.out (i := H) (j := t) (by omega) q1 q2
          omega
        have dl : decide (cf16 xI xJ < 0) = true := decide_eq_true hlv
        clear S1 E2 hxI hxJ hlv
        go_wp2_with fail
        go_quiet_grown (first | (go_at_fn g; refine Calls.grown_of (hcg _ _)))
        have S2 : Aside _ := SG.out nq osq
        clear SG lI lJ hcg
        generalize grow (wr.drewN nq) osq = w2 at S2 ⊢
        go_wp2
        go_roundg (H - i)
        case measure => omega
        case rel => exact ⟨i, H, rfl, by go_num, mi, by omega, by omega, Nat.le_refl _, S2, E1, E3⟩
      · have E3 : Aside (∀ t, a ≤ t → t < H + 1 → key16 d[t]! ≤ key16 d[m]!) := fun t q1 q2 => by
          have z1 : ¬ key16 xI < key16 xJ := fun q => hlv ((cf_neg _ _).2 q)
          rw [← hxI, ← hxJ] at z1
          have z2 := srt_le U1.out (i := t) (j := H) q1 (by omega) (by omega)
          omega
        have dl : decide (cf16 xI xJ < 0) = false := decide_eq_false hlv
        clear S1 E1 hxI hxJ hlv
        go_wp2_with fail
        go_quiet_grown (first | (go_at_fn g; refine Calls.grown_of (hcg _ _)))
        have S2 : Aside _ := SG.out nq osq
        clear SG lI lJ hcg
        generalize grow (wr.drewN nq) osq = w2 at S2 ⊢
        go_wp2
        go_roundg (j - (H + 1))
        case measure => omega
        case rel => exact ⟨H + 1, j, by go_num, rfl, by omega, by omega, jb, Nat.le_refl _, S2, E3, E2⟩
    · obtain rfl : i = j := by omega
      have EV : Aside (∀ d2 : Array Ob, d2.size = N → (∀ t, t < N → d2[t]! = rotI d i m (m + 1) t) → Mv key16 d d2 a b ∧ Srt key16 d2 a b) := fun d2 q1 q2 => by
        have := HM.out
        subst this
        exact one_right (key := key16) (by omega) (fun t ht => q2 t (by omega)) U1.out mi jb (by omega) E1.out E2.out
      clear E1 E2
      go_wp2
      go_loopg [17] (b - a) (fun kx s8 wr => ∃ (q : Nat) (dk : Array Ob), s8 = .int .i64 q ∧ i ≤ q ∧ q ≤ m ∧ q - i ≤ kx ∧ dk.size = N ∧ Aside (SWK obC k w0 blk off dk wr) ∧ Aside (∀ t, t < N → dk[t]! = rotI d q m (m + 1) t))
      case atStart => exact ⟨m, d, rfl, by omega, Nat.le_refl _, by omega, hN, S1, (show ∀ t, t < N → _ from fun t _ => (rot_same d m (m + 1) t).symm)⟩
      case round =>
        clear S1
        obtain ⟨q, dk, rfl, aq, qi, hkx2, hds, S1, F1⟩ := hrel
        by_cases hq : i < q
        · have hqz : (i : Int) < (q : Int) := by omega
          obtain ⟨B, hB⟩ : ∃ B, q = B + 1 := ⟨q - 1, by omega⟩
          have F2 : Aside (∀ t, t < N → (swp dk q B)[t]! = rotI d B m (m + 1) t) := by subst hB; subst hN; exact rot_down hds F1.out (by omega) (by omega)
          clear F1
          have rb : IntKind.i64.wrap ((q : Int) - 1) = (B : Int) := by rw [IntKind.wrap_i64]; omega
          have bq : (q : Int) < (N : Int) := by omega
          have bB : (B : Int) < (N : Int) := by omega
          have HB : Hid (q = B + 1) := hB
          have hBq : B < q := by omega
          have hBi : i ≤ B := by omega
          clear hB
          have S2 : Aside (SWK obC k w0 blk off (swp dk q B) ((wr.drew.setCells blk (off + q * k) (obC dk[B]!)).setCells blk (off + B * k) (obC dk[q]!))) := S1.out.swapped R q B (by omega) (by omega)
          have l1 := S1.out.ld1 R (by omega) P q (by omega)
          have l2 := S1.out.ld1 R (by omega) P B (by omega)
          have s1 := S1.out.st1 R (by omega) P q (by omega) dk[B]!
          have s2 := S1.out.st2 R (by omega) P q B (by omega) (by omega) dk[B]! dk[q]!
          have n1 : (obC dk[q]!).length = k := R.hk _
          have n2 : (obC dk[B]!).length = k := R.hk _
          generalize obC dk[q]! = cI at S2 l1 s2 n1
          generalize obC dk[B]! = cJ at S2 l2 s1 s2 n2
          clear S1
          go_wp2_with fail
          go_big_region_o
          clear l1 l2 s1 s2
          generalize (wr.drew.setCells blk (off + q * k) cJ).setCells blk (off + B * k) cI = w2 at S2 ⊢
          go_wp2
          go_roundg (B - i)
          case measure => omega
          case rel => exact ⟨B, swp dk q B, by first | rfl | go_num, by omega, by omega, Nat.le_refl _, by rw [size_swp]; exact hds, S2, F2⟩
        · have hqz : ¬ (i : Int) < (q : Int) := by omega
          go_wp2
          refine bodyPost_ret (results_none rfl _ _ _) rfl ?_
          obtain rfl : i = q := by omega
          exact ⟨rfl, dk, S1.out, hds, EV.out dk hds F1.out⟩
end
end Go.Proofs.Ytecgpdjgbdobbab
