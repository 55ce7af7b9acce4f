/- Parts of a row changed for each other, and turned about: slices' own, over a program of which the types are facts. -/
import Derived.Test.YtecgpdjgbdobbabSo16a
namespace Go.Proofs.Ytecgpdjgbdobbab
open Go.RowKit Go.Sort Go.Lib Go.Shelf
set_option linter.unusedVariables false
set_option linter.unusedSimpArgs false

structure Open16 (P : Program) (k : Nat) : Prop where
  mixed : P.follows .mixedOrders = true
  tn0 : P.underlying 0 = some (TypeDesc.tuple #[])
  an0 : ∀ w, (isAgg 0).run P w = .ok false w
  zn0 : ∀ w, (Go.sizeOf 0).run P w = .ok 1 w
  vn0 : ∀ w, (zeroValue 0).run P w = .ok (Value.tuple #[]) w
  tni : P.underlying 3 = some (TypeDesc.int IntKind.i64)
  ani : ∀ w, (isAgg 3).run P w = .ok false w
  zni : ∀ w, (Go.sizeOf 3).run P w = .ok 1 w
  vni : ∀ w, (zeroValue 3).run P w = .ok (Value.int IntKind.i64 0) w
  tnb : P.underlying 4 = some (TypeDesc.bool)
  anb : ∀ w, (isAgg 4).run P w = .ok false w
  znb : ∀ w, (Go.sizeOf 4).run P w = .ok 1 w
  vnb : ∀ w, (zeroValue 4).run P w = .ok (Value.bool false) w
  tns : P.underlying 63 = some (TypeDesc.slice 52)
  ans : ∀ w, (isAgg 63).run P w = .ok false w
  zns : ∀ w, (Go.sizeOf 63).run P w = .ok 1 w
  vns : ∀ w, (zeroValue 63).run P w = .ok (Value.slice none 0 0) w
  tnf : P.underlying 78 = some (TypeDesc.func #[52, 52] #[3] false)
  anf : ∀ w, (isAgg 78).run P w = .ok false w
  znf : ∀ w, (Go.sizeOf 78).run P w = .ok 1 w
  vnf : ∀ w, (zeroValue 78).run P w = .ok (Value.nilFunc) w
  tnu : P.underlying 75 = some (TypeDesc.int IntKind.u64)
  anu : ∀ w, (isAgg 75).run P w = .ok false w
  znu : ∀ w, (Go.sizeOf 75).run P w = .ok 1 w
  vnu : ∀ w, (zeroValue 75).run P w = .ok (Value.int IntKind.u64 0) w
  aO : ∀ w, (isAgg 52).run P w = .ok true w
  zO : ∀ w, (Go.sizeOf 52).run P w = .ok k w
  fsw : P.funcs[50]? = some Try.f50
  fro : P.funcs[49]? = some Try.f49
  fsy : P.funcs[48]? = some Try.f48
  fst : P.funcs[45]? = some Try.f45
theorem open16 : Open16 Try.prog 5 := {
  mixed := by kernel_rfl
  tn0 := Try.underlying0
  an0 := Try.isAgg0
  zn0 := Try.sizeOf0
  vn0 := Try.zeroValue0
  tni := Try.underlying3
  ani := Try.isAgg3
  zni := Try.sizeOf3
  vni := Try.zeroValue3
  tnb := Try.underlying4
  anb := Try.isAgg4
  znb := Try.sizeOf4
  vnb := Try.zeroValue4
  tns := Try.underlying63
  ans := Try.isAgg63
  zns := Try.sizeOf63
  vns := Try.zeroValue63
  tnf := Try.underlying78
  anf := Try.isAgg78
  znf := Try.sizeOf78
  vnf := Try.zeroValue78
  tnu := Try.underlying75
  anu := Try.isAgg75
  znu := Try.sizeOf75
  vnu := Try.zeroValue75
  aO := Try.isAgg52
  zO := Try.sizeOf52
  fsw := Try.func50
  fro := Try.func49
  fsy := Try.func48
  fst := Try.func45 }
section
variable {P : Program} {k : Nat}
set_option maxRecDepth 1000000 in
set_option maxHeartbeats 1000000 in
theorem swapR16 (L : Open16 P k) (blk off cap a b n : Nat) (cv : Value) (N : Nat) (d0 d : Array Ob) (w0 w : World) (R : RowK obC k w0 blk off d0) (h0 : d0.size = N) (hN : d.size = N) (S : SWK obC k w0 blk off d w) (h1 : a + n ≤ b) (h2 : b + n ≤ N) (hsz : N ≤ 1000) :
    Calls P 50 #[.slice (some ⟨blk, off, none⟩) N cap, .int .i64 a, .int .i64 b, .int .i64 n, cv] w fun e w' => e = .returned (.tuple #[]) ∧ ∃ d2 : Array Ob, SWK obC k w0 blk off d2 w' ∧ d2.size = N ∧ ∀ t, t < N → d2[t]! = swpI d a b n t := by
  have mixed := L.mixed; have tn0 := L.tn0; have an0 := L.an0; have zn0 := L.zn0; have vn0 := L.vn0; have tni := L.tni; have ani := L.ani; have zni := L.zni; have vni := L.vni; have tnb := L.tnb; have anb := L.anb; have znb := L.znb; have vnb := L.vnb; have tns := L.tns; have ans := L.ans; have zns := L.zns; have vns := L.vns; have tnf := L.tnf; have anf := L.anf; have znf := L.znf; have vnf := L.vnf; have tnu := L.tnu; have anu := L.anu; have znu := L.znu; have vnu := L.vnu; have aO := L.aO; have zO := L.zO
  have FG := L.fsw
  have S0 : Aside (SWK obC k w0 blk off d w) := S
  clear S
  go_enter FG, Try.ntmps50
  go_wp2
  go_loopg [10] n (fun kx s8 wr => ∃ (i : Nat) (dk : Array Ob), s8 = .int .i64 i ∧ i ≤ n ∧ n - i ≤ kx ∧ dk.size = N ∧ Aside (SWK obC k w0 blk off dk wr) ∧ Aside (∀ t, t < N → dk[t]! = swpI d a b i t))
  case atStart => exact ⟨0, d, rfl, Nat.zero_le _, by omega, hN, S0, fun t _ => (swp_none d a b t).symm⟩
  case round =>
    clear S0
    obtain ⟨i, dk, rfl, hi, hkx, hds, S1, E1⟩ := hrel
    by_cases hlt : i < n
    · have hltz : (i : Int) < (n : Int) := by omega
      have E2 : Aside (∀ t, t < N → (swp dk (a + i) (b + i))[t]! = swpI d a b (i + 1) t) := by subst hN; exact swp_next hds E1.out (by omega) (by omega)
      clear E1
      obtain ⟨A, hA⟩ : ∃ A, A = a + i := ⟨_, rfl⟩
      obtain ⟨B, hB⟩ : ∃ B, B = b + i := ⟨_, rfl⟩
      rw [← hA, ← hB] at E2
      have ra : IntKind.i64.wrap ((a : Int) + (i : Int)) = (A : Int) := by rw [IntKind.wrap_i64]; omega
      have rb : IntKind.i64.wrap ((b : Int) + (i : Int)) = (B : Int) := by rw [IntKind.wrap_i64]; omega
      have bA : (A : Int) < (N : Int) := by omega
      have bB : (B : Int) < (N : Int) := by omega
      clear hA hB
      have S2 : Aside (SWK obC k w0 blk off (swp dk A B) ((wr.drew.setCells blk (off + A * k) (obC dk[B]!)).setCells blk (off + B * k) (obC dk[A]!))) := S1.out.swapped R A B (by omega) (by omega)
      have l1 := S1.out.ld1 R (by omega) P A (by omega)
      have l2 := S1.out.ld1 R (by omega) P B (by omega)
      have s1 := S1.out.st1 R (by omega) P A (by omega) dk[B]!
      have s2 := S1.out.st2 R (by omega) P A B (by omega) (by omega) dk[B]! dk[A]!
      have n1 : (obC dk[A]!).length = k := R.hk _
      have n2 : (obC dk[B]!).length = k := R.hk _
      generalize obC dk[A]! = cI at S2 l1 s2 n1
      generalize obC dk[B]! = cJ at S2 l2 s1 s2 n2
      clear S1
      go_wp2_with fail
      go_big_region_o
      clear l1 l2 s1 s2
      generalize (wr.drew.setCells blk (off + A * k) cJ).setCells blk (off + B * k) cI = w2 at S2 ⊢
      go_wp2
      go_roundg (n - (i + 1))
      case measure => omega
      case rel => exact ⟨i + 1, swp dk A B, by go_num, by omega, by omega, by rw [size_swp]; exact hds, S2, E2⟩
    · go_wp2
      go_end0
      obtain rfl : i = n := by omega
      exact ⟨rfl, dk, S1.out, hds, E1.out⟩
set_option maxRecDepth 1000000 in
set_option maxHeartbeats 1000000 in
theorem rot16 (L : Open16 P k) (blk off cap a m b : Nat) (cv : Value) (N : Nat) (d0 d : Array Ob) (w0 w : World) (R : RowK obC k w0 blk off d0) (h0 : d0.size = N) (hN : d.size = N) (S : SWK obC k w0 blk off d w) (h1 : a < m) (h2 : m < b) (h3 : b ≤ N) (hsz : N ≤ 1000) :
    Calls P 49 #[.slice (some ⟨blk, off, none⟩) N cap, .int .i64 a, .int .i64 m, .int .i64 b, cv] w fun e w' => e = .returned (.tuple #[]) ∧ ∃ d2 : Array Ob, SWK obC k w0 blk off d2 w' ∧ d2.size = N ∧ ∀ t, t < N → d2[t]! = rotI d a m b t := by
  have eS : ∀ args w, (callFunc 50 args).run P w = .ok (.enter 50 args) w := enters_of L.fsw (by kernel_rfl) rfl
  have HS : Aside (∀ (x y n : Nat) (dk : Array Ob) (u : World), dk.size = N → SWK obC k w0 blk off dk u → x + n ≤ y → y + n ≤ N → _) := fun x y n dk u q1 q2 q3 q4 => swapR16 L blk off cap x y n cv N d0 dk w0 u R h0 q1 q2 q3 q4 hsz
  have mixed := L.mixed; have tn0 := L.tn0; have an0 := L.an0; have zn0 := L.zn0; have vn0 := L.vn0; have tni := L.tni; have ani := L.ani; have zni := L.zni; have vni := L.vni; have tnb := L.tnb; have anb := L.anb; have znb := L.znb; have vnb := L.vnb; have tns := L.tns; have ans := L.ans; have zns := L.zns; have vns := L.vns; have tnf := L.tnf; have anf := L.anf; have znf := L.znf; have vnf := L.vnf; have tnu := L.tnu; have anu := L.anu; have znu := L.znu; have vnu := L.vnu; have aO := L.aO; have zO := L.zO
  have FG := L.fro
  have S0 : Aside (SWK obC k w0 blk off d w) := S
  clear S L
  obtain ⟨i0, hi0⟩ : ∃ x, x = m - a := ⟨_, rfl⟩
  obtain ⟨j0, hj0⟩ : ∃ x, x = b - m := ⟨_, rfl⟩
  have ri : IntKind.i64.wrap ((m : Int) - (a : Int)) = (i0 : Int) := by rw [IntKind.wrap_i64]; omega
  have rj : IntKind.i64.wrap ((b : Int) - (m : Int)) = (j0 : Int) := by rw [IntKind.wrap_i64]; omega
  have HI : Hid (i0 = m - a ∧ j0 = b - m) := ⟨hi0, hj0⟩
  clear hi0 hj0
  go_enter FG, Try.ntmps49
  go_wp2
  go_loopg [10, 11] (b - a) (fun kx s8 s9 wr => ∃ (i j : Nat) (dk : Array Ob), s8 = .int .i64 i ∧ s9 = .int .i64 j ∧ 0 < i ∧ 0 < j ∧ i ≤ m ∧ m + j ≤ N ∧ i + j ≤ kx ∧ dk.size = N ∧ Aside (SWK obC k w0 blk off dk wr) ∧ Aside (∀ t, t < N → rotI dk (m - i) m (m + j) t = rotI d a m b t))
  case atStart =>
    obtain ⟨e1, e2⟩ := HI.out
    refine ⟨i0, j0, d, rfl, rfl, by omega, by omega, by omega, by omega, by omega, hN, S0, (show ∀ t, t < N → _ from fun t _ => ?_)⟩
    rw [show m - i0 = a by omega, show m + j0 = b by omega]
  case round =>
    clear S0 ri rj HI
    obtain ⟨i, j, dk, rfl, rfl, i0, j0, im, jm, hkx, hds, S1, E1⟩ := hrel
    obtain ⟨A, hA⟩ : ∃ A, A = m - i := ⟨_, rfl⟩
    have ra : IntKind.i64.wrap ((m : Int) - (i : Int)) = (A : Int) := by rw [IntKind.wrap_i64]; omega
    rcases Nat.lt_trichotomy i j with hc | hc | hc
    · have g1 : ((i : Int) == (j : Int)) = false := by simp; omega
      have g2 : decide ((j : Int) < (i : Int)) = false := decide_eq_false (by omega)
      obtain ⟨B, hB⟩ : ∃ B, B = m + j - i := ⟨_, rfl⟩
      have rb2 : IntKind.i64.wrap ((m : Int) + (j : Int) - (i : Int)) = (B : Int) := by rw [IntKind.wrap_i64]; omega
      have rc : IntKind.i64.wrap ((m : Int) + (j : Int)) = (m : Int) + (j : Int) := by rw [IntKind.wrap_i64]; omega
      have rd : IntKind.i64.wrap ((j : Int) - (i : Int)) = ((j - i : Nat) : Int) := by rw [IntKind.wrap_i64]; omega
      have HC := HS.out A B i dk wr hds S1.out (by omega) (by omega)
      have HX : Aside (∀ c2 : Array Ob, c2.size = N → (∀ t, t < N → c2[t]! = swpI dk A B i t) → ∀ t, t < N → rotI c2 (m - i) m (m + (j - i)) t = rotI d a m b t) := fun c2 q1 q2 t ht => by
        rw [rot_lt (c := dk) (by omega) (fun t ht => by rw [q2 t (by omega), hA, hB]) hc i0 im (by omega) t (by omega)]; exact E1.out t ht
      clear S1 E1 hA hB HS
      generalize hz : (j - i : Nat) = z at rd HX
      have hz2 : Hid (j - i = z) := hz
      clear hz
      go_wp2_with (go_at_fn 50; refine HC.mono ?_; rintro e w1 ⟨rfl, c2, S2, q1, q2⟩; have S2 : Aside _ := S2; have E2 : Aside _ := HX.out c2 q1 q2; clear q2)
      go_roundg (i + z)
      case measure => have := hz2.out; omega
      case rel =>
        have := hz2.out
        exact ⟨i, z, c2, by go_num, by go_num, i0, by omega, im, by omega, by omega, q1, S2, E2⟩
    · subst hc
      have HC := HS.out A m i dk wr hds S1.out (by omega) (by omega)
      have HX : Aside (∀ c2 : Array Ob, (∀ t, t < N → c2[t]! = swpI dk A m i t) → ∀ t, t < N → c2[t]! = rotI d a m b t) := fun c2 q2 t ht => by
        rw [q2 t ht, hA, rot_eq im]; exact E1.out t ht
      clear S1 E1 hA HS
      go_wp2_with (go_at_fn 50; refine HC.mono ?_; rintro e w1 ⟨rfl, c2, S2, q1, q2⟩)
      go_end0
      exact ⟨rfl, c2, S2, q1, HX.out c2 q2⟩
    · have g1 : ((i : Int) == (j : Int)) = false := by simp; omega
      have g2 : decide ((j : Int) < (i : Int)) = true := decide_eq_true (by omega)
      have rd : IntKind.i64.wrap ((i : Int) - (j : Int)) = ((i - j : Nat) : Int) := by rw [IntKind.wrap_i64]; omega
      have HC := HS.out A m j dk wr hds S1.out (by omega) (by omega)
      have HX : Aside (∀ c2 : Array Ob, c2.size = N → (∀ t, t < N → c2[t]! = swpI dk A m j t) → ∀ t, t < N → rotI c2 (m - (i - j)) m (m + j) t = rotI d a m b t) := fun c2 q1 q2 t ht => by
        rw [rot_gt (c := dk) (by omega) (fun t ht => by rw [q2 t (by omega), hA]) hc j0 im (by omega) t (by omega)]; exact E1.out t ht
      clear S1 E1 hA HS
      generalize hz : (i - j : Nat) = z at rd HX
      have hz2 : Hid (i - j = z) := hz
      clear hz
      go_wp2_with (go_at_fn 50; refine HC.mono ?_; rintro e w1 ⟨rfl, c2, S2, q1, q2⟩; have S2 : Aside _ := S2; have E2 : Aside _ := HX.out c2 q1 q2; clear q2)
      go_roundg (z + j)
      case measure => have := hz2.out; omega
      case rel =>
        have := hz2.out
        exact ⟨z, j, c2, by go_num, by go_num, by omega, j0, by omega, jm, by omega, q1, S2, E2⟩
end
end Go.Proofs.Ytecgpdjgbdobbab
