/- What assemble of layer 6 comes to where a line has a byte. -/
import Derived.Test.YtlchkflpaehgcaaDoorCx
namespace Go.Proofs.YtlchkflpaehgcaaDoor
open Go.RowKit
set_option linter.unusedVariables false
set_option linter.unusedSimpArgs false

set_option maxRecDepth 100000 in
set_option maxHeartbeats 4000000 in
theorem lasm_yes1 (f : List UInt8 → Option (ByteArray × Int)) (Bm nn : Nat) (s T D A1 A2 : ByteArray) (m1 m2 : Int) (ok1 : Bool) (w : World) (hM : MapIs w Bm nn f) (L1 : Look (fun u => MapIs u Bm nn f) Bm s A1 m1 ok1) (L2 : Look (fun u => MapIs u Bm nn f) Bm T A2 m2 true)
    (hno : ok1 = true → (m1 == 0) = false) (CN : ∀ u, Calls Tryd.prog 49 #[.string s] u fun e w' => e = .returned (.tuple #[.string T, .string D]) ∧ Kept u w') (hD : D.size ≤ maxLen) (hm : m2 = 1) (hA : A2.size ≤ 1000) (hok : readErr D (2 * m2) = 0) (rv0 : 0 ≤ readVal D (2 * m2)) (rv1 : readVal D (2 * m2) ≤ 65535) :
    Calls Tryd.prog 25 #[.map (some Bm), .string s] w fun e w' => ∃ v, e = .returned (.tuple #[v, .int .i64 0]) ∧ Byts w' v (bytN A2 ++ ([readVal D (2 * m2) % 256, readVal D (2 * m2) / 256].take m2.toNat)) ∧ Kept w w' := by
  have G1 := L1 w hM
  have HM := hid hM
  have HL2 := hid L2
  have HCN := hid CN
  have CR := fun u => read_any D (2 * m2) u hD
  rw [hok] at CR
  generalize readVal D (2 * m2) = RV at *
  have CCR := hid CR
  have cv := conv_to A2
  obtain ⟨lo, hlo⟩ : ∃ x, RV % 256 = x := ⟨_, rfl⟩
  obtain ⟨hi, hhi⟩ : ∃ x, RV / 256 = x := ⟨_, rfl⟩
  have CS := fun u => split_any RV u rv0 rv1
  rw [hlo, hhi] at CS
  have CCS := hid CS
  rw [hlo, hhi]
  clear hok L1 L2 CN hM hD CR CS hlo hhi
  subst hm
  · have wm : IntKind.i64.wrap (2 * 1) = 2 := by decide
    go_enter Tryd.func25, Tryd.ntmps25
    cases ok1
    case' true => have h1 := hno rfl
    all_goals
      clear hno
      go_wp2_with fail
      refine (HCN.out _).mono ?_
      rintro e u1 ⟨rfl, g1⟩
      have K1 := hid (((Kept.refl w).alloc _).trans g1)
      have G2 := HL2.out u1 (HM.out.kept K1.out)
      clear g1
      go_wp2_with fail
      refine (CCR.out _).mono ?_
      rintro e u2 ⟨rfl, g2⟩
      have K2 := hid ((K1.out.alloc _).trans (Kept.of g2))
      obtain ⟨zF, cF⟩ := has_grown g2 (has_alloc u1 #[.string A2, .int .i64 1] 64)
      have f0 := cF 0
      have f1 := cF 1
      simp at f0 f1
      clear g2 cF G2
      go_wp2_with fail
      refine (CCS.out _).mono ?_
      rintro e u3 ⟨rfl, rfl⟩
      have R1 := hid (show (((u3.alloc (rowOf A2 u3.drew)).alloc (.cells #[.int .u8 lo, .int .u8 hi] 5)).drew.drew).heap[u3.heap.size]? = some (rowOf A2 u3.drew) from (heap_old6 (u3.alloc (rowOf A2 u3.drew)) _ u3.heap.size (by simp)).trans (heap_new6 u3 _))
      have R2 := hid (show (((u3.alloc (.cells #[.int .u8 lo, .int .u8 hi] 5)).alloc (rowOf A2 (u3.alloc (.cells #[.int .u8 lo, .int .u8 hi] 5)).drew)).drew.drew).heap[u3.heap.size + 1]? = some (rowOf A2 (u3.alloc (.cells #[.int .u8 lo, .int .u8 hi] 5)).drew) from (by have := heap_new6 (u3.alloc (.cells #[.int .u8 lo, .int .u8 hi] 5)) (rowOf A2 (u3.alloc (.cells #[.int .u8 lo, .int .u8 hi] 5)).drew); rw [World.size_alloc] at this; exact this))
      have N1 := hid (show ∀ (j : Nat) v, ([lo].map (Value.int .u8))[j]? = some v → (((u3.alloc (rowOf A2 u3.drew)).alloc (.cells #[.int .u8 lo, .int .u8 hi] 5)).drew.drew).cell? ((⟨u3.heap.size + 1, 0, none⟩ : Addr).add j) = some v from fun j v hj => by
        have BN := has_alloc (u3.alloc (rowOf A2 u3.drew)) #[.int .u8 lo, .int .u8 hi] 5
        rw [World.size_alloc] at BN
        rw [show (⟨u3.heap.size + 1, 0, none⟩ : Addr).add j = ⟨u3.heap.size + 1, j, none⟩ by rw [Addr.add_lit, Nat.zero_add]]
        match j, hj with
          | 0, hj => simp at hj; subst hj; exact (BN.2 0))
      have N2 := hid (show ∀ (j : Nat) v, ([lo].map (Value.int .u8))[j]? = some v → (((u3.alloc (.cells #[.int .u8 lo, .int .u8 hi] 5)).alloc (rowOf A2 (u3.alloc (.cells #[.int .u8 lo, .int .u8 hi] 5)).drew)).drew.drew).cell? ((⟨u3.heap.size, 0, none⟩ : Addr).add j) = some v from fun j v hj => by
        have BN := has_past (has_alloc u3 #[.int .u8 lo, .int .u8 hi] 5) (rowOf A2 (u3.alloc (.cells #[.int .u8 lo, .int .u8 hi] 5)).drew)
        rw [show (⟨u3.heap.size, 0, none⟩ : Addr).add j = ⟨u3.heap.size, j, none⟩ by rw [Addr.add_lit, Nat.zero_add]]
        match j, hj with
          | 0, hj => simp at hj; subst hj; exact (BN.2 0))
      have zW : w.heap.size ≤ u3.heap.size := K2.out.size
      go_wp2
      go_region_law (first | (refine step_app rfl _ _ rfl A2 u3.drew u3.heap.size _ rfl R1.out rfl hA ⟨u3.heap.size + 1, 0, none⟩ 1 2 rfl [lo] rfl N1.out (by decide) ?_; intro v4 w4 hb4 hg4; have HB4 := hid hb4; have HK4 := hid ((((K2.out.alloc (rowOf A2 u3.drew)).alloc (.cells #[.int .u8 lo, .int .u8 hi] 5)).drew.drew).by hg4 (fun k hk => by cases hk; exact zW)); clear hb4 hg4) | (refine step_app rfl _ _ rfl A2 (u3.alloc (.cells #[.int .u8 lo, .int .u8 hi] 5)).drew (u3.heap.size + 1) _ rfl R2.out rfl hA ⟨u3.heap.size, 0, none⟩ 1 2 rfl [lo] rfl N2.out (by decide) ?_; intro v4 w4 hb4 hg4; have HB4 := hid hb4; have HK4 := hid ((((K2.out.alloc (.cells #[.int .u8 lo, .int .u8 hi] 5)).alloc (rowOf A2 (u3.alloc (.cells #[.int .u8 lo, .int .u8 hi] 5)).drew)).drew.drew).by hg4 (fun k hk => by cases hk; omega)); clear hb4 hg4))
      all_goals
        go_wp2
        go_ret2
        exact ⟨_, rfl, HB4.out, HK4.out⟩
end Go.Proofs.YtlchkflpaehgcaaDoor
