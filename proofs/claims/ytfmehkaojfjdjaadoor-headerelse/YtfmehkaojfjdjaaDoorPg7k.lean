/- What Make of the program's layer 7 comes to. -/
import Derived.Test.YtfmehkaojfjdjaaDoorPg7j
import Derived.Test.YtfmehkaojfjdjaaDoorRm9
namespace Go.Proofs.YtfmehkaojfjdjaaDoor
open Go.RowKit
set_option linter.unusedVariables false
set_option linter.unusedSimpArgs false

theorem play_any (T : ByteArray) (k r m : Int) (c : List Int) (a : Option Addr) (cap : Nat) (w : World) (row : Row w a c) (hc : c.length ≤ 16777216) (k0 : 0 ≤ k) (k1 : k ≤ 255) (r0 : 0 ≤ r) (r1 : r ≤ 255) (m0 : 0 ≤ m) (m1 : m ≤ 255) (hT : T.size ≤ 16) :
    Calls Tryd.prog 30 #[.string T, .int .u8 k, .int .u8 r, .int .u8 m, .slice a c.length cap] w fun e w' => ∃ g cp, e = .returned (.slice (some ⟨g, 0, none⟩) (336 + c.length) cp) ∧ OwnB w' w.heap.size g cp (madeL (byL T) k r m c) ∧ Kept w w' := by
  by_cases h0 : 0 < c.length
  · obtain ⟨x, rfl, _⟩ := row_get row h0
    exact play_some T k r m c x cap w row h0 hc k0 k1 r0 r1 m0 m1 hT
  · obtain rfl : c = [] := List.eq_nil_of_length_eq_zero (by omega)
    exact play_none T k r m a cap w k0 k1 r0 r1 m0 m1 hT
theorem own_nil7 (w : World) (base : Nat) : w.ownsRow base 5 1 (.slice none 0 0) ([] : List Int).length (([] : List Int).map (Value.int .u8)) := ⟨rfl, .inl ⟨rfl, rfl⟩⟩
theorem owns_set {w : World} {base g cap : Nat} {L : List Int} (h : OwnB w base g cap L) {b : Nat} (ne : b ≠ g) (j : Nat) (v : Value) : OwnB (w.setCell ⟨b, j, none⟩ v) base g cap L := by
  obtain ⟨h0, h | ⟨g2, cap2, cur, e, hb, hh, hr⟩⟩ := h
  · cases h.1
  · cases e
    exact ⟨h0, .inr ⟨g, cap, cur, rfl, hb, by rw [heap_setCell_other w ⟨b, j, none⟩ g v (fun e => ne e.symm)]; exact hh, hr⟩⟩
theorem owns_base {w : World} {b1 b2 g cap : Nat} {L : List Int} (h : OwnB w b1 g cap L) (hb : b2 ≤ b1) : OwnB w b2 g cap L := by
  obtain ⟨h0, h | ⟨g2, cap2, cur, e, h1, hh, hr⟩⟩ := h
  · cases h.1
  · exact ⟨h0, .inr ⟨g2, cap2, cur, e, Nat.le_trans hb h1, hh, hr⟩⟩
set_option maxRecDepth 100000 in
set_option maxHeartbeats 4000000 in
theorem pmake_ok (T : ByteArray) (k r m : Int) (c : List Int) (a : Option Addr) (cap : Nat) (w : World) (lay : Lay7 w) (row : Row w a c) (k0 : 0 ≤ k) (k1 : k ≤ 255) (r0 : 0 ≤ r) (r1 : r ≤ 255) (m0 : 0 ≤ m) (m1 : m ≤ 255) (hsz : T.size ≤ maxLen)
    (ok : makeE (byL T) k r m c = 0) :
    Calls Tryd.prog 16 #[.string T, .int .u8 k, .int .u8 r, .int .u8 m, .slice a c.length cap] w fun e w' => ∃ g cp, e = .returned (.tuple #[.slice (some ⟨g, 0, none⟩) (336 + c.length) cp, .int .i64 0]) ∧ OwnB w' w.heap.size g cp (madeL (byL T) k r m c) ∧ Kept w w' := by
  have hmf : ∀ (fn : Fn) (first cap : Array Value) (w : World), (Instr.makeFunc fn first cap).run Tryd.prog w = .ok (.func fn first cap) w := fun _ _ _ _ => rfl
  obtain ⟨_, h1, h2, h3, h4, h5, h6⟩ := make_ok _ _ _ _ _ ok
  have SO : signsOk T := ⟨by rw [← byL_len]; exact h1, h2⟩
  have MB : 32768 ≤ mostOf r ∧ mostOf r ≤ 16777216 := most_fin ⟨r.toNat, by omega⟩
  have hc : c.length ≤ 16777216 := by omega
  have CT := hid (fun u => pchkt_any T u hsz)
  have CK := hid (fun u (g : Kept w u) => ptraits_any k u (lay.kept g) k0 k1)
  have CZ := hid (fun u => psize_ok r m (336 + (c.length : Int)) u r0 m0 m1 (by unfold sizeBad; omega))
  have CL := hid (fun u (g : Kept w u) => play_any T k r m c a cap u (row_kept g row) hc k0 k1 r0 r1 m0 m1 SO.1)
  rw [h3] at CK
  generalize madeL (byL T) k r m c = ML at *
  generalize c.length = n at *
  have wn : IntKind.i64.wrap (336 + (n : Int)) = 336 + (n : Int) := by rw [IntKind.wrap_i64]; omega
  unfold traitsV at CK
  clear lay row MB h6 h3
  go_enter_defers Tryd.func16, Tryd.ntmps16
  go_wp2_with fail
  refine (CT.out _).mono ?_
  rintro e u1 ⟨h, g1⟩
  obtain ⟨_, rfl⟩ := h.resolve_right (fun q => q.1 SO)
  have K1 := hid (((Kept.refl w).alloc _).trans g1)
  have HE := hid (has_kept7 g1 (has_alloc w #[.int .i64 0] 27))
  have FE : Hid (∀ o, u1.frozen? ⟨w.heap.size, o, none⟩ = false) := hid (fun o => by
    rw [g1.froz (x := ⟨w.heap.size, o, none⟩) (by simp)]
    exact grown_froz (alloc1 w _ _) (Nat.le_refl _) o)
  clear h g1
  go_wp2_with fail
  refine (CK.out _ K1.out).mono ?_
  rintro e u2 ⟨h, g2⟩
  obtain ⟨_, rfl⟩ := h.resolve_right (fun q => by cases q.1)
  have K2 := hid (K1.out.trans (Kept.of g2))
  have K12 := hid (Kept.of g2)
  clear h g2
  go_wp2_with fail
  refine (CZ.out _).mono ?_
  rintro e u3 ⟨rfl, rfl⟩
  go_wp2_with fail
  refine (CL.out _ K2.out).mono ?_
  rintro e u4 ⟨g, cp, rfl, o4, k4⟩
  have O4 := hid o4
  have K14 := hid (K12.out.trans k4)
  have K4 := hid (K2.out.trans k4)
  have gb := (ownB_lt o4).1
  have z2 := K2.out.size
  have HB := has_kept7 K14.out HE.out
  have b0 := HB.2 0
  simp at b0
  have zb := HB.1
  have fb : ∀ o, u4.frozen? ⟨w.heap.size, o, none⟩ = false := fun o => by
    rw [K14.out.froz (x := ⟨w.heap.size, o, none⟩) HE.out.1]; exact FE.out o
  have gn : w.heap.size ≠ g := by
    have := Nat.lt_of_lt_of_le HE.out.1 K12.out.size
    omega
  have O5 := hid (show OwnB (u4.setCell ⟨w.heap.size, 0, none⟩ (.int .i64 0)) u3.heap.size g cp ML from owns_set o4 gn _ _)
  clear o4 k4 HB
  go_wp2
  refine leaves_cons (f := 26) (args := #[.pointer (some ⟨w.heap.size, 0, none⟩)]) (by simp) (by simp [go_sem]) ?_
  refine (catchMake_idle ⟨w.heap.size, 0, none⟩ _).mono ?_
  rintro e u' w'' ⟨rfl, rfl, rfl⟩
  refine ⟨.tuple #[.slice (some ⟨g, 0, none⟩) (336 + n) cp, .int .i64 0], by simp [results, Tryd.results16, go_sem, b0, zb], g, cp, rfl, owns_base O5.out (K2.out.size), K4.out.setCell (Nat.le_refl _) _ _⟩
set_option maxRecDepth 100000 in
theorem pmake_title (T : ByteArray) (k r m : Int) (c : List Int) (a : Option Addr) (cap : Nat) (w : World) (lay : Lay7 w) (k0 : 0 ≤ k) (k1 : k ≤ 255) (r0 : 0 ≤ r) (m0 : 0 ≤ m) (m1 : m ≤ 255) (hsz : T.size ≤ maxLen) (hcl : c.length ≤ 140737488355328) (no : ¬ signsOk T) :
    Calls Tryd.prog 16 #[.string T, .int .u8 k, .int .u8 r, .int .u8 m, .slice a c.length cap] w fun e w' => e = .returned (.tuple #[.slice none 0 0, .int .i64 1]) ∧ Kept w w' := by
  have hmf : ∀ (fn : Fn) (first cap : Array Value) (w : World), (Instr.makeFunc fn first cap).run Tryd.prog w = .ok (.func fn first cap) w := fun _ _ _ _ => rfl
  have CT := hid (fun u => pchkt_any T u hsz)
  generalize c.length = n at *
  go_enter_defers Tryd.func16, Tryd.ntmps16
  go_wp2_with fail
  refine (CT.out _).mono ?_
  rintro e u1 ⟨h, g1⟩
  obtain ⟨_, rfl⟩ := h.resolve_left (fun q => no q.1)
  have K1 := hid (((Kept.refl w).alloc _).trans g1)
  have HE := has_kept7 g1 (has_alloc w #[.int .i64 0] 27)
  have FE : ∀ o, u1.frozen? ⟨w.heap.size, o, none⟩ = false := fun o => by
    rw [g1.froz (x := ⟨w.heap.size, o, none⟩) (by simp)]
    exact grown_froz (alloc1 w _ _) (Nat.le_refl _) o
  have b0 := HE.2 0
  simp at b0
  have zb := HE.1
  have fb := FE
  clear h g1 HE FE
  go_wp2
  refine leaves_cons (f := 26) (args := #[.pointer (some ⟨w.heap.size, 0, none⟩)]) (by simp) (by simp [go_sem]) ?_
  refine (catchMake_yes ⟨w.heap.size, 0, none⟩ 0 1 [] _ b0 (fb 0)).mono ?_
  rintro e u' w'' ⟨rfl, rfl, rfl⟩
  refine ⟨.tuple #[.slice none 0 0, .int .i64 1], by simp [results, Tryd.results16, go_sem, b0, zb], rfl, K1.out.setCell (Nat.le_refl _) _ _⟩
set_option maxRecDepth 100000 in
theorem pmake_kind (T : ByteArray) (k r m : Int) (c : List Int) (a : Option Addr) (cap : Nat) (w : World) (lay : Lay7 w) (k0 : 0 ≤ k) (k1 : k ≤ 255) (r0 : 0 ≤ r) (m0 : 0 ≤ m) (m1 : m ≤ 255) (hsz : T.size ≤ maxLen) (hcl : c.length ≤ 140737488355328) (SO : signsOk T) (no : kindOk k = false) :
    Calls Tryd.prog 16 #[.string T, .int .u8 k, .int .u8 r, .int .u8 m, .slice a c.length cap] w fun e w' => e = .returned (.tuple #[.slice none 0 0, .int .i64 4]) ∧ Kept w w' := by
  have hmf : ∀ (fn : Fn) (first cap : Array Value) (w : World), (Instr.makeFunc fn first cap).run Tryd.prog w = .ok (.func fn first cap) w := fun _ _ _ _ => rfl
  have CT := hid (fun u => pchkt_any T u hsz)
  have CK := hid (fun u (g : Kept w u) => ptraits_any k u (lay.kept g) k0 k1)
  rw [no] at CK
  generalize c.length = n at *
  clear lay
  go_enter_defers Tryd.func16, Tryd.ntmps16
  go_wp2_with fail
  refine (CT.out _).mono ?_
  rintro e u1 ⟨h, g1⟩
  obtain ⟨_, rfl⟩ := h.resolve_right (fun q => q.1 SO)
  have K1 := hid (((Kept.refl w).alloc _).trans g1)
  have HE := has_kept7 g1 (has_alloc w #[.int .i64 0] 27)
  have FE : ∀ o, u1.frozen? ⟨w.heap.size, o, none⟩ = false := fun o => by
    rw [g1.froz (x := ⟨w.heap.size, o, none⟩) (by simp)]
    exact grown_froz (alloc1 w _ _) (Nat.le_refl _) o
  clear h g1
  go_wp2_with fail
  refine (CK.out _ K1.out).mono ?_
  rintro e u2 ⟨h, g2⟩
  obtain ⟨_, rfl⟩ := h.resolve_left (fun q => by cases q.1)
  have K2 := hid (K1.out.trans (Kept.of g2))
  have HB := has_kept7 (Kept.of g2) HE
  have b0 := HB.2 0
  simp at b0
  have zb := HB.1
  have fb : ∀ o, u2.frozen? ⟨w.heap.size, o, none⟩ = false := fun o => by
    rw [(Kept.of g2).froz (x := ⟨w.heap.size, o, none⟩) HE.1]; exact FE o
  clear h g2 HE FE HB
  go_wp2
  refine leaves_cons (f := 26) (args := #[.pointer (some ⟨w.heap.size, 0, none⟩)]) (by simp) (by simp [go_sem]) ?_
  refine (catchMake_yes ⟨w.heap.size, 0, none⟩ 0 4 [] _ b0 (fb 0)).mono ?_
  rintro e u' w'' ⟨rfl, rfl, rfl⟩
  refine ⟨.tuple #[.slice none 0 0, .int .i64 4], by simp [results, Tryd.results16, go_sem, b0, zb], rfl, K2.out.setCell (Nat.le_refl _) _ _⟩
set_option maxRecDepth 100000 in
theorem pmake_size (T : ByteArray) (k r m : Int) (c : List Int) (a : Option Addr) (cap : Nat) (w : World) (lay : Lay7 w) (k0 : 0 ≤ k) (k1 : k ≤ 255) (r0 : 0 ≤ r) (m0 : 0 ≤ m) (m1 : m ≤ 255) (hsz : T.size ≤ maxLen) (hcl : c.length ≤ 140737488355328) (SO : signsOk T) (hk : kindOk k = true) (no : sizeBad r m (336 + (c.length : Int))) :
    Calls Tryd.prog 16 #[.string T, .int .u8 k, .int .u8 r, .int .u8 m, .slice a c.length cap] w fun e w' => e = .returned (.tuple #[.slice none 0 0, .int .i64 5]) ∧ Kept w w' := by
  have hmf : ∀ (fn : Fn) (first cap : Array Value) (w : World), (Instr.makeFunc fn first cap).run Tryd.prog w = .ok (.func fn first cap) w := fun _ _ _ _ => rfl
  have CT := hid (fun u => pchkt_any T u hsz)
  have CK := hid (fun u (g : Kept w u) => ptraits_any k u (lay.kept g) k0 k1)
  rw [hk] at CK
  unfold traitsV at CK
  have CZ := hid (fun u => psize_no r m (336 + (c.length : Int)) u r0 m0 m1 no)
  generalize c.length = n at *
  have wn : IntKind.i64.wrap (336 + (n : Int)) = 336 + (n : Int) := by rw [IntKind.wrap_i64]; omega
  clear lay
  go_enter_defers Tryd.func16, Tryd.ntmps16
  go_wp2_with fail
  refine (CT.out _).mono ?_
  rintro e u1 ⟨h, g1⟩
  obtain ⟨_, rfl⟩ := h.resolve_right (fun q => q.1 SO)
  have K1 := hid (((Kept.refl w).alloc _).trans g1)
  have HE := has_kept7 g1 (has_alloc w #[.int .i64 0] 27)
  have FE : ∀ o, u1.frozen? ⟨w.heap.size, o, none⟩ = false := fun o => by
    rw [g1.froz (x := ⟨w.heap.size, o, none⟩) (by simp)]
    exact grown_froz (alloc1 w _ _) (Nat.le_refl _) o
  clear h g1
  go_wp2_with fail
  refine (CK.out _ K1.out).mono ?_
  rintro e u2 ⟨h, g2⟩
  obtain ⟨_, rfl⟩ := h.resolve_right (fun q => by cases q.1)
  have K2 := hid (K1.out.trans (Kept.of g2))
  have HB := has_kept7 (Kept.of g2) HE
  have b0 := HB.2 0
  simp at b0
  have zb := HB.1
  have fb : ∀ o, u2.frozen? ⟨w.heap.size, o, none⟩ = false := fun o => by
    rw [(Kept.of g2).froz (x := ⟨w.heap.size, o, none⟩) HE.1]; exact FE o
  clear h g2 HE FE HB
  go_wp2_with fail
  refine (CZ.out _).mono ?_
  rintro e u3 ⟨rfl, rfl⟩
  go_wp2
  refine leaves_cons (f := 26) (args := #[.pointer (some ⟨w.heap.size, 0, none⟩)]) (by simp) (by simp [go_sem]) ?_
  refine (catchMake_yes ⟨w.heap.size, 0, none⟩ 0 5 [] _ b0 (fb 0)).mono ?_
  rintro e u' w'' ⟨rfl, rfl, rfl⟩
  refine ⟨.tuple #[.slice none 0 0, .int .i64 5], by simp [results, Tryd.results16, go_sem, b0, zb], rfl, K2.out.setCell (Nat.le_refl _) _ _⟩
theorem hmake_any (T : ByteArray) (k r m : Int) (c : List Int) (a : Option Addr) (cap : Nat) (w : World) (lay : Lay7 w) (row : Row w a c) (hcl : c.length ≤ 140737488355328) (k0 : 0 ≤ k) (k1 : k ≤ 255) (r0 : 0 ≤ r) (r1 : r ≤ 255) (m0 : 0 ≤ m) (m1 : m ≤ 255) (hsz : T.size ≤ maxLen) :
    Calls Tryd.prog 16 #[.string T, .int .u8 k, .int .u8 r, .int .u8 m, .slice a c.length cap] w fun e w' => ∃ v, e = .returned (.tuple #[v, .int .i64 (makeE (byL T) k r m c)]) ∧ w'.ownsRow w.heap.size 5 1 v (makeB (byL T) k r m c).length ((makeB (byL T) k r m c).map (Value.int .u8)) ∧ Kept w w' := by
  by_cases h0 : makeE (byL T) k r m c = 0
  · rw [(make_ok _ _ _ _ _ h0).1, h0]
    refine (pmake_ok T k r m c a cap w lay row k0 k1 r0 r1 m0 m1 hsz h0).mono fun e w' ⟨g, cp, he, ho, hk⟩ => ⟨_, he, ?_, hk⟩
    unfold OwnB at ho
    rw [madeL_len] at ho ⊢
    exact ho
  have E : makeB (byL T) k r m c = [] := by unfold makeB; rw [if_neg h0]
  rw [E]
  have fin : ∀ n : Int, makeE (byL T) k r m c = n → (Calls Tryd.prog 16 #[.string T, .int .u8 k, .int .u8 r, .int .u8 m, .slice a c.length cap] w fun e w' => e = .returned (.tuple #[.slice none 0 0, .int .i64 n]) ∧ Kept w w') →
      Calls Tryd.prog 16 #[.string T, .int .u8 k, .int .u8 r, .int .u8 m, .slice a c.length cap] w fun e w' => ∃ v, e = .returned (.tuple #[v, .int .i64 (makeE (byL T) k r m c)]) ∧ w'.ownsRow w.heap.size 5 1 v ([] : List Int).length (([] : List Int).map (Value.int .u8)) ∧ Kept w w' := fun n hn h => by
    rw [hn]
    exact h.mono fun e w' ⟨he, hk⟩ => ⟨_, he, own_nil7 _ _, hk⟩
  by_cases h1 : signsOk T
  · by_cases h2 : kindOk k = true
    · have SA : (byL T).all signB = true := List.all_eq_true.2 h1.2
      have LT : ¬ 16 < (byL T).length := by rw [byL_len]; have := h1.1; omega
      have h3 := make_small (byL T) k r m c LT SA h2 h0
      exact fin 5 (makeE_size _ _ _ _ _ LT SA h2 h3) (pmake_size T k r m c a cap w lay k0 k1 r0 m0 m1 hsz hcl h1 h2 (by unfold sizeBad; omega))
    · have SA : (byL T).all signB = true := List.all_eq_true.2 h1.2
      have LT : ¬ 16 < (byL T).length := by rw [byL_len]; have := h1.1; omega
      exact fin 4 (makeE_kind _ _ _ _ _ LT SA (by simpa using h2)) (pmake_kind T k r m c a cap w lay k0 k1 r0 m0 m1 hsz hcl h1 (by simpa using h2))
  · refine fin 1 ?_ (pmake_title T k r m c a cap w lay k0 k1 r0 m0 m1 hsz hcl h1)
    by_cases hT : 16 < T.size
    · exact makeE_long _ _ _ _ _ (by rw [byL_len]; exact hT)
    · refine makeE_sign _ _ _ _ _ ?_
      cases hA : (byL T).all signB with
      | false => rfl
      | true => exact absurd ⟨by omega, List.all_eq_true.1 hA⟩ h1
theorem hwhole_any (z : List Int) (a : Option Addr) (cap : Nat) (w : World) (row : Row w a z) : Calls Tryd.prog 14 #[.slice a z.length cap] w fun e w' => e = .returned (.int .u16 (wholeOf z)) ∧ Kept w w' :=
  (pwhole_any z a cap w row).mono fun e w' ⟨he, hw⟩ => ⟨he, by rw [hw]; exact Kept.refl _⟩
end Go.Proofs.YtfmehkaojfjdjaaDoor
