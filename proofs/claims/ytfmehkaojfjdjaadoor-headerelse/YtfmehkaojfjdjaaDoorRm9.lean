/- What Make of the document's answers of layer 7 comes to: the refusals, and all of it. -/
import Derived.Test.YtfmehkaojfjdjaaDoorRm8
namespace Go.Proofs.YtfmehkaojfjdjaaDoor
open Go.RowKit
set_option linter.unusedVariables false
set_option linter.unusedSimpArgs false

theorem all_no (t : List Int) (j : Nat) (h : j < t.length) (e : signB (t.getD j 0) = false) : t.all signB = false := by
  rw [List.all_eq_false]
  refine ⟨t[j], List.getElem_mem h, ?_⟩
  rw [List.getD_eq_getElem?_getD, List.getElem?_eq_getElem h] at e
  intro q
  have e2 : signB t[j] = false := e
  rw [e2] at q; cases q
theorem all_yes (t : List Int) (h : ∀ j, j < t.length → signB (t.getD j 0) = true) : t.all signB = true := by
  rw [List.all_eq_true]
  intro x hx
  obtain ⟨k, hk, rfl⟩ := List.getElem_of_mem hx
  have := h k hk
  rw [List.getD_eq_getElem?_getD, List.getElem?_eq_getElem hk] at this
  exact this
theorem makeE_long (t : List Int) (k r m : Int) (c : List Int) (h : 16 < t.length) : makeE t k r m c = 1 := by unfold makeE; rw [if_pos (.inl h)]
theorem makeE_sign (t : List Int) (k r m : Int) (c : List Int) (h : t.all signB = false) : makeE t k r m c = 1 := by unfold makeE; rw [if_pos (.inr h)]
theorem makeE_kind (t : List Int) (k r m : Int) (c : List Int) (h : ¬ 16 < t.length) (h2 : t.all signB = true) (h3 : kindOk k = false) : makeE t k r m c = 4 := by
  unfold makeE; rw [if_neg (by rw [h2]; intro q; rcases q with q | q; exact h q; cases q), if_pos h3]
theorem makeE_size (t : List Int) (k r m : Int) (c : List Int) (h : ¬ 16 < t.length) (h2 : t.all signB = true) (h3 : kindOk k = true) (h4 : 8 < r ∨ 5 < m ∨ mostOf r - 336 < (c.length : Int)) : makeE t k r m c = 5 := by
  unfold makeE; rw [if_neg (by rw [h2]; intro q; rcases q with q | q; exact h q; cases q), if_neg (by rw [h3]; decide), if_pos h4]
theorem make_small (t : List Int) (k r m : Int) (c : List Int) (h : ¬ 16 < t.length) (h2 : t.all signB = true) (h3 : kindOk k = true) (ne : makeE t k r m c ≠ 0) : 8 < r ∨ 5 < m ∨ mostOf r - 336 < (c.length : Int) := by
  apply Classical.byContradiction
  intro q
  apply ne
  unfold makeE
  rw [if_neg (by rw [h2]; intro q; rcases q with q | q; exact h q; cases q), if_neg (by rw [h3]; decide), if_neg q]
set_option maxRecDepth 100000 in
set_option maxHeartbeats 8000000 in
theorem rmake_no (T : ByteArray) (k r m : Int) (c : List Int) (a : Option Addr) (cap : Nat) (w : World) (k0 : 0 ≤ k) (k1 : k ≤ 255) (r0 : 0 ≤ r) (m0 : 0 ≤ m) (hsz : T.size ≤ maxLen) (hcl : c.length ≤ maxLen)
    (hE : makeE (byL T) k r m c ≠ 0) :
    Calls Tryd.prog 17 #[.string T, .int .u8 k, .int .u8 r, .int .u8 m, .slice a c.length cap] w fun e w' => e = .returned (.tuple #[.slice none 0 0, .int .i64 (makeE (byL T) k r m c)]) ∧ Kept w w' := by
  by_cases hT : 16 < T.size
  · have E := hid (makeE_long (byL T) k r m c (by rw [byL_len]; exact hT))
    have t16 : (16 : Int) < (T.size : Int) := by omega
    go_enter Tryd.func17, Tryd.ntmps17
    go_wp2
    exact bodyPost_ret (v := .tuple #[.slice none 0 0, .int .i64 1]) (by simp [results, Tryd.results17, go_sem]) rfl ⟨by rw [E.out], Kept.refl _⟩
  · have CK := hid (fun u => rkinds_any k u k0 k1)
    have ES := hid (makeE_sign (byL T) k r m c)
    have EK := hid (makeE_kind (byL T) k r m c (by rw [byL_len]; exact hT))
    have EZ := hid (makeE_size (byL T) k r m c (by rw [byL_len]; exact hT))
    have HE := hid hE
    have MO := hid (make_small (byL T) k r m c (by rw [byL_len]; exact hT))
    obtain ⟨E, hEE⟩ : ∃ v, makeE (byL T) k r m c = v := ⟨_, rfl⟩
    rw [hEE] at ES EK EZ HE MO ⊢
    clear hE hEE
    have t16 : ¬ ((16 : Int) < (T.size : Int)) := by omega
    obtain ⟨LC, hLC⟩ : ∃ n : Nat, c.length = n := ⟨_, rfl⟩
    rw [hLC] at EZ MO hcl ⊢
    clear hLC
    obtain ⟨ok, hok⟩ : ∃ b, kindOk k = b := ⟨_, rfl⟩
    rw [hok] at CK EK EZ MO
    clear hok
    generalize kindH k = H at CK
    have CM := hid (fun u (h : r ≤ 8) => rmost_any r u r0 h)
    have MB := hid (fun (h : r ≤ 8) => most_fin ⟨r.toNat, by omega⟩)
    go_enter Tryd.func17, Tryd.ntmps17
    go_wp2
    go_loopw [12] (fun i wr => ∃ j : Nat, j ≤ T.size ∧ i = .int .i64 (j : Int) ∧ (∀ l, l < j → signB ((byL T).getD l 0) = true) ∧ wr = w) (fun i _ => T.size - (intOf i).toNat)
    case atStart => exact ⟨0, Nat.zero_le _, rfl, fun l h => absurd h (by omega), rfl⟩
    case round =>
      obtain ⟨j, hj, rfl, hyes, rfl⟩ := hrel
      have HY := hid hyes
      clear hyes
      by_cases hlt : j < T.size
      · have hl2 : (j : Int) < (T.size : Int) := by omega
        obtain ⟨y, hy⟩ : ∃ y, (byL T).getD j 0 = y := ⟨_, rfl⟩
        have ix := byL_run T j y hlt hy
        have CG := hid (fun u => rsigns_any y u)
        have HYY := hid hy
        clear hy
        cases hsg : signB y
        · rw [hsg] at CG
          have E1 := hid (ES.out (all_no _ j (by rw [byL_len]; exact hlt) (by rw [HYY.out]; exact hsg)))
          clear hsg
          go_wp2_with (go_at_call 22; refine (CG.out _).mono ?_; rintro e w' ⟨rfl, rfl⟩)
          exact bodyPost_ret (v := .tuple #[.slice none 0 0, .int .i64 1]) (by simp [results, Tryd.results17, go_sem]) rfl ⟨by rw [E1.out], Kept.refl _⟩
        · rw [hsg] at CG
          have NN := hid (show ∀ l, l < j + 1 → signB ((byL T).getD l 0) = true from fun l hl => by
            by_cases e : l = j
            · rw [e, HYY.out]; exact hsg
            · exact HY.out l (by omega))
          clear hsg
          go_wp2_with (go_at_call 22; refine (CG.out _).mono ?_; rintro e w' ⟨rfl, rfl⟩)
          go_roundw
          case rel => exact ⟨j + 1, by omega, by go_num, NN.out, by first | rfl | trivial⟩
          case measure => first | omega | (simp; omega) | (simp [intOf]; omega)
      · obtain rfl : j = T.size := by omega
        have hl2 : ¬ ((T.size : Int) < (T.size : Int)) := by omega
        have AY := hid (all_yes (byL T) (by rw [byL_len]; exact HY.out))
        go_wp2_with fail
        refine (CK.out _).mono ?_
        rintro e u1 ⟨rfl, g1⟩
        have K1 := hid (Kept.of g1)
        clear g1
        cases ok
        · have E4 := hid (EK.out AY.out rfl)
          go_wp2
          exact bodyPost_ret (v := .tuple #[.slice none 0 0, .int .i64 4]) (by simp [results, Tryd.results17, go_sem]) rfl ⟨by rw [E4.out], K1.out.alloc _⟩
        · have OR := hid (MO.out AY.out rfl HE.out)
          have E5 := hid (EZ.out AY.out rfl OR.out)
          by_cases r8 : 8 < r
          · go_wp2
            exact bodyPost_ret (v := .tuple #[.slice none 0 0, .int .i64 5]) (by simp [results, Tryd.results17, go_sem]) rfl ⟨by rw [E5.out], K1.out.alloc _⟩
          · by_cases m5 : 5 < m
            · go_wp2
              exact bodyPost_ret (v := .tuple #[.slice none 0 0, .int .i64 5]) (by simp [results, Tryd.results17, go_sem]) rfl ⟨by rw [E5.out], K1.out.alloc _⟩
            · have hbig : mostOf r - 336 < (LC : Int) := by rcases OR.out with h | h | h; exact absurd h r8; exact absurd h m5; exact h
              have r9 : r ≤ 8 := by omega
              have mb : 32768 ≤ mostOf r ∧ mostOf r ≤ 16777216 := MB.out r9
              have C2 := hid (fun u => CM.out u r9)
              clear OR CM MB E5
              obtain ⟨mb0, mb1⟩ := mb
              have E5 := hid (EZ.out AY.out rfl (.inr (.inr hbig)))
              generalize mostOf r = M at *
              go_wp2_with (go_at_call 21; refine (C2.out _).mono ?_; rintro e w' ⟨rfl, rfl⟩)
              exact bodyPost_ret (v := .tuple #[.slice none 0 0, .int .i64 5]) (by simp [results, Tryd.results17, go_sem]) rfl ⟨by rw [E5.out], K1.out.alloc _⟩
theorem rmake_any (T : ByteArray) (k r m : Int) (c : List Int) (a : Option Addr) (cap : Nat) (w : World) (row : Row w a c) (nil : a = none → cap = 0) (k0 : 0 ≤ k) (k1 : k ≤ 255) (r0 : 0 ≤ r) (m0 : 0 ≤ m) (hsz : T.size ≤ maxLen) :
    Calls Tryd.prog 17 #[.string T, .int .u8 k, .int .u8 r, .int .u8 m, .slice a c.length cap] w fun e w' => ∃ v, e = .returned (.tuple #[v, .int .i64 (makeE (byL T) k r m c)]) ∧ w'.ownsRow w.heap.size 5 1 v (makeB (byL T) k r m c).length ((makeB (byL T) k r m c).map (Value.int .u8)) ∧ Kept w w' := by
  by_cases hE : makeE (byL T) k r m c = 0
  · obtain ⟨h0, h1, h2, h3, h4, h5, h6⟩ := make_ok _ _ _ _ _ hE
    rw [byL_len] at h1
    rw [h0, hE]
    cases a with
    | some x =>
      refine (rmake_ok T k r m c x cap w row k0 k1 r0 h4 m0 h5 h1 h2 h3 h6).mono ?_
      rintro e w' ⟨g, cp, rfl, ho, hk⟩
      refine ⟨_, rfl, ?_, hk⟩
      unfold OwnB at ho
      rw [madeL_len] at ho ⊢
      exact ho
    | none =>
      obtain rfl : c = [] := by
        rcases row.2.2 with h | ⟨x, e, _⟩
        · exact h
        · cases e
      obtain rfl := nil rfl
      refine (rmake_nil T k r m w k0 k1 r0 h4 m0 h5 h1 h2 h3 (by have : ((([] : List Int).length : Nat) : Int) = 0 := rfl; omega)).mono ?_
      rintro e w' ⟨g, cp, rfl, ho, hk⟩
      refine ⟨_, rfl, ?_, hk⟩
      unfold OwnB at ho
      rw [madeL_len] at ho ⊢
      exact ho
  · refine (rmake_no T k r m c a cap w k0 k1 r0 m0 hsz row.1 hE).mono ?_
    rintro e w' ⟨rfl, hk⟩
    refine ⟨_, rfl, ?_, hk⟩
    unfold makeB
    rw [if_neg hE]
    exact World.ownsRow_nil _ _ _ _
end Go.Proofs.YtfmehkaojfjdjaaDoor
