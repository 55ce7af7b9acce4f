/- What titleOf, checkTitle and Whole of the program's layer 7 come to. -/
import Derived.Test.YtfmddnekooojkaaGreatDoorG23
import Derived.Laws.IdiomStrings
namespace Go.Proofs.YtfmddnekooojkaaGreatDoor
open Go.RowKit
set_option linter.unusedVariables false
set_option linter.unusedSimpArgs false

theorem tit_conv (z : List Int) (x : Addr) (k c : Nat) (w : World) (hz : 336 ≤ z.length) (hk : k ≤ 16) (hc : ∀ i, i < 336 → w.cell? (x.add i) = some (.int .u8 (z.getD i 0)) ∧ InByte (z.getD i 0)) :
    (convert 22 9 (.slice (some ⟨x.block, x.off + 308, none⟩) k c)).run Tryz.prog w = .ok (.string (strB (titTo z k))) w := by
  have L : (titTo z k).length = k := by unfold titTo; rw [List.length_take, List.length_drop]; omega
  have := conv_cells w ⟨x.block, x.off + 308, none⟩ c (titTo z k) (fun j u hj => by
    rw [List.getElem?_map] at hj
    have hj2 : j < k := by
      by_cases q : j < (titTo z k).length
      · omega
      · rw [List.getElem?_eq_none (by omega)] at hj; cases hj
    have e := (hc (308 + j) (by omega)).1
    rw [← add_add] at e
    have a308 : x.add 308 = ⟨x.block, x.off + 308, none⟩ := by simp [Addr.add]
    rw [a308] at e
    rw [e, ← hj]
    unfold titTo
    rw [List.getElem?_take_of_lt hj2, List.getElem?_drop, List.getD_eq_getElem?_getD, List.getElem?_eq_getElem (by omega)]
    rfl)
  rw [L] at this
  exact this
set_option maxRecDepth 100000 in
theorem ptitle_any (z : List Int) (x : Addr) (n cap : Nat) (w : World) (hn : 336 ≤ n) (hm : n ≤ maxLen) (hcap : n ≤ cap) (hcm : cap ≤ maxLen) (hz : 336 ≤ z.length) (hb : x.block < w.heap.size) (hc : ∀ i, i < 336 → w.cell? (x.add i) = some (.int .u8 (z.getD i 0)) ∧ InByte (z.getD i 0)) :
    Calls Tryz.prog 75 #[.slice (some x) n cap] w fun e w' => e = .returned (.string (strB (titL z))) ∧ w' = w := by
  have HC := hid hc
  have CV := hid (fun k (hk : k ≤ 16) c => tit_conv z x k c w hz hk hc)
  unfold maxLen at hm hcm
  have s1 : (333 : Int) ≤ (cap : Int) := by omega
  clear hc
  go_enter Tryz.func75, Tryz.ntmps75
  go_wp2
  go_loopw [3] (fun i wr => ∃ k : Nat, k ≤ 16 ∧ i = .int .i64 (k : Int) ∧ (∀ j, j < k → signB (z.getD (308 + j) 0) = true) ∧ wr = w) (fun i _ => 16 - (intOf i).toNat)
  case atStart => exact ⟨0, by omega, rfl, fun j h => absurd h (by omega), rfl⟩
  case round =>
    obtain ⟨k, hk, rfl, hy, rfl⟩ := hrel
    have HY := hid hy
    clear hy
    have cv := CV.out k hk
    have t1 : (308 + (k : Int)).toNat = 308 + k := by omega
    have t2 : 308 + k - 308 = k := by omega
    have t3 : 308 + (k : Int) ≤ (cap : Int) := by omega
    have t4 : (308 : Int) ≤ 308 + (k : Int) := by omega
    by_cases hlt : k < 16
    · have hlt2 : (k : Int) < 16 := by omega
      have d2 : decide ((k : Int) < 16) = true := decide_eq_true hlt2
      have ck := (HC.out (308 + k) (by omega)).1
      obtain ⟨y, hyy⟩ : ∃ y, z.getD (308 + k) 0 = y := ⟨_, rfl⟩
      rw [hyy] at ck
      have C := hid (fun u => pprint_any y u)
      have i1 : 308 + (k : Int) < (n : Int) := by omega
      cases hs : signB y
      · have E := hid (tit_end z k hz hlt HY.out (by rw [hyy]; exact hs))
        rw [hs] at C
        clear hs hyy
        go_wp2_with (go_at_call 80; refine (C.out _).mono ?_; rintro e w' ⟨rfl, rfl⟩)
        go_ret
        exact ⟨by rw [E.out]; rfl, rfl⟩
      · have NN := hid (show ∀ j, j < k + 1 → signB (z.getD (308 + j) 0) = true from fun j hj => by
          by_cases e : j = k
          · rw [e, hyy]; exact hs
          · exact HY.out j (by omega))
        rw [hs] at C
        clear hs hyy
        go_wp2_with (go_at_call 80; refine (C.out _).mono ?_; rintro e w' ⟨rfl, rfl⟩)
        go_roundw
        case rel => exact ⟨k + 1, by omega, by go_num, NN.out, by trivial⟩
        case measure => first | omega | (simp; omega) | (simp [intOf]; omega)
    · obtain rfl : k = 16 := by omega
      have E := hid (tit_full z hz HY.out)
      go_wp2
      go_ret
      exact ⟨by rw [E.out]; rfl, rfl⟩
def gcT (A : ByteArray) (u : World) : Nat := grownCap u A.size 0 5
def rowT (A : ByteArray) (u : World) : Obj := .cells (bytesRow A (gcT A u)) 5 ((bytesRow A (gcT A u)).size, (bytesRow A (gcT A u)).size + 1)
theorem convT (A : ByteArray) (u : World) : (convert 9 22 (.string A)).run Tryz.prog u = .ok (.slice (some ⟨u.heap.size, 0, none⟩) A.size (gcT A u)) (u.alloc (rowT A u)).drew :=
  run_bytes_of_string (P := Tryz.prog) u 9 22 5 A Tryz.underlying9 Tryz.underlying22 Tryz.underlying5
theorem cellT (A : ByteArray) (u : World) (j : Nat) (h : j < A.size) : (u.alloc (rowT A u)).cell? ⟨u.heap.size, j, none⟩ = some (.int .u8 ((byL A).getD j 0)) := by
  unfold rowT
  rw [World.cell?_alloc_mark]
  unfold bytesRow
  have h2 : j < A.data.size := h
  rw [Array.getElem?_append_left (by simpa using h2), byL_get A j h]
  simp [h2]
  exact ⟨A.data[j], by simp [h2], rfl⟩
def signsOk (T : ByteArray) : Prop := T.size ≤ 16 ∧ ∀ y ∈ byL T, signB y = true
theorem byL_sign {T : ByteArray} (h : ∀ j, j < T.size → signB ((byL T).getD j 0) = true) : ∀ y ∈ byL T, signB y = true := by
  intro y hy
  obtain ⟨j, hj, rfl⟩ := List.getElem_of_mem hy
  have := h j (by rw [← byL_len]; exact hj)
  rw [List.getD_eq_getElem?_getD, List.getElem?_eq_getElem hj] at this
  exact this
set_option maxRecDepth 100000 in
theorem pchkt_any (T : ByteArray) (w : World) (hsz : T.size ≤ maxLen) : Calls Tryz.prog 69 #[.string T] w fun e w' => ((signsOk T ∧ e = .returned (.tuple #[])) ∨ (¬ signsOk T ∧ e = .panicked (pan 1))) ∧ Kept w w' := by
  by_cases hT : 16 < T.size
  · have t16 : (16 : Int) < (T.size : Int) := by omega
    have N := hid (show ¬ signsOk T from fun h => by have := h.1; omega)
    go_enter Tryz.func69, Tryz.ntmps69
    go_wp2
    exact ⟨rfl, .inr ⟨N.out, rfl⟩, Kept.refl _⟩
  · have t16 : ¬ ((16 : Int) < (T.size : Int)) := by omega
    have cv := convT T w
    have CL := hid (cellT T w)
    have zz : w.heap.size < w.heap.size + 1 := by omega
    go_enter Tryz.func69, Tryz.ntmps69
    go_wp2
    go_loopw [11] (fun i wr => ∃ k : Nat, k ≤ T.size ∧ i = .int .i64 (k : Int) ∧ (∀ j, j < k → signB ((byL T).getD j 0) = true) ∧ wr = (w.alloc (rowT T w)).drew) (fun i _ => T.size - (intOf i).toNat)
    case atStart => exact ⟨0, by omega, rfl, fun j h => absurd h (by omega), rfl⟩
    case round =>
      obtain ⟨k, hk, rfl, hy, rfl⟩ := hrel
      have HY := hid hy
      clear hy
      by_cases hlt : k < T.size
      · have hlt2 : (k : Int) < (T.size : Int) := by omega
        have ck := CL.out k hlt
        obtain ⟨y, hyy⟩ : ∃ y, (byL T).getD k 0 = y := ⟨_, rfl⟩
        rw [hyy] at ck
        have C := hid (fun u => pprint_any y u)
        cases hs : signB y
        · have N := hid (show ¬ signsOk T from fun h => by
            have := h.2 y (by rw [← hyy, List.getD_eq_getElem?_getD, List.getElem?_eq_getElem (by rw [byL_len]; exact hlt)]; exact List.getElem_mem _)
            rw [hs] at this; cases this)
          rw [hs] at C
          clear hs hyy
          go_wp2_with (go_at_call 80; refine (C.out _).mono ?_; rintro e w' ⟨rfl, rfl⟩)
          exact ⟨rfl, .inr ⟨N.out, rfl⟩, ((Kept.refl _).alloc _).drew⟩
        · have NN := hid (show ∀ j, j < k + 1 → signB ((byL T).getD j 0) = true from fun j hj => by
            by_cases e : j = k
            · rw [e, hyy]; exact hs
            · exact HY.out j (by omega))
          rw [hs] at C
          clear hs hyy
          go_wp2_with (go_at_call 80; refine (C.out _).mono ?_; rintro e w' ⟨rfl, rfl⟩)
          go_roundw
          case rel => exact ⟨k + 1, by omega, by go_num, NN.out, by trivial⟩
          case measure => first | omega | (simp; omega) | (simp [intOf]; omega)
      · obtain rfl : k = T.size := by omega
        have hl2 : ¬ ((T.size : Int) < (T.size : Int)) := by omega
        have Y := hid (show signsOk T from ⟨by omega, byL_sign HY.out⟩)
        go_wp2
        go_end0
        exact ⟨.inl ⟨Y.out, rfl⟩, ((Kept.refl _).alloc _).drew⟩
set_option maxRecDepth 100000 in
theorem pwhole_any (z : List Int) (a : Option Addr) (cap : Nat) (w : World) (row : Row w a z) : Calls Tryz.prog 82 #[.slice a z.length cap] w fun e w' => e = .returned (.int .u16 (wholeOf z)) ∧ w' = w := by
  have hm : z.length ≤ maxLen := row.1
  unfold wholeOf
  have HR := hid row
  obtain ⟨n, hn⟩ : ∃ n, z.length = n := ⟨_, rfl⟩
  have HN := hid hn
  rw [hn] at hm ⊢
  clear row hn
  go_enter Tryz.func82, Tryz.ntmps82
  go_wp2
  go_loopw [3, 8] (fun v i wr => ∃ k : Nat, k ≤ n ∧ v = .int .u16 (wholeTo z k) ∧ i = .int .i64 (k : Int) ∧ wr = w) (fun _ i _ => n - (intOf i).toNat)
  case atStart => exact ⟨0, by omega, rfl, rfl, rfl⟩
  case round =>
    obtain ⟨k, hk, rfl, rfl, rfl⟩ := hrel
    have sb := wholeTo_bd z k
    by_cases hlt : k < n
    · have hlt2 : (k : Int) < (n : Int) := by omega
      obtain ⟨x, rfl, hx, hc⟩ := row_get HR.out (by rw [HN.out]; omega)
      obtain ⟨ck, y0, y1⟩ := hc k (by rw [HN.out]; exact hlt)
      have w0 : IntKind.i64.wrap ((k : Int) + 1) = (k : Int) + 1 := by unfold maxLen at hm; rw [IntKind.wrap_i64]; omega
      clear hc
      by_cases h3 : k = 334 ∨ k = 335
      · have E := hid (show wholeTo z (k + 1) = wholeTo z k by simp [wholeTo, h3])
        generalize wholeTo z k = S at *
        rcases h3 with rfl | rfl
        · have ck2 := ck
          rw [show x.add 334 = ⟨x.block, x.off + 334, none⟩ by simp [Addr.add]] at ck2
          go_wp2
          go_roundw
          case rel => exact ⟨334 + 1, by omega, by rw [E.out], by go_num, by trivial⟩
          case measure => first | omega | (simp; omega) | (simp [intOf]; omega)
        · have ck2 := ck
          rw [show x.add 335 = ⟨x.block, x.off + 335, none⟩ by simp [Addr.add]] at ck2
          go_wp2
          go_roundw
          case rel => exact ⟨335 + 1, by omega, by rw [E.out], by go_num, by trivial⟩
          case measure => first | omega | (simp; omega) | (simp [intOf]; omega)
      · have n1 : ((k : Int) != 334) = true := by simp; omega
        have n2 : ((k : Int) != 335) = true := by simp; omega
        have E := hid (show wholeTo z (k + 1) = (wholeTo z k + z.getD k 0) % 65536 by simp [wholeTo, h3])
        generalize z.getD k 0 = y at *
        generalize wholeTo z k = S at *
        have w2 : IntKind.u16.wrap y = y := by rw [IntKind.wrap_u16]; omega
        have w1 : IntKind.u16.wrap (S + y) = (S + y) % 65536 := by rw [IntKind.wrap_u16]
        clear h3
        go_wp2
        go_roundw
        case rel => exact ⟨k + 1, by omega, by rw [E.out], by go_num, by trivial⟩
        case measure => first | omega | (simp; omega) | (simp [intOf]; omega)
    · obtain rfl : k = n := by omega
      have hl2 : ¬ ((k : Int) < (k : Int)) := by omega
      generalize hS : wholeTo z k = S at *
      have HS := hid hS
      clear hS
      go_wp2
      go_ret
      exact ⟨by rw [HS.out]; rfl, rfl⟩
end Go.Proofs.YtfmddnekooojkaaGreatDoor
