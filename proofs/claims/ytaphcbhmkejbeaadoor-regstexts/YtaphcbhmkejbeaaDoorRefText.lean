/- The document's answers of layer 4: names, words, Text. -/
import Derived.Test.YtaphcbhmkejbeaaDoorRows
import Derived.Test.YtaphcbhmkejbeaaDoorBits
import Derived.Test.YtaphcbhmkejbeaaDoorGrow
import Derived.Test.YtaphcbhmkejbeaaDoorGrow2
import Derived.Test.YtaphcbhmkejbeaaDoorRg
import Derived.Deep.QuietTactic
import Derived.BigQuiet
import Derived.Deep.RegionHeld3
import Derived.Deep.DeepCutAuto
import Derived.Test.YtaphcbhmkejbeaaDoorRegs5
import Derived.Test.YtaphcbhmkejbeaaDoorRefRegs
import Derived.Test.YtaphcbhmkejbeaaDoorRefHex
namespace Go.Proofs.YtaphcbhmkejbeaaDoor
open Go.RowKit
set_option linter.unusedVariables false
set_option linter.unusedSimpArgs false

def name3 : Nat → ByteArray
  | 0 => ⟨#[65, 70, 61]⟩
  | 1 => ⟨#[66, 67, 61]⟩
  | 2 => ⟨#[68, 69, 61]⟩
  | 3 => ⟨#[72, 76, 61]⟩
  | 4 => ⟨#[83, 80, 61]⟩
  | _ => ⟨#[80, 67, 61]⟩
def wordAt (r : Rg) : Nat → Int
  | 0 => pairOf 4 r
  | 1 => pairOf 0 r
  | 2 => pairOf 1 r
  | 3 => pairOf 2 r
  | 4 => pairOf 3 r
  | _ => r.p
def rtextTo (r : Rg) : Nat → ByteArray
  | 0 => ⟨#[]⟩
  | 1 => (⟨#[]⟩ ++ name3 0) ++ hex16Of (wordAt r 0)
  | k + 2 => ((rtextTo r (k + 1) ++ ⟨#[32]⟩) ++ name3 (k + 1)) ++ hex16Of (wordAt r (k + 1))
theorem rtext_eq (r : Rg) : rtextTo r 6 = textOf r := by
  simp only [rtextTo, textOf, textTo, pieceAt, name3, nameAt, wordAt, pairAt]
  apply ByteArray.ext
  apply Array.toList_inj.1
  simp [ByteArray.data_append]
theorem word_bd {r : Rg} (ok : r.ok) (k : Nat) : 0 ≤ wordAt r k ∧ wordAt r k ≤ 65535 := by
  unfold wordAt
  split
  all_goals first | exact pair_bd ok _ | exact ok.2.2.2.2.2.2.2.2.2
theorem names_any (k : Nat) (w : World) (hk : k < 6) :
    Calls Tryd.prog 42 #[.int .i64 k] w fun e w' => e = .returned (.string (name3 k)) ∧ w' = w := by
  rcases (show k = 0 ∨ k = 1 ∨ k = 2 ∨ k = 3 ∨ k = 4 ∨ k = 5 by omega) with rfl | rfl | rfl | rfl | rfl | rfl
  all_goals
    go_enter Tryd.func42, Tryd.ntmps42
    go_wp2
    go_ret
    exact ⟨ret_str (by decide +kernel), rfl⟩
set_option maxHeartbeats 8000000 in
theorem words_any (r : Rg) (k : Nat) (w : World) (ok : r.ok) (hk : k < 6) :
    Calls Tryd.prog 44 #[.agg #[.int .u8 r.a, .int .u8 r.f, .int .u8 r.b, .int .u8 r.c, .int .u8 r.d, .int .u8 r.e, .int .u8 r.h, .int .u8 r.l, .int .u16 r.s, .int .u16 r.p], .int .i64 k] w fun e w' => e = .returned (.int .u16 (wordAt r k)) ∧ Grown w w' := by
  have ok2 := hid ok
  obtain ⟨⟨ha0, ha1⟩, ⟨hf0, hf1⟩, ⟨hb0, hb1⟩, ⟨hc0, hc1⟩, ⟨hd0, hd1⟩, ⟨he0, he1⟩, ⟨hh0, hh1⟩, ⟨hl0, hl1⟩, ⟨hs0, hs1⟩, ⟨hp0, hp1⟩⟩ := ok
  rcases (show k = 0 ∨ k = 1 ∨ k = 2 ∨ k = 3 ∨ k = 4 ∨ k = 5 by omega) with rfl | rfl | rfl | rfl | rfl | rfl
  · go_enter Tryd.func44, Tryd.ntmps44
    go_wp2_with (go_at_call 34; refine (rjoin_any _ _ _ ha0 ha1 hf0 hf1).mono ?_; rintro e v0 ⟨rfl, rfl⟩)
    go_ret
    exact ⟨rfl, alloc1 _ _ _⟩
  · go_enter Tryd.func44, Tryd.ntmps44
    go_wp2_with fail
    refine (rpair_any r _ _ ok2.out).mono ?_
    rintro e u1 ⟨rfl, g1⟩
    go_wp2
    go_ret
    exact ⟨rfl, grown_trans (alloc1 _ _ _) g1⟩
  · go_enter Tryd.func44, Tryd.ntmps44
    go_wp2_with fail
    refine (rpair_any r _ _ ok2.out).mono ?_
    rintro e u1 ⟨rfl, g1⟩
    go_wp2
    go_ret
    exact ⟨rfl, grown_trans (alloc1 _ _ _) g1⟩
  · go_enter Tryd.func44, Tryd.ntmps44
    go_wp2_with fail
    refine (rpair_any r _ _ ok2.out).mono ?_
    rintro e u1 ⟨rfl, g1⟩
    go_wp2
    go_ret
    exact ⟨rfl, grown_trans (alloc1 _ _ _) g1⟩
  · go_enter Tryd.func44, Tryd.ntmps44
    go_wp2_with fail
    refine (rpair_any r _ _ ok2.out).mono ?_
    rintro e u1 ⟨rfl, g1⟩
    go_wp2
    go_ret
    exact ⟨rfl, grown_trans (alloc1 _ _ _) g1⟩
  · go_enter Tryd.func44, Tryd.ntmps44
    go_wp2
    go_ret
    exact ⟨rfl, alloc1 _ _ _⟩
set_option maxHeartbeats 8000000 in
theorem rtext_any (r : Rg) (w : World) (ok : r.ok) :
    Calls Tryd.prog 25 #[.agg #[.int .u8 r.a, .int .u8 r.f, .int .u8 r.b, .int .u8 r.c, .int .u8 r.d, .int .u8 r.e, .int .u8 r.h, .int .u8 r.l, .int .u16 r.s, .int .u16 r.p]] w fun e w' => e = .returned (.string (textOf r)) ∧ Grown w w' := by
  rw [← rtext_eq]
  go_enter Tryd.func25, Tryd.ntmps25
  go_wp2
  go_loopw [3, 4] (fun s i wr => ∃ k : Nat, k ≤ 6 ∧ i = .int .i64 k ∧ s = .string (rtextTo r k) ∧ Has wr w.heap.size #[.int .u8 r.a, .int .u8 r.f, .int .u8 r.b, .int .u8 r.c, .int .u8 r.d, .int .u8 r.e, .int .u8 r.h, .int .u8 r.l, .int .u16 r.s, .int .u16 r.p] ∧ Grown w wr) (fun _ i _ => 6 - (intOf i).toNat)
  case atStart => exact ⟨0, Nat.zero_le _, rfl, rfl, has_alloc _ _ _, alloc1 _ _ _⟩
  case round =>
    obtain ⟨k, hk, rfl, rfl, Br, Gw⟩ := hrel
    obtain ⟨zr, cr⟩ := id Br
    by_cases hlt : k < 6
    · rcases (show k = 0 ∨ k = 1 ∨ k = 2 ∨ k = 3 ∨ k = 4 ∨ k = 5 by omega) with rfl | rfl | rfl | rfl | rfl | rfl
      · have E := hid (show rtextTo r 1 = (rtextTo r 0 ++ name3 0) ++ hex16Of (wordAt r 0) from rfl)
        obtain ⟨p0, p1⟩ := word_bd ok 0
        have hz : (hex16Of (wordAt r 0)).size = 4 := rfl
        have tz : (rtextTo r 0).size = 0 := rfl
        have nz : (name3 0).size = 3 := rfl
        go_wp2
        go_region_held3 (fun w' => w.heap.size < w'.heap.size ∧ w'.cell? ⟨w.heap.size, 0, none⟩ = some (.int .u8 r.a) ∧ w'.cell? ⟨w.heap.size, 1, none⟩ = some (.int .u8 r.f) ∧ w'.cell? ⟨w.heap.size, 2, none⟩ = some (.int .u8 r.b) ∧ w'.cell? ⟨w.heap.size, 3, none⟩ = some (.int .u8 r.c) ∧ w'.cell? ⟨w.heap.size, 4, none⟩ = some (.int .u8 r.d) ∧ w'.cell? ⟨w.heap.size, 5, none⟩ = some (.int .u8 r.e) ∧ w'.cell? ⟨w.heap.size, 6, none⟩ = some (.int .u8 r.h) ∧ w'.cell? ⟨w.heap.size, 7, none⟩ = some (.int .u8 r.l) ∧ w'.cell? ⟨w.heap.size, 8, none⟩ = some (.int .u16 r.s) ∧ w'.cell? ⟨w.heap.size, 9, none⟩ = some (.int .u16 r.p)) (go_keep) (first | (go_at_call 42; refine (names_any 0 _ (by decide)).mono ?_; rintro e v1 ⟨rfl, rfl⟩) | (go_at_call 44; refine (words_any r 0 _ ok (by decide)).mono ?_; rintro e v2 ⟨rfl, q2⟩; have D := has_grown q2 Br; obtain ⟨zD, cD⟩ := id D) | (go_at_call 43; refine (rhex16_any _ _ p0 p1).mono ?_; rintro e v3 ⟨rfl, rfl⟩))
        all_goals (go_wp2; go_roundw)
        case rel => exact ⟨1, by omega, by go_num, by rw [E.out], D, grown_trans Gw q2⟩
        case measure => simp [intOf]
      · have E := hid (show rtextTo r 2 = ((rtextTo r 1 ++ ⟨#[32]⟩) ++ name3 1) ++ hex16Of (wordAt r 1) from rfl)
        obtain ⟨p0, p1⟩ := word_bd ok 1
        have hz : (hex16Of (wordAt r 1)).size = 4 := rfl
        have tz : (rtextTo r 1).size = 7 := rfl
        have nz : (name3 1).size = 3 := rfl
        go_wp2
        go_region_held3 (fun w' => w.heap.size < w'.heap.size ∧ w'.cell? ⟨w.heap.size, 0, none⟩ = some (.int .u8 r.a) ∧ w'.cell? ⟨w.heap.size, 1, none⟩ = some (.int .u8 r.f) ∧ w'.cell? ⟨w.heap.size, 2, none⟩ = some (.int .u8 r.b) ∧ w'.cell? ⟨w.heap.size, 3, none⟩ = some (.int .u8 r.c) ∧ w'.cell? ⟨w.heap.size, 4, none⟩ = some (.int .u8 r.d) ∧ w'.cell? ⟨w.heap.size, 5, none⟩ = some (.int .u8 r.e) ∧ w'.cell? ⟨w.heap.size, 6, none⟩ = some (.int .u8 r.h) ∧ w'.cell? ⟨w.heap.size, 7, none⟩ = some (.int .u8 r.l) ∧ w'.cell? ⟨w.heap.size, 8, none⟩ = some (.int .u16 r.s) ∧ w'.cell? ⟨w.heap.size, 9, none⟩ = some (.int .u16 r.p)) (go_keep) (first | (go_at_call 42; refine (names_any 1 _ (by decide)).mono ?_; rintro e v1 ⟨rfl, rfl⟩) | (go_at_call 44; refine (words_any r 1 _ ok (by decide)).mono ?_; rintro e v2 ⟨rfl, q2⟩; have D := has_grown q2 Br; obtain ⟨zD, cD⟩ := id D) | (go_at_call 43; refine (rhex16_any _ _ p0 p1).mono ?_; rintro e v3 ⟨rfl, rfl⟩))
        all_goals (go_wp2; go_roundw)
        case rel => exact ⟨2, by omega, by go_num, by rw [E.out], D, grown_trans Gw q2⟩
        case measure => simp [intOf]
      · have E := hid (show rtextTo r 3 = ((rtextTo r 2 ++ ⟨#[32]⟩) ++ name3 2) ++ hex16Of (wordAt r 2) from rfl)
        obtain ⟨p0, p1⟩ := word_bd ok 2
        have hz : (hex16Of (wordAt r 2)).size = 4 := rfl
        have tz : (rtextTo r 2).size = 15 := rfl
        have nz : (name3 2).size = 3 := rfl
        go_wp2
        go_region_held3 (fun w' => w.heap.size < w'.heap.size ∧ w'.cell? ⟨w.heap.size, 0, none⟩ = some (.int .u8 r.a) ∧ w'.cell? ⟨w.heap.size, 1, none⟩ = some (.int .u8 r.f) ∧ w'.cell? ⟨w.heap.size, 2, none⟩ = some (.int .u8 r.b) ∧ w'.cell? ⟨w.heap.size, 3, none⟩ = some (.int .u8 r.c) ∧ w'.cell? ⟨w.heap.size, 4, none⟩ = some (.int .u8 r.d) ∧ w'.cell? ⟨w.heap.size, 5, none⟩ = some (.int .u8 r.e) ∧ w'.cell? ⟨w.heap.size, 6, none⟩ = some (.int .u8 r.h) ∧ w'.cell? ⟨w.heap.size, 7, none⟩ = some (.int .u8 r.l) ∧ w'.cell? ⟨w.heap.size, 8, none⟩ = some (.int .u16 r.s) ∧ w'.cell? ⟨w.heap.size, 9, none⟩ = some (.int .u16 r.p)) (go_keep) (first | (go_at_call 42; refine (names_any 2 _ (by decide)).mono ?_; rintro e v1 ⟨rfl, rfl⟩) | (go_at_call 44; refine (words_any r 2 _ ok (by decide)).mono ?_; rintro e v2 ⟨rfl, q2⟩; have D := has_grown q2 Br; obtain ⟨zD, cD⟩ := id D) | (go_at_call 43; refine (rhex16_any _ _ p0 p1).mono ?_; rintro e v3 ⟨rfl, rfl⟩))
        all_goals (go_wp2; go_roundw)
        case rel => exact ⟨3, by omega, by go_num, by rw [E.out], D, grown_trans Gw q2⟩
        case measure => simp [intOf]
      · have E := hid (show rtextTo r 4 = ((rtextTo r 3 ++ ⟨#[32]⟩) ++ name3 3) ++ hex16Of (wordAt r 3) from rfl)
        obtain ⟨p0, p1⟩ := word_bd ok 3
        have hz : (hex16Of (wordAt r 3)).size = 4 := rfl
        have tz : (rtextTo r 3).size = 23 := rfl
        have nz : (name3 3).size = 3 := rfl
        go_wp2
        go_region_held3 (fun w' => w.heap.size < w'.heap.size ∧ w'.cell? ⟨w.heap.size, 0, none⟩ = some (.int .u8 r.a) ∧ w'.cell? ⟨w.heap.size, 1, none⟩ = some (.int .u8 r.f) ∧ w'.cell? ⟨w.heap.size, 2, none⟩ = some (.int .u8 r.b) ∧ w'.cell? ⟨w.heap.size, 3, none⟩ = some (.int .u8 r.c) ∧ w'.cell? ⟨w.heap.size, 4, none⟩ = some (.int .u8 r.d) ∧ w'.cell? ⟨w.heap.size, 5, none⟩ = some (.int .u8 r.e) ∧ w'.cell? ⟨w.heap.size, 6, none⟩ = some (.int .u8 r.h) ∧ w'.cell? ⟨w.heap.size, 7, none⟩ = some (.int .u8 r.l) ∧ w'.cell? ⟨w.heap.size, 8, none⟩ = some (.int .u16 r.s) ∧ w'.cell? ⟨w.heap.size, 9, none⟩ = some (.int .u16 r.p)) (go_keep) (first | (go_at_call 42; refine (names_any 3 _ (by decide)).mono ?_; rintro e v1 ⟨rfl, rfl⟩) | (go_at_call 44; refine (words_any r 3 _ ok (by decide)).mono ?_; rintro e v2 ⟨rfl, q2⟩; have D := has_grown q2 Br; obtain ⟨zD, cD⟩ := id D) | (go_at_call 43; refine (rhex16_any _ _ p0 p1).mono ?_; rintro e v3 ⟨rfl, rfl⟩))
        all_goals (go_wp2; go_roundw)
        case rel => exact ⟨4, by omega, by go_num, by rw [E.out], D, grown_trans Gw q2⟩
        case measure => simp [intOf]
      · have E := hid (show rtextTo r 5 = ((rtextTo r 4 ++ ⟨#[32]⟩) ++ name3 4) ++ hex16Of (wordAt r 4) from rfl)
        obtain ⟨p0, p1⟩ := word_bd ok 4
        have hz : (hex16Of (wordAt r 4)).size = 4 := rfl
        have tz : (rtextTo r 4).size = 31 := rfl
        have nz : (name3 4).size = 3 := rfl
        go_wp2
        go_region_held3 (fun w' => w.heap.size < w'.heap.size ∧ w'.cell? ⟨w.heap.size, 0, none⟩ = some (.int .u8 r.a) ∧ w'.cell? ⟨w.heap.size, 1, none⟩ = some (.int .u8 r.f) ∧ w'.cell? ⟨w.heap.size, 2, none⟩ = some (.int .u8 r.b) ∧ w'.cell? ⟨w.heap.size, 3, none⟩ = some (.int .u8 r.c) ∧ w'.cell? ⟨w.heap.size, 4, none⟩ = some (.int .u8 r.d) ∧ w'.cell? ⟨w.heap.size, 5, none⟩ = some (.int .u8 r.e) ∧ w'.cell? ⟨w.heap.size, 6, none⟩ = some (.int .u8 r.h) ∧ w'.cell? ⟨w.heap.size, 7, none⟩ = some (.int .u8 r.l) ∧ w'.cell? ⟨w.heap.size, 8, none⟩ = some (.int .u16 r.s) ∧ w'.cell? ⟨w.heap.size, 9, none⟩ = some (.int .u16 r.p)) (go_keep) (first | (go_at_call 42; refine (names_any 4 _ (by decide)).mono ?_; rintro e v1 ⟨rfl, rfl⟩) | (go_at_call 44; refine (words_any r 4 _ ok (by decide)).mono ?_; rintro e v2 ⟨rfl, q2⟩; have D := has_grown q2 Br; obtain ⟨zD, cD⟩ := id D) | (go_at_call 43; refine (rhex16_any _ _ p0 p1).mono ?_; rintro e v3 ⟨rfl, rfl⟩))
        all_goals (go_wp2; go_roundw)
        case rel => exact ⟨5, by omega, by go_num, by rw [E.out], D, grown_trans Gw q2⟩
        case measure => simp [intOf]
      · have E := hid (show rtextTo r 6 = ((rtextTo r 5 ++ ⟨#[32]⟩) ++ name3 5) ++ hex16Of (wordAt r 5) from rfl)
        obtain ⟨p0, p1⟩ := word_bd ok 5
        have hz : (hex16Of (wordAt r 5)).size = 4 := rfl
        have tz : (rtextTo r 5).size = 39 := rfl
        have nz : (name3 5).size = 3 := rfl
        go_wp2
        go_region_held3 (fun w' => w.heap.size < w'.heap.size ∧ w'.cell? ⟨w.heap.size, 0, none⟩ = some (.int .u8 r.a) ∧ w'.cell? ⟨w.heap.size, 1, none⟩ = some (.int .u8 r.f) ∧ w'.cell? ⟨w.heap.size, 2, none⟩ = some (.int .u8 r.b) ∧ w'.cell? ⟨w.heap.size, 3, none⟩ = some (.int .u8 r.c) ∧ w'.cell? ⟨w.heap.size, 4, none⟩ = some (.int .u8 r.d) ∧ w'.cell? ⟨w.heap.size, 5, none⟩ = some (.int .u8 r.e) ∧ w'.cell? ⟨w.heap.size, 6, none⟩ = some (.int .u8 r.h) ∧ w'.cell? ⟨w.heap.size, 7, none⟩ = some (.int .u8 r.l) ∧ w'.cell? ⟨w.heap.size, 8, none⟩ = some (.int .u16 r.s) ∧ w'.cell? ⟨w.heap.size, 9, none⟩ = some (.int .u16 r.p)) (go_keep) (first | (go_at_call 42; refine (names_any 5 _ (by decide)).mono ?_; rintro e v1 ⟨rfl, rfl⟩) | (go_at_call 44; refine (words_any r 5 _ ok (by decide)).mono ?_; rintro e v2 ⟨rfl, q2⟩; have D := has_grown q2 Br; obtain ⟨zD, cD⟩ := id D) | (go_at_call 43; refine (rhex16_any _ _ p0 p1).mono ?_; rintro e v3 ⟨rfl, rfl⟩))
        all_goals (go_wp2; go_roundw)
        case rel => exact ⟨6, by omega, by go_num, by rw [E.out], D, grown_trans Gw q2⟩
        case measure => simp [intOf]
    · obtain rfl : k = 6 := by omega
      go_wp2
      go_ret
      exact ⟨rfl, Gw⟩
end Go.Proofs.YtaphcbhmkejbeaaDoor
