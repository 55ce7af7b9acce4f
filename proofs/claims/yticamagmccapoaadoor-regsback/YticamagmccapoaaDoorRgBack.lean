/- What was put is got; the text of registers whose F has four low bits 0 is parsed to these. -/
import Derived.Test.YticamagmccapoaaDoorParse2
import Derived.Test.YticamagmccapoaaDoorAlu
namespace Go.Proofs.YticamagmccapoaaDoor
open Go.RowKit
set_option linter.unusedVariables false
set_option linter.unusedSimpArgs false

theorem get_same (r : Rg) (K v : Int) (h0 : 0 ≤ K) (h1 : K < 8) (he : K ≠ 6) : getOf K (putR K v r) = v := by
  have : K = 0 ∨ K = 1 ∨ K = 2 ∨ K = 3 ∨ K = 4 ∨ K = 5 ∨ K = 7 := by omega
  rcases this with rfl | rfl | rfl | rfl | rfl | rfl | rfl <;> simp [putR, getOf]
theorem putR_ok {r : Rg} (ok : r.ok) (K v : Int) (v0 : 0 ≤ v) (v1 : v ≤ 255) : (putR K v r).ok := by
  obtain ⟨⟨ha0, ha1⟩, ⟨hf0, hf1⟩, ⟨hb0, hb1⟩, ⟨hc0, hc1⟩, ⟨hd0, hd1⟩, ⟨he0, he1⟩, ⟨hh0, hh1⟩, ⟨hl0, hl1⟩, ⟨hs0, hs1⟩, ⟨hp0, hp1⟩⟩ := ok
  unfold putR
  repeat' split
  all_goals
    unfold Rg.ok
    simp only [zeroR]
    omega
theorem byteof_fin : ∀ b : Fin 256, byteOf (flagAt (b.val : Int) 128) (flagAt (b.val : Int) 64) (flagAt (b.val : Int) 32) (flagAt (b.val : Int) 16) = (b.val : Int) / 16 * 16 ∧ flagAt ((b.val : Int) / 16 * 16) 128 = flagAt (b.val : Int) 128 ∧ flagAt ((b.val : Int) / 16 * 16) 64 = flagAt (b.val : Int) 64 ∧ flagAt ((b.val : Int) / 16 * 16) 32 = flagAt (b.val : Int) 32 ∧ flagAt ((b.val : Int) / 16 * 16) 16 = flagAt (b.val : Int) 16 := by decide +kernel
theorem text_size (r : Rg) : (textOf r).size = 47 := by
  rw [ByteArray.size, ← Array.length_toList, text_list]
  rfl
theorem sl_text (r : Rg) (k : Nat) (hk : k < 6) : sl (textOf r) k = hex16Of (match k with | 0 => pairOf 4 r | 1 => pairOf 0 r | 2 => pairOf 1 r | 3 => pairOf 2 r | 4 => pairOf 3 r | _ => r.p) := by
  rw [sl, ba_eq, ext_list, text_list]
  match k, hk with
  | 0, _ => rfl
  | 1, _ => rfl
  | 2, _ => rfl
  | 3, _ => rfl
  | 4, _ => rfl
  | 5, _ => rfl
theorem wd_text (r : Rg) (ok : r.ok) : wd (textOf r) 0 = pairOf 4 r ∧ wd (textOf r) 1 = pairOf 0 r ∧ wd (textOf r) 2 = pairOf 1 r ∧ wd (textOf r) 3 = pairOf 2 r ∧ wd (textOf r) 4 = pairOf 3 r ∧ wd (textOf r) 5 = r.p := by
  have b := fun n => pair_bd ok n
  have p := ok.2.2.2.2.2.2.2.2.2
  refine ⟨?_, ?_, ?_, ?_, ?_, ?_⟩
  · rw [wd, sl_text r 0 (by decide)]; exact read16 _ (b 4).1 (b 4).2
  · rw [wd, sl_text r 1 (by decide)]; exact read16 _ (b 0).1 (b 0).2
  · rw [wd, sl_text r 2 (by decide)]; exact read16 _ (b 1).1 (b 1).2
  · rw [wd, sl_text r 3 (by decide)]; exact read16 _ (b 2).1 (b 2).2
  · rw [wd, sl_text r 4 (by decide)]; exact read16 _ (b 3).1 (b 3).2
  · rw [wd, sl_text r 5 (by decide)]; exact read16 _ p.1 p.2
theorem end_text (r : Rg) (ok : r.ok) (hf : r.f % 16 = 0) : endR (textOf r) = r := by
  obtain ⟨w0, w1, w2, w3, w4, w5⟩ := wd_text r ok
  obtain ⟨⟨ha0, ha1⟩, ⟨hf0, hf1⟩, ⟨hb0, hb1⟩, ⟨hc0, hc1⟩, ⟨hd0, hd1⟩, ⟨he0, he1⟩, ⟨hh0, hh1⟩, ⟨hl0, hl1⟩, ⟨hs0, hs1⟩, ⟨hp0, hp1⟩⟩ := ok
  obtain ⟨a, f, b, c, d, e, h, l, s, p⟩ := r
  simp only [endR, partR, putP, pairAt, w0, w1, w2, w3, w4, w5]
  simp [pairOf, zeroR] at *
  omega
theorem parse_text (r : Rg) (ok : r.ok) (hf : r.f % 16 = 0) : parseR (textOf r) = r ∧ parseE (textOf r) = 0 := by
  have e := end_text r ok hf
  have c : (textOf r).size = 47 ∧ textOf r = textOf (endR (textOf r)) := ⟨text_size r, by rw [e]⟩
  unfold parseR parseE
  rw [if_pos c, if_pos c]
  exact ⟨e, rfl⟩
end Go.Proofs.YticamagmccapoaaDoor
