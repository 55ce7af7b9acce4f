/- Plain facts of layer 6: the lines without their numbers are unlike; a line is cut into what it is without its number, and its digits. -/
import Derived.Test.YtlchkflpaehgcaaDoorCn
import Derived.Test.YtlchkflpaehgcaaDoorCw
import Derived.Test.YtlchkflpaehgcaaDoorCx
namespace Go.Proofs.YtlchkflpaehgcaaDoor
open Go.RowKit
set_option linter.unusedVariables false
set_option linter.unusedSimpArgs false

def keyB (n : Nat) : ByteArray := rT ⟨#[36]⟩ ⟨#[36]⟩ (toksN n)
theorem lkey_false (k : Nat) (h : k < 256) : lkey (k : Int) false = keyB k := by
  unfold lkey keyB toksOf toksN
  rw [if_neg (by decide), if_pos h]
  rfl
theorem lkey_true (k : Nat) : lkey (k : Int) true = keyB (256 + k) := by
  unfold lkey keyB toksOf toksN
  rw [if_pos rfl, if_neg (by omega), Nat.add_sub_cancel_left]
  rfl
theorem toks_le : ∀ n : Fin 512, (toksN n.val).all (fun c => decide (c ≤ 257)) = true := by decide +kernel
theorem key_data (n : Nat) (hn : n < 512) : (keyB n).data.toList = (plainT (toksN n)).map UInt8.ofNat := by
  have h := toks_le ⟨n, hn⟩
  simp only at h
  unfold keyB rT plainT
  generalize toksN n = l at h
  simp only [List.map_map]
  induction l with
  | nil => rfl
  | cons a l ih =>
    simp only [List.all_cons, Bool.and_eq_true, decide_eq_true_eq] at h
    have i := ih h.2
    simp only [List.flatMap_cons, List.map_cons] at i ⊢
    rw [← i]
    have e : rtk ⟨#[36]⟩ ⟨#[36]⟩ a = [UInt8.ofNat (if 256 ≤ a then 36 else a)] := by
      unfold rtk
      by_cases h1 : a = 256
      · subst h1; rfl
      · by_cases h2 : a = 257
        · subst h2; rfl
        · rw [if_neg h1, if_neg h2, if_neg (by omega)]
    rw [e]
    rfl
theorem plain_lt (l : List Nat) (h : l.all (fun c => decide (c ≤ 257)) = true) : ∀ c ∈ plainT l, c < 256 := by
  intro c hc
  obtain ⟨q, hq, rfl⟩ := List.mem_map.1 hc
  have := List.all_eq_true.1 h q hq
  simp only [decide_eq_true_eq] at this
  split
  · decide
  · omega
theorem map_ofNat_inj : ∀ (a b : List Nat), (∀ c ∈ a, c < 256) → (∀ c ∈ b, c < 256) → a.map UInt8.ofNat = b.map UInt8.ofNat → a = b
  | [], [], _, _, _ => rfl
  | [], _ :: _, _, _, h => by simp at h
  | _ :: _, [], _, _, h => by simp at h
  | x :: a, y :: b, ha, hb, h => by
    simp only [List.map_cons, List.cons.injEq] at h
    have e := congrArg UInt8.toNat h.1
    rw [UInt8.toNat_ofNat_of_lt' (by simpa using ha x (by simp)), UInt8.toNat_ofNat_of_lt' (by simpa using hb y (by simp))] at e
    rw [e, map_ofNat_inj a b (fun c hc => ha c (by simp [hc])) (fun c hc => hb c (by simp [hc])) h.2]
theorem db_plain : ∀ a : Fin 512, dbN a.val = true → (toksN a.val).all (fun c => decide (c < 256)) = true ∧ a.val < 256 := by decide +kernel
theorem db_apart : ∀ a : Fin 256, ∀ b : Fin 256, (!dbN a.val || !dbN b.val || a.val == b.val || toksN a.val != toksN b.val) = true := by decide +kernel
theorem plain_id (l : List Nat) (h : l.all (fun c => decide (c < 256)) = true) : plainT l = l := by
  unfold plainT
  have : l.map (fun c => if 256 ≤ c then 36 else c) = l.map id := List.map_congr_left (fun c hc => by
    have := List.all_eq_true.1 h c hc
    simp only [decide_eq_true_eq] at this
    rw [if_neg (by omega)]; rfl)
  rw [this, List.map_id]
theorem keyB_inj (a b : Nat) (ha : a < 512) (hb : b < 512) (h : (keyB a).data.toList = (keyB b).data.toList) : a = b := by
  rw [key_data a ha, key_data b hb] at h
  have e := map_ofNat_inj _ _ (plain_lt _ (toks_le ⟨a, ha⟩)) (plain_lt _ (toks_le ⟨b, hb⟩)) h
  simp only at e
  have m : maskT a = maskT b := by unfold maskT; rw [e]
  rcases apart_key a b ha hb (key_eq a b ha hb m) with q | q | q
  · exact q
  · obtain ⟨p1, l1⟩ := db_plain ⟨a, ha⟩ q.1
    obtain ⟨p2, l2⟩ := db_plain ⟨b, hb⟩ q.2
    simp only at p1 p2 l1 l2
    rw [plain_id _ p1, plain_id _ p2] at e
    have f := db_apart ⟨a, l1⟩ ⟨b, l2⟩
    simp only [q.1, q.2, e, Bool.not_true, Bool.false_or, bne_self_eq_false, Bool.or_false, beq_iff_eq] at f
    exact f
  · have p1 := rst_fin ⟨a, ha⟩ q.1
    have p2 := rst_fin ⟨b, hb⟩ q.2
    have l1 := rst_lt ⟨a, ha⟩ q.1
    have l2 := rst_lt ⟨b, hb⟩ q.2
    simp only at p1 p2 l1 l2
    rw [plain_id _ p1, plain_id _ p2] at e
    have f := rst_apart ⟨a, l1⟩ ⟨b, l2⟩
    simp only [q.1, q.2, e, Bool.not_true, Bool.false_or, bne_self_eq_false, Bool.or_false, beq_iff_eq] at f
    exact f
theorem dbK_fin : ∀ n : Fin 512, (plainT (toksN n.val) != [68, 66, 32, 36]) = true := by decide +kernel
theorem dbK_ne (n : Nat) (hn : n < 512) : (keyB n).data.toList ≠ dbK.data.toList := by
  rw [key_data n hn]
  intro h
  have e := map_ofNat_inj _ [68, 66, 32, 36] (plain_lt _ (toks_le ⟨n, hn⟩)) (by decide) h
  have := dbK_fin ⟨n, hn⟩
  simp only [bne_iff_ne, ne_eq] at this
  exact this e
def valF (j : Nat) : ByteArray × Int := (strOf [(j : Int)], (decOf (j : Int)).bytes - 1)
def valC (j : Nat) : ByteArray × Int := (strOf [203, (j : Int)], 0)
theorem tab_snd (k : Nat) (hk : k ≤ 256) (s : List UInt8) (v : ByteArray × Int) (h : tab k s = some v) :
    (s = dbK.data.toList ∧ v = (⟨#[]⟩, 1)) ∨ ∃ j, j < k ∧ ((s = (keyB j).data.toList ∧ v = valF j) ∨ (s = (keyB (256 + j)).data.toList ∧ v = valC j)) := by
  induction k with
  | zero =>
    simp only [tab, fput] at h
    split at h
    · rename_i e; exact .inl ⟨e, (Option.some.inj h).symm⟩
    · cases h
  | succ k ih =>
    simp only [tab, fput] at h
    split at h
    · rename_i e
      rw [lkey_true] at e
      exact .inr ⟨k, by omega, .inr ⟨e, (Option.some.inj h).symm⟩⟩
    · split at h
      · rename_i e
        rw [lkey_false k (by omega)] at e
        exact .inr ⟨k, by omega, .inl ⟨e, (Option.some.inj h).symm⟩⟩
      · rcases ih (by omega) h with q | ⟨j, hj, q⟩
        · exact .inl q
        · exact .inr ⟨j, by omega, q⟩
theorem tab_has (k : Nat) (hk : k ≤ 256) : tab k dbK.data.toList = some (⟨#[]⟩, 1) ∧ ∀ j, j < k → tab k (keyB j).data.toList = some (valF j) ∧ tab k (keyB (256 + j)).data.toList = some (valC j) := by
  induction k with
  | zero => exact ⟨by simp [tab, fput], fun j hj => absurd hj (by omega)⟩
  | succ k ih =>
    obtain ⟨i1, i2⟩ := ih (by omega)
    have et := lkey_true k
    have ef := lkey_false k (by omega)
    refine ⟨?_, fun j hj => ⟨?_, ?_⟩⟩
    · simp only [tab, fput]
      rw [if_neg (by rw [et]; exact (dbK_ne (256 + k) (by omega)).symm), if_neg (by rw [ef]; exact (dbK_ne k (by omega)).symm), i1]
    · simp only [tab, fput]
      rw [if_neg (by rw [et]; intro e; have := keyB_inj _ _ (by omega) (by omega) e; omega)]
      by_cases e : j = k
      · subst e; rw [if_pos (by rw [ef])]; rfl
      · rw [if_neg (by rw [ef]; intro q; exact e (keyB_inj _ _ (by omega) (by omega) q))]
        exact (i2 j (by omega)).1
    · simp only [tab, fput]
      by_cases e : j = k
      · subst e; rw [if_pos (by rw [et])]; rfl
      · rw [if_neg (by rw [et]; intro q; have := keyB_inj _ _ (by omega) (by omega) q; omega), if_neg (by rw [ef]; intro q; have := keyB_inj _ _ (by omega) (by omega) q; omega)]
        exact (i2 j (by omega)).2
theorem bytes_num : ∀ n : Fin 256, (decOf (n.val : Int)).bytes = numKind (toksN n.val) := by decide +kernel
theorem high_plain : ∀ c : Fin 256, (toksN (256 + c.val)).all (fun c => decide (c < 256)) = true := by decide +kernel
theorem key_plain (n : Nat) (hn : n < 512) (h : (toksN n).all (fun c => decide (c < 256)) = true) (lo hi : Int) : keyB n = lineN n lo hi := by
  apply ByteArray.ext
  apply Array.toList_inj.1
  rw [key_data n hn, plain_id _ h]
  unfold lineN rB
  rw [render_of lo hi _ h]
theorem hx_fin : ∀ c : Fin 256, hexS.contains (UInt8.ofNat c.val) = isHx c.val := by decide +kernel
theorem shape_of (n : Nat) (hn : n < 256) : ((toksN n).all (fun c => decide (c < 256)) = true ∧ (decOf (n : Int)).bytes = 1) ∨
    ∃ (P U : List UInt8) (t : Nat), (t = 256 ∨ t = 257) ∧ (decOf (n : Int)).bytes = (if t = 256 then 2 else 3) ∧ (36 : UInt8) ∉ P ∧ (∀ x, U.head? = some x → hexS.contains x = false) ∧ (keyB n).data.toList = P ++ 36 :: U ∧ ∀ lo hi, (lineN n lo hi).data.toList = P ++ (rtok lo hi t ++ U) := by
  have kf := bytes_num ⟨n, hn⟩
  have ck := cut_fin ⟨n, by omega⟩
  have kd := key_data n (by omega)
  simp only at kf ck
  rw [kf, kd]
  unfold lineN
  clear kf kd
  generalize toksN n = l at *
  have e := (List.takeWhile_append_dropWhile (p := fun c => decide (c < 256)) (l := l)).symm
  have tl := take_lt l
  unfold cutOk at ck
  unfold numKind
  generalize l.takeWhile (fun c => decide (c < 256)) = p at *
  generalize l.dropWhile (fun c => decide (c < 256)) = r at *
  subst e
  cases r with
  | nil => exact .inl ⟨by rw [List.append_nil]; exact tl, rfl⟩
  | cons t u =>
    simp only [Bool.and_eq_true, Bool.not_eq_true'] at ck
    obtain ⟨⟨⟨ct, cp⟩, cu⟩, ch⟩ := ck
    have u1 : u.all (fun c => decide (c < 256)) = true := by
      rw [List.all_eq_true] at cu ⊢
      intro c hc; have := cu c hc; simp only [Bool.and_eq_true] at this; exact this.1
    simp only [Bool.or_eq_true, beq_iff_eq] at ct
    refine .inr ⟨p.map UInt8.ofNat, u.map UInt8.ofNat, t, ct, by simp, ?_, ?_, ?_, fun lo hi => ?_⟩
    · intro hm
      obtain ⟨c, hc, e⟩ := List.mem_map.1 hm
      have h1 := List.all_eq_true.1 tl c hc
      have h2 := List.all_eq_true.1 cp c hc
      simp only [decide_eq_true_eq, bne_iff_ne, ne_eq] at h1 h2
      have e2 := congrArg UInt8.toNat e
      rw [UInt8.toNat_ofNat_of_lt' (by simpa using h1)] at e2
      exact h2 e2
    · intro x hx
      cases u with
      | nil => simp at hx
      | cons c u =>
        simp only [List.map_cons, List.head?_cons, Option.some.injEq] at hx
        simp only [List.headD_cons] at ch
        have h1 := List.all_eq_true.1 u1 c (by simp)
        simp only [decide_eq_true_eq] at h1
        subst hx
        have := hx_fin ⟨c, h1⟩
        simp only at this
        rw [this]; exact ch
    · rw [show plainT (p ++ t :: u) = p ++ 36 :: u by
        have a1 := plain_id p tl
        have a2 := plain_id u u1
        unfold plainT at *
        rw [List.map_append, List.map_cons, a1, a2, if_pos (by omega)]]
      simp
    · have x := render_of lo hi p tl
      have y := render_of lo hi u u1
      unfold rB
      simp only [render, List.flatMap_append, List.flatMap_cons] at *
      rw [x, y]
end Go.Proofs.YtlchkflpaehgcaaDoor
