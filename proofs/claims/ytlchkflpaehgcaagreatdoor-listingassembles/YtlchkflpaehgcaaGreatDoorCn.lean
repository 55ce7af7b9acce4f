/- Unlike instructions have unlike lines: a line's signs, every number masked; keys of what is left. The number of a line that bears one. What was listed is assembled to what it was. -/
import Derived.Test.YtlchkflpaehgcaaGreatDoorCb
import Derived.Test.YtlchkflpaehgcaaGreatDoorCm
import Derived.Test.YtlchkflpaehgcaaGreatDoorCg
namespace Go.Proofs.YtlchkflpaehgcaaGreatDoor
open Go.RowKit
set_option linter.unusedVariables false
set_option linter.unusedSimpArgs false

def isHx (c : Nat) : Bool := (decide (48 ≤ c) && decide (c ≤ 57)) || (decide (65 ≤ c) && decide (c ≤ 70))
def maskF : Bool → List Nat → List Nat
  | _, [] => []
  | b, c :: l => if (b && isHx c) = true then maskF true l else if c = 36 then 256 :: maskF true l else c :: maskF false l
def hashL (l : List Nat) : Nat := l.foldl (fun a c => (a * 260 + c + 1) % 65521) 0
def toksN (n : Nat) : List Nat := if n < 256 then lineD.getD n [] else lineC.getD (n - 256) []
def plainT (l : List Nat) : List Nat := l.map (fun c => if 256 ≤ c then 36 else c)
def maskT (n : Nat) : List Nat := maskF false (plainT (toksN n))
theorem key_fin : ∀ n : Fin 512, hashL (maskT n.val) = keyL n.val := by decide +kernel
def dbB (n : Nat) : Bool := decide (n < 256) && ((decOf (n : Int)).kind == 5 || (decOf (n : Int)).kind == 6)
def rstB (n : Nat) : Bool := decide (n < 256) && (decOf (n : Int)).kind == 42
theorem dbN_fin : ∀ n : Fin 512, dbB n.val = dbN n.val ∧ rstB n.val = rstN n.val := by decide +kernel
def cutOk (l : List Nat) : Bool :=
  let p := l.takeWhile (fun c => decide (c < 256))
  match l.dropWhile (fun c => decide (c < 256)) with
  | [] => true
  | t :: u => (t == 256 || t == 257) && p.all (fun c => c != 36) && u.all (fun c => decide (c < 256) && c != 36) && !(isHx (u.headD 0))
theorem cut_fin : ∀ n : Fin 512, cutOk (toksN n.val) = true := by decide +kernel
theorem mask_pre (p r : List Nat) (h : p.all (fun c => c != 36) = true) : maskF false (p ++ r) = p ++ maskF false r := by
  induction p with
  | nil => rfl
  | cons c p ih =>
    simp only [List.all_cons, Bool.and_eq_true, bne_iff_ne, ne_eq] at h
    simp only [List.cons_append, maskF, Bool.false_and, Bool.false_eq_true, if_false, if_neg h.1]
    rw [ih h.2]
theorem mask_hex (p r : List Nat) (h : p.all isHx = true) : maskF true (p ++ r) = maskF true r := by
  induction p with
  | nil => rfl
  | cons c p ih =>
    simp only [List.all_cons, Bool.and_eq_true] at h
    simp only [List.cons_append, maskF, Bool.true_and, h.1, if_true]
    exact ih h.2
theorem mask_suf (u : List Nat) (h : u.all (fun c => c != 36) = true) (hh : isHx (u.headD 0) = false) : maskF true u = u := by
  cases u with
  | nil => rfl
  | cons c u =>
    simp only [List.all_cons, Bool.and_eq_true, bne_iff_ne, ne_eq] at h
    simp only [List.headD_cons] at hh
    simp only [maskF, Bool.true_and, hh, Bool.false_eq_true, if_false, if_neg h.1]
    have := mask_pre u [] h.2
    simp only [List.append_nil, maskF] at this
    rw [this]
def bytesN (l : List UInt8) : List Nat := l.map (·.toNat)
theorem hex8_hx (v : Int) (h0 : 0 ≤ v) (h1 : v ≤ 255) : (bytesN (hex8Of v).data.toList).all isHx = true :=
  fin8 (p := fun v => (bytesN (hex8Of v).data.toList).all isHx = true) (by decide +kernel) v h0 h1
theorem hex16_hx (v : Int) (h0 : 0 ≤ v) (h1 : v ≤ 65535) : (bytesN (hex16Of v).data.toList).all isHx = true := by
  have a := hex8_hx (v / 256) (by omega) (by omega)
  have b := hex8_hx (v % 256) (by omega) (by omega)
  have e : (hex16Of v).data.toList = (hex8Of (v / 256)).data.toList ++ (hex8Of (v % 256)).data.toList := by simp [hex16Of]
  rw [e]
  simp only [bytesN, List.map_append, List.all_append, Bool.and_eq_true] at *
  exact ⟨a, b⟩
theorem render_plain (lo hi : Int) (p : List Nat) (h : p.all (fun c => decide (c < 256)) = true) : bytesN (render lo hi p) = p := by
  induction p with
  | nil => rfl
  | cons c p ih =>
    simp only [List.all_cons, Bool.and_eq_true, decide_eq_true_eq] at h
    have e : rtok lo hi c = [UInt8.ofNat c] := by unfold rtok; rw [if_neg (by omega), if_neg (by omega)]
    have i := ih h.2
    simp only [bytesN, render, List.flatMap_cons, List.map_append, e] at *
    rw [i]
    simp
    omega
theorem take_lt (l : List Nat) : (l.takeWhile (fun c => decide (c < 256))).all (fun c => decide (c < 256)) = true := by
  rw [List.all_eq_true]
  intro x hx
  exact List.all_eq_true.1 (List.all_takeWhile (p := fun c => decide (c < 256)) (l := l)) x hx
theorem num_hx (lo hi : Int) (t : Nat) (ht : (t == 256 || t == 257) = true) (l0 : 0 ≤ lo) (l1 : lo ≤ 255) (h0 : 0 ≤ hi) (h1 : hi ≤ 255) : ∃ q, bytesN (rtok lo hi t) = 36 :: q ∧ q.all isHx = true := by
  simp only [Bool.or_eq_true, beq_iff_eq] at ht
  rcases ht with rfl | rfl
  · exact ⟨_, rfl, hex8_hx lo l0 l1⟩
  · exact ⟨_, rfl, hex16_hx (hi * 256 + lo) (by omega) (by omega)⟩
theorem mask_line (n : Nat) (lo hi : Int) (hn : n < 512) (l0 : 0 ≤ lo) (l1 : lo ≤ 255) (h0 : 0 ≤ hi) (h1 : hi ≤ 255) : maskF false (bytesN (render lo hi (toksN n))) = maskT n := by
  have ck := cut_fin ⟨n, hn⟩
  unfold maskT
  simp only at ck
  generalize toksN n = l at *
  have e := (List.takeWhile_append_dropWhile (p := fun c => decide (c < 256)) (l := l)).symm
  have tl := take_lt l
  unfold cutOk at ck
  generalize l.takeWhile (fun c => decide (c < 256)) = p at *
  generalize l.dropWhile (fun c => decide (c < 256)) = r at *
  subst e
  cases r with
  | nil =>
    rw [List.append_nil, render_plain lo hi p tl]
    congr 1
    unfold plainT
    have : p.map (fun c => if 256 ≤ c then 36 else c) = p.map id := List.map_congr_left (fun c hc => by
      have := List.all_eq_true.1 tl c hc
      simp only [decide_eq_true_eq] at this
      rw [if_neg (by omega)]; rfl)
    rw [this, List.map_id]
  | cons t u =>
    simp only [Bool.and_eq_true, Bool.not_eq_true'] at ck
    obtain ⟨⟨⟨ct, cp⟩, cu⟩, ch⟩ := ck
    obtain ⟨q, eq, hq⟩ := num_hx lo hi t ct l0 l1 h0 h1
    have u1 : u.all (fun c => decide (c < 256)) = true := by
      rw [List.all_eq_true] at cu ⊢
      intro c hc; have := cu c hc; simp only [Bool.and_eq_true] at this; exact this.1
    have u2 : u.all (fun c => c != 36) = true := by
      rw [List.all_eq_true] at cu ⊢
      intro c hc; have := cu c hc; simp only [Bool.and_eq_true] at this; exact this.2
    have r1 : bytesN (render lo hi (p ++ t :: u)) = p ++ (36 :: (q ++ u)) := by
      have a := render_plain lo hi p tl
      have b := render_plain lo hi u u1
      simp only [bytesN, render, List.flatMap_append, List.flatMap_cons, List.map_append] at *
      rw [a, b, eq]; simp
    have pl : ∀ v : List Nat, v.all (fun c => decide (c < 256)) = true → plainT v = v := fun v hv => by
      have : v.map (fun c => if 256 ≤ c then 36 else c) = v.map id := List.map_congr_left (fun c hc => by
        have := List.all_eq_true.1 hv c hc
        simp only [decide_eq_true_eq] at this
        rw [if_neg (by omega)]; rfl)
      unfold plainT
      rw [this, List.map_id]
    have r2 : plainT (p ++ t :: u) = p ++ (36 :: u) := by
      have a := pl p tl
      have b := pl u u1
      simp only [plainT, List.map_append, List.map_cons] at *
      rw [a, b]
      simp only [Bool.or_eq_true, beq_iff_eq] at ct
      rw [if_pos (by omega)]
    rw [r1, r2, mask_pre _ _ cp, mask_pre _ _ cp]
    have s : ∀ v : List Nat, maskF false (36 :: v) = 256 :: maskF true v := fun v => by simp [maskF]
    rw [s, s, mask_hex _ _ hq]
end Go.Proofs.YtlchkflpaehgcaaGreatDoor
namespace Go.Proofs.YtlchkflpaehgcaaGreatDoor
open Go.RowKit
set_option linter.unusedVariables false
set_option linter.unusedSimpArgs false

theorem hexd_fin : ∀ n : Fin 16, dokOf ((hexc (n.val : Int)).toNat : Int) = true ∧ dvalOf ((hexc (n.val : Int)).toNat : Int) = (n.val : Int) ∧ (hexc (n.val : Int)) ≠ 36 := by decide +kernel
theorem hexd (n : Int) (h0 : 0 ≤ n) (h1 : n < 16) : dokOf ((hexc n).toNat : Int) = true ∧ dvalOf ((hexc n).toNat : Int) = n ∧ hexc n ≠ 36 := by
  obtain ⟨m, rfl⟩ := Int.eq_ofNat_of_zero_le h0
  exact hexd_fin ⟨m, by omega⟩
theorem read4b (x y z u : UInt8) (hx : dokOf (x.toNat : Int) = true) (hy : dokOf (y.toNat : Int) = true) (hz : dokOf (z.toNat : Int) = true) (hu : dokOf (u.toNat : Int) = true) :
    readVal ⟨#[x, y, z, u]⟩ 4 = ((dvalOf (x.toNat : Int) * 16 + dvalOf (y.toNat : Int)) * 16 + dvalOf (z.toNat : Int)) * 16 + dvalOf (u.toNat : Int) ∧ readErr ⟨#[x, y, z, u]⟩ 4 = 0 := by
  have hs : (ByteArray.mk #[x, y, z, u]).size = 4 := rfl
  have ok : okTo ⟨#[x, y, z, u]⟩ 4 = true := by
    show ((((true && dokOf (x.toNat : Int)) && dokOf (y.toNat : Int)) && dokOf (z.toNat : Int)) && dokOf (u.toNat : Int)) = true
    rw [hx, hy, hz, hu]; rfl
  have ac : accTo ⟨#[x, y, z, u]⟩ 4 = (((0 * 16 + dvalOf (x.toNat : Int)) * 16 + dvalOf (y.toNat : Int)) * 16 + dvalOf (z.toNat : Int)) * 16 + dvalOf (u.toNat : Int) := rfl
  have f := fin_yes ⟨#[x, y, z, u]⟩ (by rw [hs]; exact ok)
  constructor
  · unfold readVal
    rw [if_neg (by omega), if_neg (by rw [hs]; decide), f.1, hs, ac]
    omega
  · unfold readErr
    rw [if_neg (by omega), if_neg (by rw [hs]; decide), f.2]
theorem read4no (x y u : UInt8) : readErr ⟨#[x, y, 41, u]⟩ 4 = 6 := by
  have hs : (ByteArray.mk #[x, y, 41, u]).size = 4 := rfl
  have ok : okTo ⟨#[x, y, 41, u]⟩ 4 = false := by
    show ((((true && dokOf (x.toNat : Int)) && dokOf (y.toNat : Int)) && dokOf ((41 : UInt8).toNat : Int)) && dokOf (u.toNat : Int)) = false
    rw [show dokOf ((41 : UInt8).toNat : Int) = false by decide]
    simp
  have f := fin_no ⟨#[x, y, 41, u]⟩ (by rw [hs]; exact ok)
  unfold readErr
  rw [if_neg (by omega), if_neg (by rw [hs]; decide), f.2]
theorem hex16_parts (v : Int) : hex16Of v = ⟨#[hexc (v / 256 / 16), hexc (v / 256 % 16), hexc (v % 256 / 16), hexc (v % 256 % 16)]⟩ := rfl
theorem read16b (a : Int) (h0 : 0 ≤ a) (h1 : a ≤ 65535) : readVal (hex16Of a) 4 = a ∧ readErr (hex16Of a) 4 = 0 := by
  obtain ⟨k1, v1, _⟩ := hexd (a / 256 / 16) (by omega) (by omega)
  obtain ⟨k2, v2, _⟩ := hexd (a / 256 % 16) (by omega) (by omega)
  obtain ⟨k3, v3, _⟩ := hexd (a % 256 / 16) (by omega) (by omega)
  obtain ⟨k4, v4, _⟩ := hexd (a % 256 % 16) (by omega) (by omega)
  obtain ⟨e1, e2⟩ := read4b _ _ _ _ k1 k2 k3 k4
  rw [hex16_parts, e1, e2, v1, v2, v3, v4]
  exact ⟨by omega, rfl⟩
theorem read8_fin : ∀ a : Fin 256, readVal (hex8Of (a.val : Int)) 2 = (a.val : Int) := by decide +kernel
theorem read8b (a : Int) (h0 : 0 ≤ a) (h1 : a ≤ 255) : readVal (hex8Of a) 2 = a := fin8 (p := fun a => readVal (hex8Of a) 2 = a) read8_fin a h0 h1
theorem sg_list (P R : List UInt8) (c : UInt8) : sg ⟨(P ++ c :: R).toArray⟩ P.length = (c.toNat : Int) := by
  unfold sg; simp [List.getD_eq_getElem?_getD]
theorem sg_no (P R : List UInt8) (c : UInt8) (h : ∀ x ∈ R, x ≠ 36) (m : Nat) (h1 : P.length < m) (h2 : m < P.length + 1 + R.length) : ¬ sg ⟨(P ++ c :: R).toArray⟩ m = 36 := by
  obtain ⟨j, rfl⟩ : ∃ j, m = P.length + 1 + j := ⟨m - P.length - 1, by omega⟩
  have hj : j < R.length := by omega
  have e : sg ⟨(P ++ c :: R).toArray⟩ (P.length + 1 + j) = (R[j].toNat : Int) := by
    unfold sg
    have : P.length + 1 + j = P.length + (j + 1) := by omega
    rw [this]
    simp [List.getD_eq_getElem?_getD, List.getElem?_append_right, hj]
  rw [e]
  intro q
  have t : R[j].toNat = 36 := by omega
  exact h R[j] (List.getElem_mem hj) (UInt8.toNat.inj (t.trans rfl))
theorem last_from (s : ByteArray) (i j : Nat) (h36 : sg s i = 36) (hno : ∀ m, i < m → m < i + 1 + j → ¬ sg s m = 36) : lastAt s (i + 1 + j) = (i : Int) := by
  induction j with
  | zero => show (if sg s i = 36 then (i : Int) else lastAt s i) = i; rw [if_pos h36]
  | succ j ih =>
    show (if sg s (i + 1 + j) = 36 then ((i + 1 + j : Nat) : Int) else lastAt s (i + 1 + j)) = i
    rw [if_neg (hno _ (by omega) (by omega)), ih (fun m a b => hno m a (by omega))]
theorem dollar_at (P R : List UInt8) (h : ∀ x ∈ R, x ≠ 36) : dollar ⟨(P ++ 36 :: R).toArray⟩ = (P.length : Int) := by
  unfold dollar
  have e : (ByteArray.mk (P ++ 36 :: R).toArray).size = P.length + 1 + R.length := by simp [ByteArray.size]; omega
  rw [e]
  exact last_from _ _ _ (sg_list P R 36) (fun m a b => sg_no P R 36 h m a b)
theorem ext_tail (P R : List UInt8) (n : Nat) : (ByteArray.mk (P ++ 36 :: R).toArray).extract (P.length + 1) (P.length + 1 + n) = ⟨(R.take n).toArray⟩ := by
  apply ByteArray.ext
  apply Array.toList_inj.1
  rw [ByteArray.data_extract]
  simp [List.extract, List.drop_append, List.drop_eq_nil_of_le (show P.length ≤ P.length + 1 by omega)]
theorem last_none (s : ByteArray) (k : Nat) (h : ∀ m, m < k → ¬ sg s m = 36) : lastAt s k = -1 := by
  induction k with
  | zero => rfl
  | succ k ih =>
    show (if sg s k = 36 then (k : Int) else lastAt s k) = -1
    rw [if_neg (h k (by omega)), ih (fun m hm => h m (by omega))]
theorem hex8_no36 (v : Int) (h0 : 0 ≤ v) (h1 : v ≤ 255) : ∀ x ∈ (hex8Of v).data.toList, x ≠ 36 := by
  intro x hx
  have a := hexd (v / 16) (by omega) (by omega)
  have b := hexd (v % 16) (by omega) (by omega)
  simp [hex8Of] at hx
  rcases hx with rfl | rfl
  · exact a.2.2
  · exact b.2.2
theorem hex16_no36 (v : Int) (h0 : 0 ≤ v) (h1 : v ≤ 65535) : ∀ x ∈ (hex16Of v).data.toList, x ≠ 36 := by
  intro x hx
  have e : (hex16Of v).data.toList = (hex8Of (v / 256)).data.toList ++ (hex8Of (v % 256)).data.toList := by simp [hex16Of]
  rw [e] at hx
  rcases List.mem_append.1 hx with h | h
  · exact hex8_no36 _ (by omega) (by omega) x h
  · exact hex8_no36 _ (by omega) (by omega) x h
theorem num_w (P U : List UInt8) (v : Int) (h0 : 0 ≤ v) (h1 : v ≤ 65535) (hU : ∀ x ∈ U, x ≠ 36) : numLo ⟨(P ++ 36 :: ((hex16Of v).data.toList ++ U)).toArray⟩ = v % 256 ∧ numHi ⟨(P ++ 36 :: ((hex16Of v).data.toList ++ U)).toArray⟩ = v / 256 := by
  have hR : ∀ x ∈ (hex16Of v).data.toList ++ U, x ≠ 36 := fun x hx => by
    rcases List.mem_append.1 hx with h | h
    · exact hex16_no36 v h0 h1 x h
    · exact hU x h
  have d := dollar_at P ((hex16Of v).data.toList ++ U) hR
  have l4 : (hex16Of v).data.toList.length = 4 := rfl
  have sz : (ByteArray.mk (P ++ 36 :: ((hex16Of v).data.toList ++ U)).toArray).size = P.length + 1 + 4 + U.length := by simp [ByteArray.size, l4]; omega
  have n4 : num4 ⟨(P ++ 36 :: ((hex16Of v).data.toList ++ U)).toArray⟩ = hex16Of v := by
    unfold num4
    rw [d]
    have := ext_tail P ((hex16Of v).data.toList ++ U) 4
    rw [List.take_left' l4] at this
    simpa [Nat.add_assoc] using this
  have r := read16b v h0 h1
  constructor
  · unfold numLo
    rw [d, if_neg (by omega), n4, if_pos ⟨by rw [sz]; omega, r.2⟩, r.1]
  · unfold numHi
    rw [d, if_neg (by omega), n4, if_pos ⟨by rw [sz]; omega, r.2⟩, r.1]
theorem num_b (P U : List UInt8) (v : Int) (h0 : 0 ≤ v) (h1 : v ≤ 255) (hU : ∀ x ∈ U, x ≠ 36) (hh : U = [] ∨ ∃ V, U = 41 :: V) : numLo ⟨(P ++ 36 :: ((hex8Of v).data.toList ++ U)).toArray⟩ = v ∧ numHi ⟨(P ++ 36 :: ((hex8Of v).data.toList ++ U)).toArray⟩ = 0 := by
  have hR : ∀ x ∈ (hex8Of v).data.toList ++ U, x ≠ 36 := fun x hx => by
    rcases List.mem_append.1 hx with h | h
    · exact hex8_no36 v h0 h1 x h
    · exact hU x h
  have d := dollar_at P ((hex8Of v).data.toList ++ U) hR
  have l2 : (hex8Of v).data.toList.length = 2 := rfl
  have sz : (ByteArray.mk (P ++ 36 :: ((hex8Of v).data.toList ++ U)).toArray).size = P.length + 1 + 2 + U.length := by simp [ByteArray.size, l2]; omega
  have n2 : num2 ⟨(P ++ 36 :: ((hex8Of v).data.toList ++ U)).toArray⟩ = hex8Of v := by
    unfold num2
    rw [d]
    have := ext_tail P ((hex8Of v).data.toList ++ U) 2
    rw [List.take_left' l2] at this
    simpa [Nat.add_assoc] using this
  have no4 : ¬ ((P.length : Int) + 5 ≤ ((ByteArray.mk (P ++ 36 :: ((hex8Of v).data.toList ++ U)).toArray).size : Int) ∧ readErr (num4 ⟨(P ++ 36 :: ((hex8Of v).data.toList ++ U)).toArray⟩) 4 = 0) := by
    rintro ⟨g, r⟩
    rw [sz] at g
    rcases hh with rfl | ⟨V, rfl⟩
    · simp at g <;> try omega
    · cases V with
      | nil => simp at g <;> try omega
      | cons c V =>
        have n4 : num4 ⟨(P ++ 36 :: ((hex8Of v).data.toList ++ 41 :: c :: V)).toArray⟩ = ⟨#[hexc (v / 16), hexc (v % 16), 41, c]⟩ := by
          unfold num4
          rw [d]
          have := ext_tail P ((hex8Of v).data.toList ++ 41 :: c :: V) 4
          simpa [Nat.add_assoc, hex8Of] using this
        rw [n4, read4no] at r
        cases r
  have r := read8b v h0 h1
  constructor
  · unfold numLo
    rw [d, if_neg (by omega), if_neg no4, if_pos (by rw [sz]; omega), n2, r]
    omega
  · unfold numHi
    rw [d, if_neg (by omega), if_neg no4]
end Go.Proofs.YtlchkflpaehgcaaGreatDoor
namespace Go.Proofs.YtlchkflpaehgcaaGreatDoor
open Go.RowKit
set_option linter.unusedVariables false
set_option linter.unusedSimpArgs false

def lineN (n : Nat) (lo hi : Int) : ByteArray := rB lo hi (toksN n)
theorem line_false (k : Nat) (lo hi : Int) (h : k < 256) : lineOf (k : Int) false lo hi = lineN k lo hi := by
  unfold lineOf lineN toksOf toksN
  rw [if_neg (by decide), if_pos h]
  rfl
theorem line_true (k : Nat) (lo hi : Int) : lineOf (k : Int) true lo hi = lineN (256 + k) lo hi := by
  unfold lineOf lineN toksOf toksN
  rw [if_pos rfl, if_neg (by omega), Nat.add_sub_cancel_left]
  rfl
theorem bq_yes {a b : ByteArray} (h : (a.toList == b.toList) = true) : a = b := by
  rw [beq_iff_eq, ByteArray.toList_eq, ByteArray.toList_eq] at h
  exact ByteArray.ext (Array.toList_inj.1 h)
theorem bq_no {a b : ByteArray} (h : ¬ a = b) : (a.toList == b.toList) = false := by
  cases q : (a.toList == b.toList)
  · rfl
  · exact absurd (bq_yes q) h
theorem mask_eq (a : Nat) (lo hi : Int) (ha : a < 512) (l0 : InByte lo) (h0 : InByte hi) : maskF false (bytesN (lineN a lo hi).data.toList) = maskT a := mask_line a lo hi ha l0.1 l0.2 h0.1 h0.2
theorem key_eq (a b : Nat) (ha : a < 512) (hb : b < 512) (h : maskT a = maskT b) : keyL a = keyL b := by
  rw [← key_fin ⟨a, ha⟩, ← key_fin ⟨b, hb⟩]
  simp only
  rw [h]
theorem rst_fin : ∀ a : Fin 512, rstN a.val = true → (toksN a.val).all (fun c => decide (c < 256)) = true := by decide +kernel
theorem rst_apart : ∀ a : Fin 256, ∀ b : Fin 256, (!rstN a.val || !rstN b.val || a.val == b.val || toksN a.val != toksN b.val) = true := by decide +kernel
theorem rst_lt : ∀ a : Fin 512, rstN a.val = true → a.val < 256 := by decide +kernel
theorem line_inj (a b : Nat) (lo hi lo2 hi2 : Int) (ha : a < 512) (hb : b < 512) (nd : dbN a = false) (l0 : InByte lo) (h0 : InByte hi) (l2 : InByte lo2) (h2 : InByte hi2) (e : lineN a lo hi = lineN b lo2 hi2) : a = b := by
  have m : maskT a = maskT b := by rw [← mask_eq a lo hi ha l0 h0, ← mask_eq b lo2 hi2 hb l2 h2, e]
  rcases apart_key a b ha hb (key_eq a b ha hb m) with q | q | q
  · exact q
  · rw [nd] at q; cases q.1
  · have r1 := render_plain lo hi _ (rst_fin ⟨a, ha⟩ q.1)
    have r2 := render_plain lo2 hi2 _ (rst_fin ⟨b, hb⟩ q.2)
    have e2 : render lo hi (toksN a) = render lo2 hi2 (toksN b) := by
      have := congrArg (fun x : ByteArray => x.data.toList) e
      simpa [lineN, rB] using this
    simp only at r1 r2
    rw [e2, r2] at r1
    have f := rst_apart ⟨a, rst_lt ⟨a, ha⟩ q.1⟩ ⟨b, rst_lt ⟨b, hb⟩ q.2⟩
    simp only [q.1, q.2, r1, Bool.not_true, Bool.false_or, bne_self_eq_false, Bool.or_false, beq_iff_eq] at f
    exact f
theorem mask_db (b : Int) (h : InByte b) : maskF false (bytesN (dbS b).data.toList) = maskT 203 := by
  have e : bytesN (dbS b).data.toList = [68, 66, 32] ++ (36 :: (bytesN (hex8Of b).data.toList ++ [])) := by simp [dbS, bytesN]
  rw [e, mask_pre _ _ (by decide)]
  have s : ∀ v : List Nat, maskF false (36 :: v) = 256 :: maskF true v := fun v => by simp [maskF]
  rw [s, mask_hex _ _ (hex8_hx b h.1 h.2)]
  decide +kernel
theorem db203 : dbN 203 = true ∧ rstN 203 = false := by decide +kernel
theorem line_db (a : Nat) (lo hi b : Int) (ha : a < 512) (nd : dbN a = false) (l0 : InByte lo) (h0 : InByte hi) (hb : InByte b) : ¬ lineN a lo hi = dbS b := by
  intro e
  have m : maskT a = maskT 203 := by rw [← mask_eq a lo hi ha l0 h0, ← mask_db b hb, e]
  rcases apart_key a 203 ha (by decide) (key_eq a 203 ha (by decide) m) with q | q | q
  · rw [q, db203.1] at nd; cases nd
  · rw [nd] at q; cases q.1
  · rw [db203.2] at q; cases q.2
theorem zero_in : InByte 0 := ⟨by decide, by decide⟩
theorem num_in (s : ByteArray) : InByte (numLo s) ∧ InByte (numHi s) := num_bd s
theorem none_till (s : ByteArray) (lo hi : Int) (k : Nat) (h : ∀ j, j < k → asmHit s lo hi j = none) : asmTo s lo hi k = none := by
  induction k with
  | zero => rfl
  | succ k ih => simp [asmTo, ih (fun j hj => h j (by omega)), h k (by omega)]
theorem miss1 (n j : Nat) (lo hi lo2 hi2 : Int) (hn : n < 512) (hj : j < 256) (ne : ¬ n = j) (nd : dbN n = false) (l0 : InByte lo) (h0 : InByte hi) (l2 : InByte lo2) (h2 : InByte hi2) : ((lineOf (j : Int) false lo2 hi2).toList == (lineN n lo hi).toList) = false :=
  bq_no fun e => ne (line_inj n j lo hi lo2 hi2 hn (by omega) nd l0 h0 l2 h2 (by rw [← line_false j lo2 hi2 hj, e]))
theorem miss2 (n j : Nat) (lo hi : Int) (hn : n < 512) (hj : j < 256) (ne : ¬ n = 256 + j) (nd : dbN n = false) (l0 : InByte lo) (h0 : InByte hi) : ((lineOf (j : Int) true 0 0).toList == (lineN n lo hi).toList) = false :=
  bq_no fun e => ne (line_inj n (256 + j) lo hi 0 0 hn (by omega) nd l0 h0 zero_in zero_in (by rw [← line_true j 0 0, e]))
theorem kind_ne (n : Nat) (hn : n < 256) (nd : dbN n = false) : ((decOf (n : Int)).kind != 6) = true := by
  have := (dbN_fin ⟨n, by omega⟩).1
  simp only [dbB] at this
  rw [nd] at this
  simp only [hn, decide_true, Bool.true_and, Bool.or_eq_false_iff, beq_eq_false_iff_ne, ne_eq] at this
  simp [this.2]
theorem asm_low (n : Nat) (lo hi : Int) (hn : n < 256) (nd : dbN n = false) (l0 : InByte lo) (h0 : InByte hi) (back : lineN n (numLo (lineN n lo hi)) (numHi (lineN n lo hi)) = lineN n lo hi) :
    asmB (lineN n lo hi) = [(n : Int), numLo (lineN n lo hi), numHi (lineN n lo hi)].take (decOf (n : Int)).bytes.toNat ∧ asmE (lineN n lo hi) = 0 := by
  obtain ⟨nl, nh⟩ := num_in (lineN n lo hi)
  refine asm_hit _ n _ (bq_no (line_db n lo hi _ (by omega) nd l0 h0 nl)) hn (none_till _ _ _ _ fun j hj => ?_) ?_
  · unfold asmHit
    rw [miss1 n j lo hi _ _ (by omega) (by omega) (by omega) nd l0 h0 nl nh, miss2 n j lo hi (by omega) (by omega) (by omega) nd l0 h0]
    simp
  · unfold asmHit
    have e : ((lineOf (n : Int) false (numLo (lineN n lo hi)) (numHi (lineN n lo hi))).toList == (lineN n lo hi).toList) = true := by
      rw [line_false n _ _ hn, back]; simp
    rw [e, kind_ne n hn nd]
    rfl
theorem db_high : ∀ c : Fin 256, dbN (256 + c.val) = false := by decide +kernel
theorem asm_high (c : Nat) (hc : c < 256) : asmB (lineOf (c : Int) true 0 0) = [203, (c : Int)] ∧ asmE (lineOf (c : Int) true 0 0) = 0 := by
  rw [line_true c 0 0]
  have nd := db_high ⟨c, hc⟩
  simp only at nd
  obtain ⟨nl, nh⟩ := num_in (lineN (256 + c) 0 0)
  refine asm_hit _ c _ (bq_no (line_db (256 + c) 0 0 _ (by omega) nd zero_in zero_in nl)) hc (none_till _ _ _ _ fun j hj => ?_) ?_
  · unfold asmHit
    rw [miss1 (256 + c) j 0 0 _ _ (by omega) (by omega) (by omega) nd zero_in zero_in nl nh, miss2 (256 + c) j 0 0 (by omega) (by omega) (by omega) nd zero_in zero_in]
    simp
  · unfold asmHit
    rw [miss1 (256 + c) c 0 0 _ _ (by omega) hc (by omega) nd zero_in zero_in nl nh, line_true c 0 0]
    simp
def numKind (l : List Nat) : Int := match l.dropWhile (fun c => decide (c < 256)) with
  | [] => 1
  | t :: _ => if t = 256 then 2 else 3
theorem kind_fin2 : ∀ n : Fin 256, dbN n.val = false → (decOf (n.val : Int)).bytes = numKind (toksN n.val) := by decide +kernel
def sufOk (l : List Nat) : Bool := match l.dropWhile (fun c => decide (c < 256)) with
  | [] => true
  | _ :: u => u == [] || u.headD 0 == 41
theorem suf_fin : ∀ n : Fin 256, sufOk (toksN n.val) = true := by decide +kernel
theorem render_of (lo hi : Int) (u : List Nat) (h : u.all (fun c => decide (c < 256)) = true) : render lo hi u = u.map UInt8.ofNat := by
  induction u with
  | nil => rfl
  | cons a l ih =>
    simp only [List.all_cons, Bool.and_eq_true, decide_eq_true_eq] at h
    have r := ih h.2
    have r1 : rtok lo hi a = [UInt8.ofNat a] := by unfold rtok; rw [if_neg (by omega), if_neg (by omega)]
    simp only [render, List.flatMap_cons, List.map_cons, r1] at *
    rw [r]; rfl
theorem num_line (n : Nat) (lo hi : Int) (hn : n < 256) (nd : dbN n = false) (l0 : InByte lo) (h0 : InByte hi) :
    ((decOf (n : Int)).bytes = 1 ∧ ∀ lo2 hi2 : Int, lineN n lo2 hi2 = lineN n lo hi) ∨
    ((decOf (n : Int)).bytes = 2 ∧ numLo (lineN n lo hi) = lo ∧ ∀ hi2 : Int, lineN n lo hi2 = lineN n lo hi) ∨
    ((decOf (n : Int)).bytes = 3 ∧ numLo (lineN n lo hi) = lo ∧ numHi (lineN n lo hi) = hi) := by
  have kf := kind_fin2 ⟨n, hn⟩ nd
  have ck := cut_fin ⟨n, by omega⟩
  have sk := suf_fin ⟨n, hn⟩
  simp only at kf ck sk
  rw [kf]
  unfold lineN
  generalize toksN n = l at *
  have e := (List.takeWhile_append_dropWhile (p := fun c => decide (c < 256)) (l := l)).symm
  have tl := take_lt l
  unfold cutOk at ck
  unfold numKind
  unfold sufOk at sk
  generalize l.takeWhile (fun c => decide (c < 256)) = p at *
  generalize l.dropWhile (fun c => decide (c < 256)) = r at *
  subst e
  cases r with
  | nil =>
    refine .inl ⟨rfl, fun lo2 hi2 => ?_⟩
    unfold rB
    rw [List.append_nil, render_of lo2 hi2 p tl, render_of lo hi p tl]
  | cons t u =>
    simp only [Bool.and_eq_true, Bool.not_eq_true'] at ck
    obtain ⟨⟨⟨ct, cp⟩, cu⟩, ch⟩ := ck
    have u1 : u.all (fun c => decide (c < 256)) = true := by
      rw [List.all_eq_true] at cu ⊢
      intro c hc; have := cu c hc; simp only [Bool.and_eq_true] at this; exact this.1
    have rr : ∀ a b : Int, render a b (p ++ t :: u) = p.map UInt8.ofNat ++ (rtok a b t ++ u.map UInt8.ofNat) := fun a b => by
      have x := render_of a b p tl
      have y := render_of a b u u1
      simp only [render, List.flatMap_append, List.flatMap_cons] at *
      rw [x, y]
    have uN : ∀ x ∈ u.map UInt8.ofNat, x ≠ 36 := fun x hx => by
      obtain ⟨c, hc, rfl⟩ := List.mem_map.1 hx
      have := List.all_eq_true.1 cu c hc
      simp only [Bool.and_eq_true, decide_eq_true_eq, bne_iff_ne, ne_eq] at this
      intro q
      have q2 := congrArg UInt8.toNat q
      rw [UInt8.toNat_ofNat_of_lt' (by simpa using this.1)] at q2
      exact this.2 q2
    have hd : u.map UInt8.ofNat = [] ∨ ∃ V, u.map UInt8.ofNat = 41 :: V := by
      cases u with
      | nil => exact .inl rfl
      | cons c u =>
        simp only [Bool.or_eq_true, beq_iff_eq, List.headD_cons] at sk
        rcases sk with sk | sk
        · cases sk
        · exact .inr ⟨u.map UInt8.ofNat, by rw [sk]; rfl⟩
    simp only [Bool.or_eq_true, beq_iff_eq] at ct
    rcases ct with rfl | rfl
    · refine .inr (.inl ⟨rfl, ?_, fun hi2 => ?_⟩)
      · unfold rB
        rw [rr]
        exact (num_b (p.map UInt8.ofNat) (u.map UInt8.ofNat) lo l0.1 l0.2 uN hd).1
      · unfold rB
        rw [rr, rr]
        rfl
    · have q := num_w (p.map UInt8.ofNat) (u.map UInt8.ofNat) (hi * 256 + lo) (by have := l0.1; have := h0.1; omega) (by have := l0.2; have := h0.2; omega) uN
      refine .inr (.inr ⟨rfl, ?_, ?_⟩)
      · unfold rB
        rw [rr]
        refine q.1.trans ?_
        have := l0.1; have := l0.2
        omega
      · unfold rB
        rw [rr]
        refine q.2.trans ?_
        have := l0.1; have := l0.2
        omega
theorem db_num_fin : ∀ a : Fin 256, numLo (dbS (a.val : Int)) = (a.val : Int) := by decide +kernel
theorem asm_dbS (b : Int) (h : InByte b) : asmB (dbS b) = [b] ∧ asmE (dbS b) = 0 := by
  have e := fin8 (p := fun a => numLo (dbS a) = a) db_num_fin b h.1 h.2
  have := asm_db (dbS b) (by rw [e]; simp)
  rw [e] at this
  exact this
theorem db_line_fin : ∀ a : Fin 256, dbN a.val = true → (lineOf (a.val : Int) false 0 0).data.toList = (dbS (a.val : Int)).data.toList ∧ (decOf (a.val : Int)).bytes = 1 := by decide +kernel
theorem asm_one (zs : List Int) (h : ∀ z ∈ zs, InByte z) (hne : zs ≠ []) : asmB (oneS zs) = zs.take (oneN zs).toNat ∧ asmE (oneS zs) = 0 := by
  cases zs with
  | nil => exact absurd rfl hne
  | cons b l =>
    have hb := h b (by simp)
    obtain ⟨n, rfl⟩ := Int.eq_ofNat_of_zero_le hb.1
    have hn : n < 256 := by have := hb.2; omega
    simp only [oneS, oneN]
    by_cases h6 : (decOf (n : Int)).kind = 6
    · rw [if_pos h6, if_pos h6]
      cases l with
      | nil => exact ⟨by rw [(asm_dbS _ hb).1]; rfl, (asm_dbS _ hb).2⟩
      | cons c l =>
        have hc := h c (by simp)
        obtain ⟨m, rfl⟩ := Int.eq_ofNat_of_zero_le hc.1
        have hm : m < 256 := by have := hc.2; omega
        have k203 : (n : Int) = 203 := fin8 (p := fun a => (decOf a).kind = 6 → a = 203) (by decide +kernel) (n : Int) hb.1 hb.2 h6
        have a := asm_high m hm
        exact ⟨by rw [a.1, k203]; rfl, a.2⟩
    · rw [if_neg h6, if_neg h6]
      by_cases hl : (l.length : Int) + 1 < (decOf (n : Int)).bytes
      · rw [if_pos hl, if_pos hl]
        exact ⟨by rw [(asm_dbS _ hb).1]; rfl, (asm_dbS _ hb).2⟩
      · rw [if_neg hl, if_neg hl]
        cases nd : dbN n
        · have N := fun lo hi => num_line n lo hi hn nd
          rcases bytes_of (n : Int) hb.1 hb.2 with bo | bo | bo
          · rw [bo, if_neg (by decide), if_neg (by decide), line_false n 0 0 hn]
            rcases N 0 0 zero_in zero_in with ⟨_, q⟩ | ⟨q, _⟩ | ⟨q, _⟩
            · have a := asm_low n 0 0 hn nd zero_in zero_in (q _ _)
              rw [bo] at a
              exact ⟨by rw [a.1]; rfl, a.2⟩
            · rw [bo] at q; cases q
            · rw [bo] at q; cases q
          · rw [bo, if_pos rfl]
            cases l with
            | nil => rw [bo] at hl; simp at hl
            | cons c l =>
              have hc := h c (by simp)
              simp only [List.getD_cons_zero]
              rw [line_false n c 0 hn]
              rcases N c 0 hc zero_in with ⟨q, _⟩ | ⟨_, q, r⟩ | ⟨q, _⟩
              · rw [bo] at q; cases q
              · have a := asm_low n c 0 hn nd hc zero_in (by rw [q]; exact r _)
                rw [bo, q] at a
                exact ⟨by rw [a.1]; rfl, a.2⟩
              · rw [bo] at q; cases q
          · rw [bo, if_neg (by decide), if_pos rfl]
            cases l with
            | nil => rw [bo] at hl; simp at hl
            | cons c l =>
              cases l with
              | nil => rw [bo] at hl; simp at hl
              | cons d l =>
                have hc := h c (by simp)
                have hd := h d (by simp)
                simp only [List.getD_cons_zero, List.getD_cons_succ]
                rw [line_false n c d hn]
                rcases N c d hc hd with ⟨q, _⟩ | ⟨q, _⟩ | ⟨_, q, r⟩
                · rw [bo] at q; cases q
                · rw [bo] at q; cases q
                · have a := asm_low n c d hn nd hc hd (by rw [q, r])
                  rw [bo, q, r] at a
                  exact ⟨by rw [a.1]; rfl, a.2⟩
        · have q := db_line_fin ⟨n, hn⟩ nd
          simp only at q
          rw [q.2, if_neg (by decide), if_neg (by decide)]
          have e : lineOf (n : Int) false 0 0 = dbS (n : Int) := ByteArray.ext (Array.toList_inj.1 q.1)
          rw [e]
          exact ⟨by rw [(asm_dbS _ hb).1]; rfl, (asm_dbS _ hb).2⟩
end Go.Proofs.YtlchkflpaehgcaaGreatDoor
