/- Plain facts of layer 6: what assemble looks up, and that it comes to the document's bytes. Plain facts of layer 6: assemble comes to the document's bytes. What assemble, Assemble and All of layer 6 come to. -/
import Derived.Test.YtlchkflpaehgcaaGreatDoorDa
import Derived.Test.YtlchkflpaehgcaaGreatDoorCy
import Derived.Test.YtlchkflpaehgcaaGreatDoorCz
namespace Go.Proofs.YtlchkflpaehgcaaGreatDoor
open Go.RowKit
set_option linter.unusedVariables false
set_option linter.unusedSimpArgs false

theorem mem_tw {p : UInt8 → Bool} : ∀ {l : List UInt8} {x : UInt8}, x ∈ l.takeWhile p → p x = true
  | [], x, h => by simp at h
  | a :: l, x, h => by
    rw [List.takeWhile_cons] at h
    split at h
    · rename_i e
      rcases List.mem_cons.1 h with q | q
      · rw [q]; exact e
      · exact mem_tw q
    · simp at h
theorem preL_eq (P R : List UInt8) (hP : (36 : UInt8) ∉ P) : preL (P ++ 36 :: R) = P := by
  unfold preL
  induction P with
  | nil => simp
  | cons a P ih =>
    rw [List.mem_cons, not_or] at hP
    have h : (a != 36) = true := by simpa using fun e : a = 36 => hP.1 e.symm
    simp only [List.cons_append, List.takeWhile_cons, h, if_true]
    rw [ih hP.2]
theorem drop_hex (H U : List UInt8) (hH : ∀ x ∈ H, hexS.contains x = true) (hU : ∀ x, U.head? = some x → hexS.contains x = false) : (H ++ U).dropWhile (hexS.contains ·) = U := by
  induction H with
  | nil =>
    cases U with
    | nil => rfl
    | cons c U => simp only [List.nil_append]; rw [List.dropWhile_cons_of_neg (by rw [hU c rfl]; decide)]
  | cons a H ih =>
    rw [List.cons_append, List.dropWhile_cons_of_pos (hH a (by simp))]
    exact ih (fun x hx => hH x (by simp [hx]))
theorem ext_list (s : ByteArray) (i j : Nat) : (s.extract i j).data.toList = (s.data.toList.take j).drop i := by
  rw [ByteArray.data_extract]
  simp [List.extract, List.drop_take]
theorem cut_line (s : ByteArray) (P H U : List UInt8) (e : s.data.toList = P ++ 36 :: (H ++ U)) (hP : (36 : UInt8) ∉ P) (hH : ∀ x ∈ H, hexS.contains x = true) (hU : ∀ x, U.head? = some x → hexS.contains x = false) :
    (cutT s).data.toList = P ++ 36 :: U ∧ (cutD s).data.toList = H ∧ (36 : UInt8) ∈ s.data.toList := by
  have ci : cutI s = P.length := by unfold cutI; rw [e, preL_eq P _ hP]
  have sz : s.size = P.length + 1 + (H ++ U).length := by
    have : s.data.toList.length = s.size := Array.length_toList
    rw [← this, e]; simp; omega
  have a : (cutA s).data.toList = P := by unfold cutA; rw [ext_list, ci, e]; simp
  have b : (cutB s).data.toList = H ++ U := by
    unfold cutB
    rw [ext_list, ci, e, List.take_of_length_le (by rw [sz]; simp; omega)]
    rw [List.drop_append, List.drop_of_length_le (by omega)]
    simp [Nat.add_sub_cancel_left]
  have r : (cutR s).data.toList = U := by unfold cutR trimH; rw [b]; exact drop_hex H U hH hU
  have bs : (cutB s).size = H.length + U.length := by
    have : (cutB s).data.toList.length = (cutB s).size := Array.length_toList
    rw [← this, b]; simp
  have rs : (cutR s).size = U.length := by
    have : (cutR s).data.toList.length = (cutR s).size := Array.length_toList
    rw [← this, r]
  refine ⟨?_, ?_, by rw [e]; simp⟩
  · unfold cutT
    simp [ByteArray.data_append, a, r]
  · unfold cutD
    rw [ext_list, b, bs, rs]
    simp
theorem cut_split (s : ByteArray) (h : (36 : UInt8) ∈ s.data.toList) : ∃ P H U : List UInt8, s.data.toList = P ++ 36 :: (H ++ U) ∧ (36 : UInt8) ∉ P ∧ (∀ x ∈ H, hexS.contains x = true) ∧ (∀ x, U.head? = some x → hexS.contains x = false) := by
  have h1 : (36 : UInt8) ∉ preL s.data.toList := by
    intro q
    have := mem_tw q
    simp at this
  have e0 := (List.takeWhile_append_dropWhile (p := fun c : UInt8 => c != 36) (l := s.data.toList)).symm
  cases d : s.data.toList.dropWhile (fun c : UInt8 => c != 36) with
  | nil =>
    rw [d, List.append_nil] at e0
    rw [e0] at h
    exact absurd h h1
  | cons c R =>
    have hc : c = 36 := by
      have := List.head?_dropWhile_not (p := fun c : UInt8 => c != 36) (l := s.data.toList)
      rw [d] at this
      simpa using this
    subst hc
    rw [d] at e0
    have e1 := (List.takeWhile_append_dropWhile (p := fun x : UInt8 => hexS.contains x) (l := R)).symm
    refine ⟨_, R.takeWhile (fun x => hexS.contains x), R.dropWhile (fun x => hexS.contains x), by rw [← e1]; exact e0, h1, fun x hx => mem_tw hx, fun x hx => ?_⟩
    have := List.head?_dropWhile_not (p := fun x : UInt8 => hexS.contains x) (l := R)
    rw [hx] at this
    simpa using this
theorem split_inj : ∀ (P P2 U U2 : List UInt8), (36 : UInt8) ∉ P → (36 : UInt8) ∉ P2 → P ++ 36 :: U = P2 ++ 36 :: U2 → P = P2 ∧ U = U2
  | [], [], U, U2, _, _, h => by simpa using h
  | [], b :: P2, U, U2, _, h2, h => by
    simp only [List.nil_append, List.cons_append, List.cons.injEq] at h
    exact absurd (by rw [h.1]; simp) h2
  | a :: P, [], U, U2, h1, _, h => by
    simp only [List.nil_append, List.cons_append, List.cons.injEq] at h
    exact absurd (by rw [← h.1]; simp) h1
  | a :: P, b :: P2, U, U2, h1, h2, h => by
    simp only [List.cons_append, List.cons.injEq] at h
    rw [List.mem_cons, not_or] at h1 h2
    obtain ⟨q1, q2⟩ := split_inj P P2 U U2 h1.2 h2.2 h.2
    exact ⟨by rw [h.1, q1], q2⟩
theorem hexS_fin : ∀ x ∈ hexS, dokOf (x.toNat : Int) = true ∧ hexc (dvalOf (x.toNat : Int)) = x ∧ 0 ≤ dvalOf (x.toNat : Int) ∧ dvalOf (x.toNat : Int) ≤ 15 := by decide +kernel
theorem mem_hexS (x : UInt8) (h : hexS.contains x = true) : x ∈ hexS := by simpa using h
theorem read2b (x y : UInt8) (hx : dokOf (x.toNat : Int) = true) (hy : dokOf (y.toNat : Int) = true) : readVal ⟨#[x, y]⟩ 2 = dvalOf (x.toNat : Int) * 16 + dvalOf (y.toNat : Int) ∧ readErr ⟨#[x, y]⟩ 2 = 0 := by
  have hs : (ByteArray.mk #[x, y]).size = 2 := rfl
  have ok : okTo ⟨#[x, y]⟩ 2 = true := by
    show ((true && dokOf (x.toNat : Int)) && dokOf (y.toNat : Int)) = true
    rw [hx, hy]; rfl
  have ac : accTo ⟨#[x, y]⟩ 2 = (0 * 16 + dvalOf (x.toNat : Int)) * 16 + dvalOf (y.toNat : Int) := rfl
  have f := fin_yes ⟨#[x, y]⟩ (by rw [hs]; exact ok)
  constructor
  · unfold readVal
    rw [if_neg (by omega), if_neg (by rw [hs]; decide), f.1, hs, ac]
    omega
  · unfold readErr
    rw [if_neg (by omega), if_neg (by rw [hs]; decide), f.2]
theorem read_size (D : ByteArray) (d : Int) (h : readErr D d = 0) : (D.size : Int) = d := by
  unfold readErr at h
  split at h
  · cases h
  · split at h
    · cases h
    · rename_i q; exact Classical.not_not.1 q
theorem hex_of2 (D : ByteArray) (hh : ∀ x ∈ D.data.toList, hexS.contains x = true) (h : (D.size : Int) = 2) : readErr D 2 = 0 ∧ InByte (readVal D 2) ∧ D = hex8Of (readVal D 2) := by
  have hl : D.data.toList.length = 2 := by have : D.data.toList.length = D.size := Array.length_toList; omega
  obtain ⟨x, y, e⟩ : ∃ x y, D.data.toList = [x, y] := by
    match q : D.data.toList, hl with
    | [x, y], _ => exact ⟨x, y, rfl⟩
  have eD : D = ⟨#[x, y]⟩ := ByteArray.ext (Array.toList_inj.1 e)
  obtain ⟨k1, c1, a1, b1⟩ := hexS_fin x (mem_hexS x (hh x (by rw [e]; simp)))
  obtain ⟨k2, c2, a2, b2⟩ := hexS_fin y (mem_hexS y (hh y (by rw [e]; simp)))
  obtain ⟨v, er⟩ := read2b x y k1 k2
  rw [eD, v]
  refine ⟨er, ⟨by omega, by omega⟩, ?_⟩
  unfold hex8Of
  rw [show (dvalOf (x.toNat : Int) * 16 + dvalOf (y.toNat : Int)) / 16 = dvalOf (x.toNat : Int) by omega, show (dvalOf (x.toNat : Int) * 16 + dvalOf (y.toNat : Int)) % 16 = dvalOf (y.toNat : Int) by omega, c1, c2]
theorem hex_of4 (D : ByteArray) (hh : ∀ x ∈ D.data.toList, hexS.contains x = true) (h : (D.size : Int) = 4) : readErr D 4 = 0 ∧ (0 ≤ readVal D 4 ∧ readVal D 4 ≤ 65535) ∧ D = hex16Of (readVal D 4) := by
  have hl : D.data.toList.length = 4 := by have : D.data.toList.length = D.size := Array.length_toList; omega
  obtain ⟨x, y, z, u, e⟩ : ∃ x y z u, D.data.toList = [x, y, z, u] := by
    match q : D.data.toList, hl with
    | [x, y, z, u], _ => exact ⟨x, y, z, u, rfl⟩
  have eD : D = ⟨#[x, y, z, u]⟩ := ByteArray.ext (Array.toList_inj.1 e)
  obtain ⟨k1, c1, a1, b1⟩ := hexS_fin x (mem_hexS x (hh x (by rw [e]; simp)))
  obtain ⟨k2, c2, a2, b2⟩ := hexS_fin y (mem_hexS y (hh y (by rw [e]; simp)))
  obtain ⟨k3, c3, a3, b3⟩ := hexS_fin z (mem_hexS z (hh z (by rw [e]; simp)))
  obtain ⟨k4, c4, a4, b4⟩ := hexS_fin u (mem_hexS u (hh u (by rw [e]; simp)))
  obtain ⟨v, er⟩ := read4b x y z u k1 k2 k3 k4
  generalize dvalOf (x.toNat : Int) = dx at *
  generalize dvalOf (y.toNat : Int) = dy at *
  generalize dvalOf (z.toNat : Int) = dz at *
  generalize dvalOf (u.toNat : Int) = du at *
  rw [eD, v]
  refine ⟨er, ⟨by omega, by omega⟩, ?_⟩
  rw [hex16_parts]
  rw [show (((dx * 16 + dy) * 16 + dz) * 16 + du) / 256 / 16 = dx by omega, show (((dx * 16 + dy) * 16 + dz) * 16 + du) / 256 % 16 = dy by omega, show (((dx * 16 + dy) * 16 + dz) * 16 + du) % 256 / 16 = dz by omega, show (((dx * 16 + dy) * 16 + dz) * 16 + du) % 256 % 16 = du by omega, c1, c2, c3, c4]
theorem asm_some (s : ByteArray) (r : List Int) (h : asmOf s = some r) : (∃ b, InByte b ∧ s = dbS b) ∨ (∃ n lo hi, n < 256 ∧ InByte lo ∧ InByte hi ∧ s = lineN n lo hi) ∨ ∃ n, n < 256 ∧ s = lineN (256 + n) 0 0 := by
  obtain ⟨nl, nh⟩ := num_in s
  unfold asmOf at h
  split at h
  · rename_i e
    exact .inl ⟨numLo s, nl, bq_yes e⟩
  · have hto : ∀ k, k ≤ 256 → asmTo s (numLo s) (numHi s) k = some r → ∃ j, j < k ∧ asmHit s (numLo s) (numHi s) j = some r := by
      intro k
      induction k with
      | zero => intro _ q; cases q
      | succ k ih =>
        intro hk q
        unfold asmTo at q
        split at q
        · rename_i r2 e
          rw [← Option.some.inj q] at ih ⊢
          obtain ⟨j, hj, e2⟩ := ih (by omega) e
          exact ⟨j, by omega, e2⟩
        · exact ⟨k, by omega, q⟩
    obtain ⟨j, hj, e⟩ := hto 256 (Nat.le_refl _) h
    unfold asmHit at e
    split at e
    · rename_i q
      simp only [Bool.and_eq_true] at q
      have := bq_yes q.2
      rw [line_false j _ _ hj] at this
      exact .inr (.inl ⟨j, _, _, hj, nl, nh, this.symm⟩)
    · split at e
      · rename_i q
        have := bq_yes q
        rw [line_true j] at this
        exact .inr (.inr ⟨j, hj, this.symm⟩)
      · cases e
theorem asm_not (s : ByteArray) (h : ∀ r, asmOf s ≠ some r) : asmB s = [] ∧ asmE s = 6 := by
  cases q : asmOf s with
  | none => simp [asmB, asmE, q]
  | some r => exact absurd q (h r)
end Go.Proofs.YtlchkflpaehgcaaGreatDoor
namespace Go.Proofs.YtlchkflpaehgcaaGreatDoor
open Go.RowKit
set_option linter.unusedVariables false
set_option linter.unusedSimpArgs false

theorem strOf_to (l : List Int) : ∀ r : ByteArray, (l.foldl (fun r n => r.push (UInt8.ofNat n.toNat)) r).data.toList = r.data.toList ++ l.map (fun n => UInt8.ofNat n.toNat) := by
  induction l with
  | nil => intro r; simp
  | cons a l ih => intro r; rw [List.foldl_cons, ih]; simp [ByteArray.push]
theorem strOf_data (l : List Int) : (strOf l).data.toList = l.map (fun n => UInt8.ofNat n.toNat) := by
  have := strOf_to l ByteArray.empty
  unfold strOf
  rw [this]; rfl
theorem bytN_str (l : List Int) (h : ∀ z ∈ l, InByte z) : bytN (strOf l) = l := by
  unfold bytN
  rw [strOf_data]
  induction l with
  | nil => rfl
  | cons a l ih =>
    have ha := h a (by simp)
    simp only [List.map_cons]
    rw [ih (fun z hz => h z (by simp [hz]))]
    congr 1
    rw [UInt8.toNat_ofNat_of_lt' (by have := ha.1; have := ha.2; show a.toNat < 256; omega)]
    have := ha.1
    omega
theorem strOf_size (l : List Int) : (strOf l).size = l.length := by
  have : (strOf l).data.toList.length = (strOf l).size := Array.length_toList
  rw [← this, strOf_data, List.length_map]
theorem ba_ext {a b : ByteArray} (h : a.data.toList = b.data.toList) : a = b := ByteArray.ext (Array.toList_inj.1 h)
theorem nat_in (n : Nat) (h : n < 256) : InByte (n : Int) := ⟨by omega, by omega⟩
theorem pre203 (n : Nat) (h : n < 256) (hb : (decOf (n : Int)).bytes ≠ 1) : ¬ (decOf (n : Int)).kind = 6 := by
  intro k
  have e := (pre_iff (n : Int) (by omega) (by omega)).1 k
  rw [e] at hb
  exact hb (by kernel_rfl)
theorem asm1 (n : Nat) (h : n < 256) (hb : (decOf (n : Int)).bytes = 1) : asmB (lineN n 0 0) = [(n : Int)] ∧ asmE (lineN n 0 0) = 0 := by
  have q := asm_one [(n : Int)] (fun z hz => by simp at hz; subst hz; exact nat_in n h) (by simp)
  have e : oneS [(n : Int)] = lineN n 0 0 ∧ oneN [(n : Int)] = 1 := by
    rw [← line_false n 0 0 h]
    by_cases k : (decOf (n : Int)).kind = 6
    · have e := (pre_iff (n : Int) (by omega) (by omega)).1 k
      refine ⟨?_, ?_⟩
      · simp only [oneS]; rw [if_pos k, e]; exact line_203.symm
      · simp only [oneN]; rw [if_pos k]
    · refine ⟨?_, ?_⟩
      · simp only [oneS]; rw [if_neg k, if_neg (by rw [hb]; simp), hb, if_neg (by decide), if_neg (by decide)]
      · simp only [oneN]; rw [if_neg k, if_neg (by rw [hb]; simp), hb]
  rw [e.1, e.2] at q
  exact q
theorem asm2 (n : Nat) (h : n < 256) (hb : (decOf (n : Int)).bytes = 2) (v : Int) (hv : InByte v) : asmB (lineN n v 0) = [(n : Int), v] ∧ asmE (lineN n v 0) = 0 := by
  have k := pre203 n h (by rw [hb]; decide)
  have q := asm_one [(n : Int), v] (fun z hz => by simp at hz; rcases hz with rfl | rfl; exact nat_in n h; exact hv) (by simp)
  have e : oneS [(n : Int), v] = lineN n v 0 ∧ oneN [(n : Int), v] = 2 := by
    rw [← line_false n v 0 h]
    refine ⟨?_, ?_⟩
    · simp only [oneS]; rw [if_neg k, if_neg (by rw [hb]; simp), hb, if_pos rfl]; rfl
    · simp only [oneN]; rw [if_neg k, if_neg (by rw [hb]; simp), hb]
  rw [e.1, e.2] at q
  exact q
theorem asm3 (n : Nat) (h : n < 256) (hb : (decOf (n : Int)).bytes = 3) (lo hi : Int) (hl : InByte lo) (hh : InByte hi) : asmB (lineN n lo hi) = [(n : Int), lo, hi] ∧ asmE (lineN n lo hi) = 0 := by
  have k := pre203 n h (by rw [hb]; decide)
  have q := asm_one [(n : Int), lo, hi] (fun z hz => by simp at hz; rcases hz with rfl | rfl | rfl; exact nat_in n h; exact hl; exact hh) (by simp)
  have e : oneS [(n : Int), lo, hi] = lineN n lo hi ∧ oneN [(n : Int), lo, hi] = 3 := by
    rw [← line_false n lo hi h]
    refine ⟨?_, ?_⟩
    · simp only [oneS]; rw [if_neg k, if_neg (by rw [hb]; simp), hb, if_neg (by decide), if_pos rfl]; rfl
    · simp only [oneN]; rw [if_neg k, if_neg (by rw [hb]; simp), hb]
  rw [e.1, e.2] at q
  exact q
theorem hex8_in (v : Int) (h : InByte v) : ∀ x ∈ (hex8Of v).data.toList, hexS.contains x = true := by
  have f : ∀ a : Fin 256, ((hex8Of (a.val : Int)).data.toList.all (fun x => hexS.contains x)) = true := by decide +kernel
  have q := fin8 (p := fun a => ((hex8Of a).data.toList.all (fun x => hexS.contains x)) = true) f v h.1 h.2
  exact fun x hx => List.all_eq_true.1 q x hx
theorem hex16_in (v : Int) (h0 : 0 ≤ v) (h1 : v ≤ 65535) : ∀ x ∈ (hex16Of v).data.toList, hexS.contains x = true := by
  intro x hx
  have e : (hex16Of v).data.toList = (hex8Of (v / 256)).data.toList ++ (hex8Of (v % 256)).data.toList := by simp [hex16Of]
  rw [e, List.mem_append] at hx
  rcases hx with q | q
  · exact hex8_in (v / 256) ⟨by omega, by omega⟩ x q
  · exact hex8_in (v % 256) ⟨by omega, by omega⟩ x q
theorem asm_key (s : ByteArray) (hn : ∀ A, tab 256 s.data.toList ≠ some (A, 0)) (r : List Int) (h : asmOf s = some r) : (36 : UInt8) ∈ s.data.toList ∧ ∃ A m, tab 256 (cutT s).data.toList = some (A, m) ∧ (m = 1 ∨ m = 2) ∧ readErr (cutD s) (2 * m) = 0 := by
  obtain ⟨t1, t2⟩ := tab_has 256 (Nat.le_refl _)
  rcases asm_some s r h with ⟨b, hb, rfl⟩ | ⟨n, lo, hi, hn2, hl, hh, rfl⟩ | ⟨n, hn2, rfl⟩
  · obtain ⟨c1, c2, c3⟩ := cut_line (dbS b) [68, 66, 32] (hex8Of b).data.toList [] (by simp [dbS]) (by decide) (hex8_in b hb) (by simp)
    refine ⟨c3, _, 1, by rw [c1]; exact t1, .inl rfl, ?_⟩
    have e := ba_ext c2
    rw [e]
    exact (hex_of2 (hex8Of b) (hex8_in b hb) rfl).1
  · rcases shape_of n hn2 with ⟨p, hb⟩ | ⟨P, U, t, ht, hb, hP, hU, hk, hl2⟩
    · have e := (t2 n hn2).1
      rw [key_plain n (by omega) p lo hi] at e
      refine absurd e (fun q => hn (strOf [(n : Int)]) ?_)
      rw [q]; unfold valF; rw [hb]; rfl
    · rcases ht with rfl | rfl
      · have hd := hl2 lo hi
        rw [show rtok lo hi 256 = 36 :: (hex8Of lo).data.toList by unfold rtok; rw [if_pos rfl]] at hd
        obtain ⟨c1, c2, c3⟩ := cut_line (lineN n lo hi) P (hex8Of lo).data.toList U (by rw [hd]; rfl) hP (hex8_in lo hl) hU
        refine ⟨c3, strOf [(n : Int)], 1, ?_, .inl rfl, ?_⟩
        · rw [c1, ← hk, (t2 n hn2).1]; unfold valF; rw [hb]; rfl
        · rw [ba_ext c2]; exact (hex_of2 (hex8Of lo) (hex8_in lo hl) rfl).1
      · have hd := hl2 lo hi
        rw [show rtok lo hi 257 = 36 :: (hex16Of (hi * 256 + lo)).data.toList by unfold rtok; rw [if_neg (by decide), if_pos rfl]] at hd
        have g := hex16_in (hi * 256 + lo) (by have := hl.1; have := hh.1; omega) (by have := hl.2; have := hh.2; omega)
        obtain ⟨c1, c2, c3⟩ := cut_line (lineN n lo hi) P (hex16Of (hi * 256 + lo)).data.toList U (by rw [hd]; rfl) hP g hU
        refine ⟨c3, strOf [(n : Int)], 2, ?_, .inr rfl, ?_⟩
        · rw [c1, ← hk, (t2 n hn2).1]; unfold valF; rw [hb]; rfl
        · rw [ba_ext c2]; exact (hex_of4 (hex16Of (hi * 256 + lo)) g rfl).1
  · have e := (t2 n hn2).2
    rw [key_plain (256 + n) (by omega) (high_plain ⟨n, hn2⟩) 0 0] at e
    exact absurd e (hn _)
theorem asm_cases (s : ByteArray) :
    (∃ A, tab 256 s.data.toList = some (A, 0) ∧ A.size ≤ 1000 ∧ asmB s = bytN A ∧ asmE s = 0) ∨
    ((∀ A, tab 256 s.data.toList ≠ some (A, 0)) ∧ (36 : UInt8) ∉ s.data.toList ∧ asmB s = [] ∧ asmE s = 6) ∨
    ((∀ A, tab 256 s.data.toList ≠ some (A, 0)) ∧ (36 : UInt8) ∈ s.data.toList ∧ (tab 256 (cutT s).data.toList = none ∨ ∃ A m, tab 256 (cutT s).data.toList = some (A, m) ∧ 0 ≤ m ∧ m ≤ 2 ∧ readErr (cutD s) (2 * m) ≠ 0) ∧ asmB s = [] ∧ asmE s = 6) ∨
    ((∀ A, tab 256 s.data.toList ≠ some (A, 0)) ∧ (36 : UInt8) ∈ s.data.toList ∧ ∃ A m, tab 256 (cutT s).data.toList = some (A, m) ∧ (m = 1 ∨ m = 2) ∧ A.size ≤ 1000 ∧ readErr (cutD s) (2 * m) = 0 ∧ 0 ≤ readVal (cutD s) (2 * m) ∧ readVal (cutD s) (2 * m) ≤ 65535 ∧ asmB s = bytN A ++ [readVal (cutD s) (2 * m) % 256, readVal (cutD s) (2 * m) / 256].take m.toNat ∧ asmE s = 0) := by
  by_cases h0 : ∃ A, tab 256 s.data.toList = some (A, 0)
  · refine .inl ?_
    obtain ⟨A, hA⟩ := h0
    refine ⟨A, hA, ?_⟩
    rcases tab_snd 256 (Nat.le_refl _) _ _ hA with ⟨_, e⟩ | ⟨j, hj, ⟨e1, e2⟩ | ⟨e1, e2⟩⟩
    · have := congrArg Prod.snd e; simp at this
    · have b1 := congrArg Prod.snd e2
      have a1 := congrArg Prod.fst e2
      simp only [valF] at a1 b1
      subst a1
      have hb : (decOf (j : Int)).bytes = 1 := by omega
      have es : s = lineN j 0 0 := by
        rcases shape_of j hj with ⟨p, _⟩ | ⟨_, _, t, ht, hb2, _⟩
        · rw [ba_ext e1]; exact key_plain j (by omega) p 0 0
        · rw [hb] at hb2; rcases ht with rfl | rfl <;> simp at hb2
      refine ⟨by rw [strOf_size]; simp, ?_⟩
      rw [bytN_str _ (fun z hz => by simp at hz; subst hz; exact nat_in j hj), es]
      exact asm1 j hj hb
    · have a1 := congrArg Prod.fst e2
      simp only [valC] at a1
      subst a1
      refine ⟨by rw [strOf_size]; simp, ?_⟩
      rw [bytN_str _ (fun z hz => by simp at hz; rcases hz with rfl | rfl; exact ⟨by decide, by decide⟩; exact nat_in j hj), ba_ext e1, key_plain (256 + j) (by omega) (high_plain ⟨j, hj⟩) 0 0, ← line_true j 0 0]
      exact asm_high j hj
  · have hn : ∀ A, tab 256 s.data.toList ≠ some (A, 0) := fun A h => h0 ⟨A, h⟩
    refine .inr ?_
    by_cases h36 : (36 : UInt8) ∈ s.data.toList
    · refine .inr ?_
      cases ht : tab 256 (cutT s).data.toList with
      | none =>
        refine .inl ⟨hn, h36, .inl rfl, asm_not s (fun r hr => ?_)⟩
        obtain ⟨_, A, m, e, _⟩ := asm_key s hn r hr
        rw [ht] at e; cases e
      | some v =>
        obtain ⟨A, m⟩ := v
        have hm : 0 ≤ m ∧ m ≤ 2 := by
          rcases tab_snd 256 (Nat.le_refl _) _ _ ht with ⟨_, e⟩ | ⟨j, hj, ⟨_, e2⟩ | ⟨_, e2⟩⟩
          · have := congrArg Prod.snd e; simp at this; omega
          · have := congrArg Prod.snd e2
            have bo := bytes_of (j : Int) (by omega) (by omega)
            simp only [valF] at this
            omega
          · have := congrArg Prod.snd e2; simp [valC] at this; omega
        by_cases he : readErr (cutD s) (2 * m) = 0
        · refine .inr ⟨hn, h36, A, m, rfl, ?_⟩
          obtain ⟨P, H, U, es, hP, hH, hU⟩ := cut_split s h36
          obtain ⟨c1, c2, _⟩ := cut_line s P H U es hP hH hU
          rw [c1] at ht
          have hsz := read_size _ _ he
          have hD : ∀ x ∈ (cutD s).data.toList, hexS.contains x = true := by rw [c2]; exact hH
          rcases tab_snd 256 (Nat.le_refl _) _ _ ht with ⟨e1, e2⟩ | ⟨j, hj, ⟨e1, e2⟩ | ⟨e1, e2⟩⟩
          · obtain ⟨rfl, rfl⟩ := Prod.mk.inj e2
            obtain ⟨rfl, rfl⟩ := split_inj P [68, 66, 32] U [] hP (by decide) e1
            obtain ⟨_, v1, v2⟩ := hex_of2 (cutD s) hD hsz
            simp only [show (2 : Int) * 1 = 2 from rfl]
            generalize readVal (cutD s) 2 = v at *
            have es2 : s = dbS v := ba_ext (by rw [es, ← c2, v2]; simp [dbS])
            refine ⟨by simp, by decide, he, v1.1, by have := v1.2; omega, ?_⟩
            have q := asm_dbS v v1
            rw [← es2] at q
            refine ⟨by rw [q.1]; have := v1.1; have := v1.2; simp [bytN]; omega, q.2⟩
          · obtain ⟨rfl, rfl⟩ := Prod.mk.inj e2
            have bI := bytN_str [(j : Int)] (fun z hz => by simp at hz; subst hz; exact nat_in j hj)
            rcases shape_of j hj with ⟨_, hb⟩ | ⟨P2, U2, t, ht2, hb, hP2, hU2, hk, hl2⟩
            · rw [hb] at he; exact absurd he (by unfold readErr; rw [if_pos (.inl (by decide))]; decide)
            · rw [hk] at e1
              obtain ⟨rfl, rfl⟩ := split_inj P P2 U U2 hP hP2 e1
              rcases ht2 with rfl | rfl
              · have hb2 : (decOf (j : Int)).bytes = 2 := hb
                rw [hb2] at he hsz ⊢
                obtain ⟨_, v1, v2⟩ := hex_of2 (cutD s) hD hsz
                simp only [show (2 : Int) * (2 - 1) = 2 from rfl] at he ⊢
                generalize readVal (cutD s) 2 = v at *
                have es2 : s = lineN j v 0 := ba_ext (by rw [es, hl2, ← c2, v2]; simp [rtok])
                refine ⟨.inl rfl, by rw [strOf_size]; simp, he, v1.1, by have := v1.2; omega, ?_⟩
                have q := asm2 j hj hb2 v v1
                rw [← es2] at q
                refine ⟨by rw [q.1, bI]; have := v1.1; have := v1.2; simp; omega, q.2⟩
              · have hb2 : (decOf (j : Int)).bytes = 3 := hb
                rw [hb2] at he hsz ⊢
                obtain ⟨_, v1, v2⟩ := hex_of4 (cutD s) hD hsz
                simp only [show (2 : Int) * (3 - 1) = 4 from rfl] at he ⊢
                generalize readVal (cutD s) 4 = v at *
                have es2 : s = lineN j (v % 256) (v / 256) := ba_ext (by rw [es, hl2, ← c2, v2]; simp [rtok]; rw [show v / 256 * 256 + v % 256 = v by omega])
                refine ⟨.inr rfl, by rw [strOf_size]; simp, he, v1.1, v1.2, ?_⟩
                have q := asm3 j hj hb2 (v % 256) (v / 256) ⟨by omega, by omega⟩ ⟨by omega, by omega⟩
                rw [← es2] at q
                exact ⟨by rw [q.1, bI]; simp, q.2⟩
          · obtain ⟨rfl, rfl⟩ := Prod.mk.inj e2
            exact absurd he (by unfold readErr; rw [if_pos (.inl (by decide))]; decide)
        · refine .inl ⟨hn, h36, .inr ⟨A, m, rfl, hm.1, hm.2, he⟩, asm_not s (fun r hr => ?_)⟩
          obtain ⟨_, A2, m2, e, _, q⟩ := asm_key s hn r hr
          rw [ht] at e
          obtain ⟨rfl, rfl⟩ := Prod.mk.inj (Option.some.inj e)
          exact he q
    · exact .inl ⟨hn, h36, asm_not s (fun r hr => h36 (asm_key s hn r hr).1)⟩
end Go.Proofs.YtlchkflpaehgcaaGreatDoor
namespace Go.Proofs.YtlchkflpaehgcaaGreatDoor
open Go.RowKit
set_option linter.unusedVariables false
set_option linter.unusedSimpArgs false

theorem cutT_size (s : ByteArray) (h : (36 : UInt8) ∈ s.data.toList) : (cutT s).size ≤ s.size ∧ (cutD s).size ≤ s.size := by
  have hl := pre_lt _ h
  have hsz : s.data.toList.length = s.size := Array.length_toList
  rw [hsz] at hl
  have hl2 : cutI s < s.size := hl
  have a1 : (cutA s).size + 1 + (cutB s).size = s.size := by
    simp only [cutA, cutB, ByteArray.size_extract]
    omega
  have r1 : (cutR s).size ≤ (cutB s).size := trim_le (cutB s)
  have o1 : (⟨#[36]⟩ : ByteArray).size = 1 := rfl
  refine ⟨?_, ?_⟩
  · unfold cutT
    rw [ByteArray.size_append, ByteArray.size_append, o1]
    omega
  · unfold cutD
    simp only [ByteArray.size_extract]
    omega
theorem look_of (f : List UInt8 → Option (ByteArray × Int)) (Bm nn : Nat) (s : ByteArray) (hs : s.size ≤ maxLen) : Look (fun u => MapIs u Bm nn f) Bm s ((f s.data.toList).elim ByteArray.empty (·.1)) ((f s.data.toList).elim 0 (·.2)) (f s.data.toList).isSome := fun u h => h.get s hs
theorem look_some (f : List UInt8 → Option (ByteArray × Int)) (Bm nn : Nat) (s A : ByteArray) (m : Int) (hs : s.size ≤ maxLen) (h : f s.data.toList = some (A, m)) : Look (fun u => MapIs u Bm nn f) Bm s A m true := by
  have := look_of f Bm nn s hs
  rw [h] at this
  exact this
theorem look_none (f : List UInt8 → Option (ByteArray × Int)) (Bm nn : Nat) (s : ByteArray) (hs : s.size ≤ maxLen) (h : f s.data.toList = none) : Look (fun u => MapIs u Bm nn f) Bm s ByteArray.empty 0 false := by
  have := look_of f Bm nn s hs
  rw [h] at this
  exact this
theorem read_none (d : Int) : readErr ⟨#[]⟩ d ≠ 0 := by
  unfold readErr
  split
  · decide
  · rename_i h
    rw [if_pos (by show ((0 : Nat) : Int) ≠ d; omega)]
    decide
theorem tab_m (s : List UInt8) (A : ByteArray) (m : Int) (h : tab 256 s = some (A, m)) : 0 ≤ m ∧ m ≤ 2 := by
  rcases tab_snd 256 (Nat.le_refl _) _ _ h with ⟨_, e⟩ | ⟨j, hj, ⟨_, e2⟩ | ⟨_, e2⟩⟩
  · have := congrArg Prod.snd e; simp at this; omega
  · have := congrArg Prod.snd e2
    have bo := bytes_of (j : Int) (by omega) (by omega)
    simp only [valF] at this
    omega
  · have := congrArg Prod.snd e2; simp [valC] at this; omega
theorem lasm_any (s : ByteArray) (Bm nn : Nat) (w : World) (hM : MapIs w Bm nn (tab 256)) (hs : s.size ≤ maxLen) : Calls Tryz.prog 16 #[.map (some Bm), .string s] w fun e w' => ∃ v, e = .returned (.tuple #[v, .int .i64 (asmE s)]) ∧ Byts w' v (asmB s) ∧ Kept w w' := by
  have hno : (∀ A, tab 256 s.data.toList ≠ some (A, 0)) → ∃ A1 m1 ok1, Look (fun u => MapIs u Bm nn (tab 256)) Bm s A1 m1 ok1 ∧ (ok1 = true → (m1 == 0) = false) ∧ 0 ≤ m1 ∧ m1 ≤ 2 := by
    intro hn
    cases h : tab 256 s.data.toList with
    | none => exact ⟨_, _, _, look_none _ Bm nn s hs h, fun q => (by cases q), by decide, by decide⟩
    | some v =>
      obtain ⟨A, m⟩ := v
      have hm := tab_m _ A m h
      refine ⟨A, m, true, look_some _ Bm nn s A m hs h, fun _ => ?_, hm.1, hm.2⟩
      have : m ≠ 0 := fun e => hn A (by rw [h, e])
      simpa using this
  rcases asm_cases s with ⟨A, hf, hA, e1, e2⟩ | ⟨hn, h36, e1, e2⟩ | ⟨hn, h36, ht, e1, e2⟩ | ⟨hn, h36, A, m, ht, hm, hA, he, r0, r1, e1, e2⟩
  · rw [e1, e2]
    exact lasm_hit _ Bm nn s A w hM hs hf (by unfold maxLen; omega)
  · rw [e1, e2]
    obtain ⟨A1, m1, ok1, L1, q, m0, m2⟩ := hno hn
    exact lasm_no _ Bm nn s s ⟨#[]⟩ A1 A1 m1 m1 ok1 ok1 w hM L1 L1 q (fun u => cutN_no s u hs h36) (by decide) m0 m2 (.inr (read_none _))
  · rw [e1, e2]
    obtain ⟨A1, m1, ok1, L1, q, _, _⟩ := hno hn
    obtain ⟨s1, s2⟩ := cutT_size s h36
    rcases ht with ht | ⟨A, m, ht, m0, m2, he⟩
    · exact lasm_no _ Bm nn s (cutT s) (cutD s) A1 _ m1 _ ok1 _ w hM L1 (look_none _ Bm nn (cutT s) (by omega) ht) q (fun u => cutN_yes s u hs h36) (by omega) (by decide) (by decide) (.inl rfl)
    · exact lasm_no _ Bm nn s (cutT s) (cutD s) A1 A m1 m ok1 _ w hM L1 (look_some _ Bm nn (cutT s) A m (by omega) ht) q (fun u => cutN_yes s u hs h36) (by omega) m0 m2 (.inr he)
  · rw [e1, e2]
    obtain ⟨A1, m1, ok1, L1, q, _, _⟩ := hno hn
    obtain ⟨s1, s2⟩ := cutT_size s h36
    rcases hm with hm | hm
    · exact lasm_yes1 _ Bm nn s (cutT s) (cutD s) A1 A m1 m ok1 w hM L1 (look_some _ Bm nn (cutT s) A m (by omega) ht) q (fun u => cutN_yes s u hs h36) (by omega) hm hA he r0 r1
    · exact lasm_yes2 _ Bm nn s (cutT s) (cutD s) A1 A m1 m ok1 w hM L1 (look_some _ Bm nn (cutT s) A m (by omega) ht) q (fun u => cutN_yes s u hs h36) (by omega) hm hA he r0 r1
theorem lassemble_any (s : ByteArray) (w : World) (hs : s.size ≤ 4611686018427387904) (lay : Lay w) : Calls Tryz.prog 10 #[.string s] w fun e w' => ∃ v, e = .returned (.tuple #[v, .int .i64 (asmE s)]) ∧ Byts w' v (asmB s) ∧ Kept w w' := by
  have C1 := hid (shapes_any w lay)
  have C2 := hid (fun Bm u h => lasm_any s Bm 513 u h (by unfold maxLen; omega))
  generalize asmE s = E at *
  generalize asmB s = B at *
  clear lay
  go_enter Tryz.func10, Tryz.ntmps10
  go_wp2_with fail
  refine C1.out.mono ?_
  rintro e u1 ⟨Bm, rfl, hm, _, g1⟩
  have HM := hid hm
  have K1 := hid g1
  clear hm g1
  go_wp2_with fail
  refine (C2.out _ _ HM.out).mono ?_
  rintro e u2 ⟨v, rfl, hb, g2⟩
  have HB := hid hb
  have K2 := hid (K1.out.trans g2)
  clear hb g2
  go_wp2
  exact bodyPost_ret (v := .tuple #[v, .int .i64 E]) (by simp [results, Tryz.results10, go_sem]) rfl ⟨v, rfl, HB.out, K2.out⟩
theorem owns_base {w : World} {b1 b2 : Nat} {e : TypeId} {size : Nat} {v : Value} {n : Nat} {xs : List Value} (o : w.ownsRow b1 e size v n xs) (h : b2 ≤ b1) : w.ownsRow b2 e size v n xs := by
  obtain ⟨o1, o2⟩ := o
  refine ⟨o1, ?_⟩
  rcases o2 with o2 | ⟨g, cap, cur, e1, e2, r⟩
  · exact .inl o2
  · exact .inr ⟨g, cap, cur, e1, Nat.le_trans h e2, r⟩
set_option maxRecDepth 100000 in
set_option maxHeartbeats 4000000 in
theorem lall_any (ss : List ByteArray) (a : Option Addr) (cap : Nat) (w : World) (row : SRow w a ss) (hbig : ss.length ≤ 8796093022000) (lay : Lay w) :
    Calls Tryz.prog 12 #[.slice a ss.length cap] w fun e w' => ∃ v, e = .returned (.tuple #[v, .int .i64 (allE ss)]) ∧ w'.ownsRow w.heap.size 5 1 v (allB ss).length ((allB ss).map (Value.int .u8)) ∧ Kept w w' := by
  obtain ⟨i0, hi, hz0, hz1, hz2⟩ := info_parts info_u8
  obtain ⟨LN, hLN⟩ : ∃ n : Nat, ss.length = n := ⟨_, rfl⟩
  have LNb : LN ≤ 8796093022000 := by omega
  have HLN := hid hLN
  have HR := hid row
  have HNO := hid (all_no ss)
  have HYES := hid (all_yes ss)
  have C1 := hid (shapes_any w lay)
  rw [hLN]
  clear hLN hbig row lay
  go_enter Tryz.func12, Tryz.ntmps12
  go_wp2_with fail
  refine C1.out.mono ?_
  rintro e w0 ⟨Bm, rfl, hm0, _, g0⟩
  have HM0 := hid hm0
  have K0 := hid g0
  clear hm0 g0 C1
  go_wp2
  go_loopw [5, 13] (fun v i wr => ∃ k : Nat, k ≤ LN ∧ i = .int .i64 (k : Int) ∧ okTill ss k ∧ wr.ownsRow w0.heap.size 5 1 v (outTo ss k).length ((outTo ss k).map (Value.int .u8)) ∧ Kept w0 wr) (fun _ i _ => LN - (intOf i).toNat)
  case atStart => exact ⟨0, Nat.zero_le _, rfl, fun j h => absurd h (by omega), World.ownsRow_nil _ _ _ _, Kept.refl _⟩
  case round =>
    obtain ⟨k, hk, rfl, hok, hown, hkp⟩ := hrel
    have HOK := hid hok
    have HO := hid hown
    have HK := hid hkp
    have OL := hid (out_len ss k (by rw [HLN.out]; exact hk) hok)
    clear hok hown hkp
    by_cases hlt : k < LN
    · have hlt2 : (k : Int) < (LN : Int) := by omega
      have hlt3 : k < ss.length := by rw [HLN.out]; exact hlt
      obtain ⟨hsz, hx0⟩ := HR.out
      obtain ⟨x, rfl, hxb, hc⟩ : ∃ x : Addr, a = some x ∧ x.block < w.heap.size ∧ ∀ i, i < ss.length → w.cell? (x.add i) = some (.string (ss.getD i ByteArray.empty)) := by
        rcases hx0 with h | h
        · rw [h] at hlt3; simp at hlt3
        · exact h
      have cK : wr.cell? (x.add k) = some (.string (ss.getD k ByteArray.empty)) := ((K0.out.trans HK.out).cell (x := x.add k) (by rw [addB]; exact hxb)).trans (hc k hlt3)
      have AL := hid (asm_len (ss.getD k ByteArray.empty))
      have OS := hid (out_step ss k hlt3)
      have NOK := hid (fun h => HNO.out k hlt3 h)
      have OKN := hid (fun (h : asmE (ss.getD k ByteArray.empty) = 0) => show okTill ss (k + 1) from fun j hj => by
        by_cases e : j = k
        · rw [e]; exact h
        · exact HOK.out j (by omega))
      have hS : (ss.getD k ByteArray.empty).size ≤ 4611686018427387904 := hsz _ (by rw [getD_get ss k hlt3]; exact List.getElem_mem hlt3)
      have C := lasm_any (ss.getD k ByteArray.empty) Bm 513 wr (HM0.out.kept HK.out) (by unfold maxLen; omega)
      have CC := hid C
      clear hsz hx0 hc C hS
      obtain ⟨E, hE⟩ : ∃ v, asmE (ss.getD k ByteArray.empty) = v := ⟨_, rfl⟩
      obtain ⟨M, hM⟩ : ∃ v, asmB (ss.getD k ByteArray.empty) = v := ⟨_, rfl⟩
      rw [hE, hM] at CC AL
      rw [hE] at NOK OKN
      rw [hM] at OS
      generalize ss.getD k ByteArray.empty = S at *
      clear hE hM
      obtain ⟨O, hO⟩ : ∃ v, outTo ss k = v := ⟨_, rfl⟩
      rw [hO] at HO OL OS
      clear hO
      rcases AL.out with ⟨rfl, m1, m3⟩ | rfl
      · clear AL
        go_wp2_with fail
        refine CC.out.mono ?_
        rintro e u1 ⟨v1, rfl, ho1, g1⟩
        obtain ⟨g, c1, rfl, hcells⟩ : ∃ g c1, v1 = .slice (some ⟨g, 0, none⟩) M.length c1 ∧ ∀ (j : Nat) u, (M.map (Value.int .u8))[j]? = some u → u1.cell? ((⟨g, 0, none⟩ : Addr).add j) = some u := by
          rcases ho1 with ⟨_, h⟩ | ⟨g, c1, e1, _, _, _, h⟩
          · rw [h] at m1; simp at m1
          · exact ⟨g, c1, e1, h⟩
        have HO1 := hid (owns_kept g1 HO.out)
        have HK1 := hid (HK.out.trans g1)
        have HCL := hid hcells
        have z1 : w0.heap.size ≤ u1.heap.size := HK1.out.size
        clear ho1 g1 CC hcells
        go_wp2_with (at_builtin; refine wpList_append_own _ rfl _ _ 22 rfl w0.heap.size 5 i0 (.int .u8 0) 1 1 Tryz.underlying22 hi hz0 hz1 hz2 rfl (by decide) _ _ _ rfl HO1.out ⟨g, 0, none⟩ M.length c1 (M.map (Value.int .u8)) rfl (by simp) HCL.out ?c2 ?c3 ?c4 z1 ?_)
        case c2 => intro u hu; obtain ⟨q, _, rfl⟩ := List.mem_map.1 hu; rfl
        case c3 => have := OL.out; unfold maxLen; omega
        case c4 => have := OL.out; omega
        intro v' w1 hown' hgrow _
        have KB := hid (HK1.out.by hgrow (owns_row HO1.out))
        have HW := hid hown'
        clear hown' hgrow
        go_wp2
        go_roundw
        case rel => exact ⟨k + 1, by omega, by go_num, OKN.out (by first | rfl | trivial), by rw [OS.out]; simpa using HW.out, KB.out⟩
        case measure => first | omega | (simp; omega) | (simp [intOf]; omega)
      · have E := hid (NOK.out rfl)
        clear AL
        go_wp2_with fail
        refine CC.out.mono ?_
        rintro e u1 ⟨v1, rfl, ho1, g1⟩
        have HK1 := hid (K0.out.trans (HK.out.trans g1))
        clear ho1 g1 CC
        go_wp2
        exact bodyPost_ret (v := .tuple #[.slice none 0 0, .int .i64 6]) (by simp [results, Tryz.results12, go_sem]) rfl ⟨.slice none 0 0, by rw [E.out.2], by rw [E.out.1]; exact World.ownsRow_nil _ _ _ _, HK1.out⟩
    · obtain rfl : k = LN := by omega
      have E := hid (HYES.out (by rw [HLN.out]; exact HOK.out))
      have hl2 : ¬ ((k : Int) < (k : Int)) := by omega
      go_wp2
      exact bodyPost_ret (by simp [results, Tryz.results12, go_sem]; rfl) rfl ⟨_, by rw [E.out.2], by rw [E.out.1, HLN.out]; exact owns_base HO.out K0.out.size, K0.out.trans HK.out⟩
end Go.Proofs.YtlchkflpaehgcaaGreatDoor
