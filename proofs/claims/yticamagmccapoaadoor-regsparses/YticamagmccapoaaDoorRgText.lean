/- What a text of registers holds: its parts as words, and when a text is the Text of registers. -/
import Derived.Test.YticamagmccapoaaDoorRegs5
import Derived.Test.YticamagmccapoaaDoorRead
namespace Go.Proofs.YticamagmccapoaaDoor
open Go.RowKit
set_option linter.unusedVariables false
set_option linter.unusedSimpArgs false

def sl (s : ByteArray) (k : Nat) : ByteArray := s.extract (8 * k + 3) (8 * k + 7)
def wd (s : ByteArray) (k : Nat) : Int := readVal (sl s k) 4
def partR (s : ByteArray) : Nat → Rg
  | 0 => zeroR
  | k + 1 => putP (pairAt k) (wd s k) (partR s k)
def endR (s : ByteArray) : Rg := { partR s 5 with p := wd s 5 }
def capOf (c : Int) : Bool := (decide (48 ≤ c) && decide (c ≤ 57)) || (decide (65 ≤ c) && decide (c ≤ 70))
def name3 : Nat → ByteArray
  | 0 => ⟨#[65, 70, 61]⟩
  | 1 => ⟨#[66, 67, 61]⟩
  | 2 => ⟨#[68, 69, 61]⟩
  | 3 => ⟨#[72, 76, 61]⟩
  | 4 => ⟨#[83, 80, 61]⟩
  | _ => ⟨#[80, 67, 61]⟩
def blankOk (s : ByteArray) (k : Nat) : Prop := k < 5 → byteAt s (8 * k + 7) = 32
def nameOk (s : ByteArray) (k : Nat) : Prop := s.extract (8 * k) (8 * k + 3) = name3 k
def capsTo (s : ByteArray) (k j : Nat) : Prop := ∀ i, i < j → capOf (byteAt s (8 * k + 3 + i)) = true
def lowOk (s : ByteArray) (k : Nat) : Prop := k = 0 → wd s 0 % 16 = 0
def PartOk (s : ByteArray) (k : Nat) : Prop := blankOk s k ∧ nameOk s k ∧ capsTo s k 4 ∧ lowOk s k
def good (s : ByteArray) : Prop := ∀ k, k < 6 → PartOk s k

theorem read_bd (t : ByteArray) : 0 ≤ readVal t 4 ∧ readVal t 4 ≤ 65535 := by
  unfold readVal
  rw [if_neg (by omega)]
  split
  · omega
  · rename_i h
    have h4 : t.size = 4 := by omega
    unfold finVal
    split
    · have := acc_bd t t.size
      rw [h4] at this ⊢
      omega
    · omega
theorem wd_bd (s : ByteArray) (k : Nat) : 0 ≤ wd s k ∧ wd s k ≤ 65535 := read_bd _

theorem putP_ok {r : Rg} (ok : r.ok) (n v : Int) (v0 : 0 ≤ v) (v1 : v ≤ 65535) : (putP n v r).ok := by
  obtain ⟨⟨ha0, ha1⟩, ⟨hf0, hf1⟩, ⟨hb0, hb1⟩, ⟨hc0, hc1⟩, ⟨hd0, hd1⟩, ⟨he0, he1⟩, ⟨hh0, hh1⟩, ⟨hl0, hl1⟩, ⟨hs0, hs1⟩, ⟨hp0, hp1⟩⟩ := ok
  unfold putP
  repeat' split
  all_goals
    unfold Rg.ok
    simp only [zeroR]
    omega
theorem zero_ok : zeroR.ok := by unfold Rg.ok zeroR; decide
theorem partR_ok (s : ByteArray) (k : Nat) : (partR s k).ok := by
  induction k with
  | zero => exact zero_ok
  | succ k ih => exact putP_ok ih _ _ (wd_bd s k).1 (wd_bd s k).2
theorem withP_ok {r : Rg} {v : Int} (ok : r.ok) (h : 0 ≤ v ∧ v ≤ 65535) : Rg.ok { r with p := v } := by
  obtain ⟨h1, h2, h3, h4, h5, h6, h7, h8, h9, _⟩ := ok
  exact ⟨h1, h2, h3, h4, h5, h6, h7, h8, h9, h⟩
theorem endR_ok (s : ByteArray) : (endR s).ok := withP_ok (partR_ok s 5) (wd_bd s 5)
theorem end_pairs (s : ByteArray) : pairOf 4 (endR s) = wd s 0 / 16 * 16 ∧ pairOf 0 (endR s) = wd s 1 ∧ pairOf 1 (endR s) = wd s 2 ∧ pairOf 2 (endR s) = wd s 3 ∧ pairOf 3 (endR s) = wd s 4 := by
  have b0 := wd_bd s 0
  have b1 := wd_bd s 1
  have b2 := wd_bd s 2
  have b3 := wd_bd s 3
  have b4 := wd_bd s 4
  simp [endR, partR, putP, pairAt, pairOf]
  omega

theorem hexcap_fin : ∀ n : Fin 16, capOf ((hexc (n.val : Int)).toNat : Int) = true ∧ dokOf ((hexc (n.val : Int)).toNat : Int) = true ∧ dvalOf ((hexc (n.val : Int)).toNat : Int) = (n.val : Int) := by decide +kernel
theorem hexcap (n : Int) (h0 : 0 ≤ n) (h1 : n < 16) : capOf ((hexc n).toNat : Int) = true ∧ dokOf ((hexc n).toNat : Int) = true ∧ dvalOf ((hexc n).toNat : Int) = n := by
  obtain ⟨m, rfl⟩ := Int.eq_ofNat_of_zero_le h0
  exact hexcap_fin ⟨m, by omega⟩
theorem caphex_fin : ∀ b : Fin 256, capOf (b.val : Int) = true → dokOf (b.val : Int) = true ∧ hexc (dvalOf (b.val : Int)) = UInt8.ofNat b.val := by decide +kernel
theorem caphex (b : UInt8) (h : capOf (b.toNat : Int) = true) : dokOf (b.toNat : Int) = true ∧ hexc (dvalOf (b.toNat : Int)) = b := by
  have := caphex_fin ⟨b.toNat, b.toNat_lt⟩ h
  simpa using this
theorem four (t : ByteArray) (h : t.size = 4) : ∃ x y z u : UInt8, t = ⟨#[x, y, z, u]⟩ := by
  obtain ⟨⟨l⟩⟩ := t
  match l, h with
  | [x, y, z, u], _ => exact ⟨x, y, z, u, rfl⟩
theorem hex16_list (v : Int) : hex16Of v = ⟨#[hexc (v / 256 / 16), hexc (v / 256 % 16), hexc (v % 256 / 16), hexc (v % 256 % 16)]⟩ := rfl
def cap4 (t : ByteArray) : Prop := ∀ i, i < 4 → capOf (byteAt t i) = true
theorem read4 (x y z u : UInt8) (hx : dokOf (x.toNat : Int) = true) (hy : dokOf (y.toNat : Int) = true) (hz : dokOf (z.toNat : Int) = true) (hu : dokOf (u.toNat : Int) = true) :
    readVal ⟨#[x, y, z, u]⟩ 4 = ((dvalOf (x.toNat : Int) * 16 + dvalOf (y.toNat : Int)) * 16 + dvalOf (z.toNat : Int)) * 16 + dvalOf (u.toNat : Int) := by
  have hs : (ByteArray.mk #[x, y, z, u]).size = 4 := rfl
  have ok : okTo ⟨#[x, y, z, u]⟩ 4 = true := by
    show ((((true && dokOf (x.toNat : Int)) && dokOf (y.toNat : Int)) && dokOf (z.toNat : Int)) && dokOf (u.toNat : Int)) = true
    rw [hx, hy, hz, hu]; rfl
  have ac : accTo ⟨#[x, y, z, u]⟩ 4 = (((0 * 16 + dvalOf (x.toNat : Int)) * 16 + dvalOf (y.toNat : Int)) * 16 + dvalOf (z.toNat : Int)) * 16 + dvalOf (u.toNat : Int) := rfl
  have f := fin_yes ⟨#[x, y, z, u]⟩ (by rw [hs]; exact ok)
  unfold readVal
  rw [if_neg (by omega), if_neg (by rw [hs]; decide), f.1, hs, ac]
  omega
theorem read16 (a : Int) (h0 : 0 ≤ a) (h1 : a ≤ 65535) : readVal (hex16Of a) 4 = a := by
  obtain ⟨_, k1, v1⟩ := hexcap (a / 256 / 16) (by omega) (by omega)
  obtain ⟨_, k2, v2⟩ := hexcap (a / 256 % 16) (by omega) (by omega)
  obtain ⟨_, k3, v3⟩ := hexcap (a % 256 / 16) (by omega) (by omega)
  obtain ⟨_, k4, v4⟩ := hexcap (a % 256 % 16) (by omega) (by omega)
  rw [hex16_list, read4 _ _ _ _ k1 k2 k3 k4, v1, v2, v3, v4]
  omega
theorem hex_cap (v : Int) (h0 : 0 ≤ v) (h1 : v ≤ 65535) : cap4 (hex16Of v) := by
  intro i hi
  obtain ⟨c1, _⟩ := hexcap (v / 256 / 16) (by omega) (by omega)
  obtain ⟨c2, _⟩ := hexcap (v / 256 % 16) (by omega) (by omega)
  obtain ⟨c3, _⟩ := hexcap (v % 256 / 16) (by omega) (by omega)
  obtain ⟨c4, _⟩ := hexcap (v % 256 % 16) (by omega) (by omega)
  match i, hi with
  | 0, _ => exact c1
  | 1, _ => exact c2
  | 2, _ => exact c3
  | 3, _ => exact c4
theorem cap_hex (t : ByteArray) (h : t.size = 4) (c : cap4 t) : hex16Of (readVal t 4) = t := by
  obtain ⟨x, y, z, u, rfl⟩ := four t h
  obtain ⟨k1, v1⟩ := caphex x (c 0 (by decide))
  obtain ⟨k2, v2⟩ := caphex y (c 1 (by decide))
  obtain ⟨k3, v3⟩ := caphex z (c 2 (by decide))
  obtain ⟨k4, v4⟩ := caphex u (c 3 (by decide))
  have b1 := dval_bd (x.toNat : Int)
  have b2 := dval_bd (y.toNat : Int)
  have b3 := dval_bd (z.toNat : Int)
  have b4 := dval_bd (u.toNat : Int)
  have e := read4 x y z u k1 k2 k3 k4
  rw [hex16_list]
  have e1 : readVal ⟨#[x, y, z, u]⟩ 4 / 256 / 16 = dvalOf (x.toNat : Int) := by omega
  have e2 : readVal ⟨#[x, y, z, u]⟩ 4 / 256 % 16 = dvalOf (y.toNat : Int) := by omega
  have e3 : readVal ⟨#[x, y, z, u]⟩ 4 % 256 / 16 = dvalOf (z.toNat : Int) := by omega
  have e4 : readVal ⟨#[x, y, z, u]⟩ 4 % 256 % 16 = dvalOf (u.toNat : Int) := by omega
  rw [e1, e2, e3, e4, v1, v2, v3, v4]
theorem hex_iff (t : ByteArray) (h : t.size = 4) : t = hex16Of (readVal t 4) ↔ cap4 t :=
  ⟨fun e => by rw [e]; exact hex_cap _ (read_bd t).1 (read_bd t).2, fun c => (cap_hex t h c).symm⟩
theorem hex_iff0 (t : ByteArray) (h : t.size = 4) : t = hex16Of (readVal t 4 / 16 * 16) ↔ cap4 t ∧ readVal t 4 % 16 = 0 := by
  have b := read_bd t
  constructor
  · intro e
    have c : cap4 t := by rw [e]; exact hex_cap _ (by omega) (by omega)
    have r := read16 (readVal t 4 / 16 * 16) (by omega) (by omega)
    rw [← e] at r
    exact ⟨c, by omega⟩
  · rintro ⟨c, z⟩
    rw [show readVal t 4 / 16 * 16 = readVal t 4 by omega]
    exact (cap_hex t h c).symm

theorem ext_list (s : ByteArray) (a b : Nat) : (s.extract a b).data.toList = (s.data.toList.drop a).take (b - a) := by
  simp [ByteArray.data_extract, List.extract]
theorem ba_eq {a b : ByteArray} : a = b ↔ a.data.toList = b.data.toList :=
  ⟨fun h => by rw [h], fun h => ByteArray.ext (Array.toList_inj.1 h)⟩
theorem byte_ext (s : ByteArray) (a b i : Nat) (h : i < b - a) : byteAt (s.extract a b) i = byteAt s (a + i) := by
  unfold byteAt
  rw [ext_list]
  simp [List.getD_eq_getElem?_getD, List.getElem?_take, h]
theorem cut1 {α : Type} {L a M : List α} (n : Nat) (h : a.length = n) : L = a ++ M ↔ L.take n = a ∧ L.drop n = M := by
  constructor
  · rintro rfl
    exact ⟨List.take_left' h, List.drop_left' h⟩
  · rintro ⟨h1, h2⟩
    rw [← h1, ← h2, List.take_append_drop]
theorem sl_size (s : ByteArray) (k : Nat) (h : s.size = 47) (hk : k < 6) : (sl s k).size = 4 := by
  simp [sl]
  omega
theorem caps_sl (s : ByteArray) (k : Nat) : cap4 (sl s k) ↔ capsTo s k 4 := by
  constructor
  · intro c i hi
    have := c i hi
    rwa [sl, byte_ext _ _ _ _ (by omega)] at this
  · intro c i hi
    rw [sl, byte_ext _ _ _ _ (by omega)]
    exact c i hi
theorem blank_iff (s : ByteArray) (k : Nat) (h : k < s.size) : (s.data.toList.drop k).take 1 = [32] ↔ byteAt s k = 32 := by
  have h2 : k < s.data.toList.length := by simpa using h
  unfold byteAt
  rw [List.drop_eq_getElem_cons h2, List.getD_eq_getElem?_getD, List.getElem?_eq_getElem h2]
  simp
  constructor
  · intro e; rw [e]; rfl
  · intro e
    exact UInt8.toNat_inj.1 (by rw [show (32 : UInt8).toNat = 32 from rfl]; omega)
theorem text_list (r : Rg) : (textOf r).data.toList = [65, 70, 61] ++ ((hex16Of (pairOf 4 r)).data.toList ++ ([32] ++ ([66, 67, 61] ++ ((hex16Of (pairOf 0 r)).data.toList ++ ([32] ++ ([68, 69, 61] ++ ((hex16Of (pairOf 1 r)).data.toList ++ ([32] ++ ([72, 76, 61] ++ ((hex16Of (pairOf 2 r)).data.toList ++ ([32] ++ ([83, 80, 61] ++ ((hex16Of (pairOf 3 r)).data.toList ++ ([32] ++ ([80, 67, 61] ++ (hex16Of r.p).data.toList))))))))))))))) := by
  simp only [textOf, textTo, pieceAt, nameAt, pairAt]
  simp [ByteArray.data_append]
theorem h4 (v : Int) : (hex16Of v).data.toList.length = 4 := rfl
theorem text_iff (s : ByteArray) (h : s.size = 47) : s = textOf (endR s) ↔ good s := by
  have hL : s.data.toList.length = 47 := by simpa using h
  obtain ⟨q0, q1, q2, q3, q4⟩ := end_pairs s
  have q5 : (endR s).p = wd s 5 := by simp only [endR]
  have z := fun k hk => sl_size s k h hk
  rw [ba_eq, text_list, q0, q1, q2, q3, q4, q5]
  rw [cut1 3 rfl, cut1 4 (h4 _), cut1 1 rfl, cut1 3 rfl, cut1 4 (h4 _), cut1 1 rfl, cut1 3 rfl, cut1 4 (h4 _), cut1 1 rfl, cut1 3 rfl, cut1 4 (h4 _), cut1 1 rfl, cut1 3 rfl, cut1 4 (h4 _), cut1 1 rfl, cut1 3 rfl]
  simp only [List.drop_drop, Nat.reduceAdd]
  have n : ∀ k, nameOk s k ↔ (s.data.toList.drop (8 * k)).take 3 = (name3 k).data.toList := fun k => by
    rw [nameOk, ba_eq, ext_list, show 8 * k + 3 - 8 * k = 3 by omega]
  have e : ∀ k v, sl s k = hex16Of v ↔ (s.data.toList.drop (8 * k + 3)).take 4 = (hex16Of v).data.toList := fun k v => by
    rw [sl, ba_eq, ext_list, show 8 * k + 7 - (8 * k + 3) = 4 by omega]
  have last : s.data.toList.drop 43 = (s.data.toList.drop 43).take 4 := by
    rw [List.take_of_length_le]; simp [hL]
  have c : ∀ k, k < 6 → 0 < k → ((s.data.toList.drop (8 * k + 3)).take 4 = (hex16Of (wd s k)).data.toList ↔ capsTo s k 4) := fun k hk h0 => by
    rw [← e, ← caps_sl, wd]
    exact hex_iff _ (z k hk)
  have c0 : ((s.data.toList.drop 3).take 4 = (hex16Of (wd s 0 / 16 * 16)).data.toList ↔ capsTo s 0 4 ∧ wd s 0 % 16 = 0) := by
    have := e 0 (wd s 0 / 16 * 16)
    rw [show 8 * 0 + 3 = 3 from rfl] at this
    rw [← this, ← caps_sl, wd]
    exact hex_iff0 _ (z 0 (by decide))
  have b : ∀ k, k < 5 → ((s.data.toList.drop (8 * k + 7)).take 1 = [32] ↔ blankOk s k) := fun k hk => by
    rw [blank_iff s _ (by omega)]
    exact ⟨fun e _ => e, fun e => e hk⟩
  have n0 := n 0
  have n1 := n 1
  have n2 := n 2
  have n3 := n 3
  have n4 := n 4
  have n5 := n 5
  have c1 := c 1 (by decide) (by decide)
  have c2 := c 2 (by decide) (by decide)
  have c3 := c 3 (by decide) (by decide)
  have c4 := c 4 (by decide) (by decide)
  have c5 := c 5 (by decide) (by decide)
  have b0 := b 0 (by decide)
  have b1 := b 1 (by decide)
  have b2 := b 2 (by decide)
  have b3 := b 3 (by decide)
  have b4 := b 4 (by decide)
  simp only [Nat.reduceMul, Nat.reduceAdd, name3, List.drop_zero] at n0 n1 n2 n3 n4 n5 c1 c2 c3 c4 c5 b0 b1 b2 b3 b4
  rw [last, ← n0, ← n1, ← n2, ← n3, ← n4, ← n5, c0, c1, c2, c3, c4, c5, b0, b1, b2, b3, b4]
  constructor
  · rintro ⟨m0, ⟨p0, l0⟩, k0, m1, p1, k1, m2, p2, k2, m3, p3, k3, m4, p4, k4, m5, p5⟩
    intro k hk
    match k, hk with
    | 0, _ => exact ⟨k0, m0, p0, fun _ => l0⟩
    | 1, _ => exact ⟨k1, m1, p1, fun e => by cases e⟩
    | 2, _ => exact ⟨k2, m2, p2, fun e => by cases e⟩
    | 3, _ => exact ⟨k3, m3, p3, fun e => by cases e⟩
    | 4, _ => exact ⟨k4, m4, p4, fun e => by cases e⟩
    | 5, _ => exact ⟨fun e => by omega, m5, p5, fun e => by cases e⟩
  · intro g
    obtain ⟨k0, m0, p0, l0⟩ := g 0 (by decide)
    obtain ⟨k1, m1, p1, _⟩ := g 1 (by decide)
    obtain ⟨k2, m2, p2, _⟩ := g 2 (by decide)
    obtain ⟨k3, m3, p3, _⟩ := g 3 (by decide)
    obtain ⟨k4, m4, p4, _⟩ := g 4 (by decide)
    obtain ⟨_, m5, p5, _⟩ := g 5 (by decide)
    exact ⟨m0, ⟨p0, l0 rfl⟩, k0, m1, p1, k1, m2, p2, k2, m3, p3, k3, m4, p4, k4, m5, p5⟩
end Go.Proofs.YticamagmccapoaaDoor
