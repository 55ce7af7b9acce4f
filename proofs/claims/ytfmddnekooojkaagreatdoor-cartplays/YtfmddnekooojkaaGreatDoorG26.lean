/- Plain numbers of layer 10: a cartridge as a record. The examples at the head of layer 10's laws, as plain numbers. -/
import Derived.Test.YtfmddnekooojkaaGreatDoorG04
import Derived.Test.YtfmddnekooojkaaGreatDoorG21
import Derived.Test.YtfmddnekooojkaaGreatDoorG06
namespace Go.Proofs.YtfmddnekooojkaaGreatDoor
open Go.RowKit
set_option linter.unusedVariables false
set_option linter.unusedSimpArgs false

structure Cs where
  is : Bool
  h : Hd
  img : List Int
  ram : List Int
  m : Mp
  live : Ck
  held : Ck
  last : Int
def cs0 : Cs := ⟨false, hd0, [], [], mp0, ck0, ck0, 0⟩
def newC (z : List Int) : Cs :=
  if parseE z = 0 then ⟨true, parseH z, z, List.replicate (parseH z).size.toNat 0, newR (parseH z).map, ck0, ck0, 255⟩ else cs0
def regS (s : Cs) (a : Int) : Int := if s.h.clk then regM s.m a else 0
def romS (s : Cs) (a : Int) : Int := romM s.m a (s.img.length : Int)
def ramS (s : Cs) (a : Int) : Int := ramM s.m a (s.ram.length : Int)
def readS (s : Cs) (a : Int) : Int :=
  if s.is = false then 255 else if a < 32768 then s.img.getD (romS s a).toNat 0
  else if regS s a ≠ 0 then readC s.held (regS s a) else if ramS s a < 0 then 255 else s.ram.getD (ramS s a).toNat 0
def lowS (s : Cs) (a v : Int) : Cs :=
  { s with m := writeM s.m a v, held := if s.h.clk = true ∧ 24576 ≤ a ∧ v = 1 ∧ s.last = 0 then s.live else s.held, last := if s.h.clk = true ∧ 24576 ≤ a then v else s.last }
def writeS (s : Cs) (a v : Int) : Cs :=
  if s.is = false then s else if a < 32768 then lowS s a v
  else if regS s a ≠ 0 then { s with live := writeC s.live (regS s a) v } else if ramS s a < 0 then s else { s with ram := s.ram.set (ramS s a).toNat v }
def tickS (s : Cs) : Cs := if s.is = true ∧ s.h.clk = true then { s with live := tickC s.live } else s
def saveS (s : Cs) : List Int := if s.is = true ∧ s.h.bat = true then s.ram ++ (if s.h.clk = true then bytesL s.live s.held else []) else []
def loadE (s : Cs) (b : List Int) : Int :=
  if s.is = false ∨ s.h.bat = false then 7 else if b.length ≠ (saveS s).length then 5 else if s.h.clk = true then ofE (b.drop s.ram.length) else 0
def loadS (s : Cs) (b : List Int) : Cs :=
  if loadE s b = 0 then { s with ram := b.take s.ram.length, live := if s.h.clk = true then ofX (b.drop s.ram.length) else s.live, held := if s.h.clk = true then ofY (b.drop s.ram.length) else s.held } else s
/-- A cartridge that New gave, or nobody's. -/
structure CsOk (s : Cs) : Prop where
  m : MpIn s.m
  live : CkIn s.live
  held : CkIn s.held
  last0 : 0 ≤ s.last
  last1 : s.last ≤ 255
  img : ∀ x ∈ s.img, InByte x
  ram : ∀ x ∈ s.ram, InByte x
  ilen : s.img.length ≤ 8388608
  rlen : s.ram.length ≤ 131072
  some : s.is = true → 0 < s.img.length
theorem in_ck0 : CkIn ck0 := ⟨by decide, by decide, by decide, by decide, by decide, by decide, by decide, by decide⟩
theorem in_mp0 : MpIn mp0 := ⟨by decide, by decide, by decide, by decide, by decide, by decide, by decide, by decide⟩
theorem cs0_ok : CsOk cs0 := ⟨in_mp0, in_ck0, in_ck0, by decide, by decide, (fun x h => by cases h), (fun x h => by cases h), by decide, by decide, (fun h => by cases h)⟩
theorem rom_in (s : Cs) (a : Int) (h : CsOk s) (a0 : 0 ≤ a) (a1 : a < 32768) (hs : s.is = true) : 0 ≤ romS s a ∧ romS s a < (s.img.length : Int) := by
  have l := h.some hs
  unfold romS romM
  rw [if_neg (by omega)]
  exact ⟨Int.emod_nonneg _ (by omega), Int.emod_lt_of_pos _ (by omega)⟩
theorem ram_in (s : Cs) (a : Int) : ramS s a = -1 ∨ (0 ≤ ramS s a ∧ ramS s a < (s.ram.length : Int)) := by
  unfold ramS ramM
  split
  · exact .inl rfl
  · exact .inr ⟨Int.emod_nonneg _ (by omega), Int.emod_lt_of_pos _ (by omega)⟩
theorem reg_in (s : Cs) (a : Int) : regS s a = 0 ∨ (8 ≤ regS s a ∧ regS s a ≤ 12) := by
  unfold regS
  split
  · unfold regM
    split
    · rename_i q; right; omega
    · exact .inl rfl
  · exact .inl rfl
theorem ram_win (s : Cs) (a : Int) (h : 0 ≤ ramS s a) : inWin a = true := by
  unfold ramS ramM at h
  split at h
  · omega
  · rename_i q
    cases hw : inWin a
    · exact absurd (.inr (.inl hw)) q
    · rfl
theorem write_in9 (c : Ck) (k v : Int) (h : CkIn c) (hk : 8 ≤ k ∧ k ≤ 12) (v0 : 0 ≤ v) (v1 : v ≤ 255) : CkIn (writeC c k v) := (write_ok (normC c) k v (norm_ok h) hk v0 v1).inn
theorem writeS_ok (s : Cs) (a v : Int) (h : CsOk s) (v0 : 0 ≤ v) (v1 : v ≤ 255) : CsOk (writeS s a v) := by
  obtain ⟨h1, h2, h3, h4, h5, h6, h7, h8, h9, h10⟩ := h
  unfold writeS
  split
  · exact ⟨h1, h2, h3, h4, h5, h6, h7, h8, h9, h10⟩
  split
  · unfold lowS
    refine ⟨write_in _ _ _ h1 v0 v1, h2, ?_, ?_, ?_, h6, h7, h8, h9, h10⟩
    · dsimp only; split <;> assumption
    · dsimp only; split <;> omega
    · dsimp only; split <;> omega
  split
  · rename_i q
    exact ⟨h1, write_in9 _ _ _ h2 ((reg_in s a).resolve_left q) v0 v1, h3, h4, h5, h6, h7, h8, h9, h10⟩
  split
  · exact ⟨h1, h2, h3, h4, h5, h6, h7, h8, h9, h10⟩
  · exact ⟨h1, h2, h3, h4, h5, h6, (fun x hx => by
      rcases List.mem_or_eq_of_mem_set hx with q | q
      · exact h7 x q
      · subst q; exact ⟨v0, v1⟩), h8, by show (s.ram.set _ _).length ≤ _; rw [List.length_set]; exact h9, h10⟩
theorem tickC_in (c : Ck) (h : CkIn c) : CkIn (tickC c) := (tick_ok (norm_ok h)).inn
theorem tickS_ok (s : Cs) (h : CsOk s) : CsOk (tickS s) := by
  obtain ⟨h1, h2, h3, h4, h5, h6, h7, h8, h9, h10⟩ := h
  unfold tickS
  split
  · exact ⟨h1, tickC_in _ h2, h3, h4, h5, h6, h7, h8, h9, h10⟩
  · exact ⟨h1, h2, h3, h4, h5, h6, h7, h8, h9, h10⟩
theorem of_in (z : List Int) (h : ∀ x ∈ z, InByte x) : CkIn (ofX z) ∧ CkIn (ofY z) := by
  have g : ∀ i, InByte (z.getD i 0) := by
    intro i
    by_cases q : i < z.length
    · rw [List.getD_eq_getElem?_getD, List.getElem?_eq_getElem q]; exact h _ (List.getElem_mem q)
    · rw [List.getD_eq_getElem?_getD, List.getElem?_eq_none (by omega)]; exact ⟨Int.le_refl 0, (by decide : (0 : Int) ≤ 255)⟩
  obtain ⟨p0, q0⟩ := g 0
  obtain ⟨p1, q1⟩ := g 1
  obtain ⟨p2, q2⟩ := g 2
  obtain ⟨p3, q3⟩ := g 3
  obtain ⟨p4, q4⟩ := g 4
  obtain ⟨p5, q5⟩ := g 5
  obtain ⟨p6, q6⟩ := g 6
  obtain ⟨p7, q7⟩ := g 7
  obtain ⟨p8, q8⟩ := g 8
  obtain ⟨p9, q9⟩ := g 9
  constructor
  · unfold ofX; split
    · exact ⟨p0, q0, p1, q1, p2, q2, by show 0 ≤ _ % 2 * 256 + _; omega, by show _ % 2 * 256 + _ ≤ 65535; omega⟩
    · exact in_ck0
  · unfold ofY; split
    · exact ⟨p5, q5, p6, q6, p7, q7, by show 0 ≤ _ % 2 * 256 + _; omega, by show _ % 2 * 256 + _ ≤ 65535; omega⟩
    · exact in_ck0
theorem loadS_ok (s : Cs) (b : List Int) (h : CsOk s) (hb : ∀ x ∈ b, InByte x) : CsOk (loadS s b) := by
  obtain ⟨h1, h2, h3, h4, h5, h6, h7, h8, h9, h10⟩ := h
  unfold loadS
  split
  · obtain ⟨o1, o2⟩ := of_in (b.drop s.ram.length) (fun x hx => hb x (List.mem_of_mem_drop hx))
    exact ⟨h1, by dsimp only; split <;> assumption, by dsimp only; split <;> assumption, h4, h5, h6, (fun x hx => hb x (List.mem_of_mem_take hx)), h8, by show (b.take _).length ≤ _; rw [List.length_take]; omega, h10⟩
  · exact ⟨h1, h2, h3, h4, h5, h6, h7, h8, h9, h10⟩
theorem most_fin8 : ∀ r : Fin 9, mostTo r.val ≤ 8388608 := by decide +kernel
theorem most_le8 (r : Nat) (h : r ≤ 8) : mostTo r ≤ 8388608 := most_fin8 ⟨r, by omega⟩
theorem size_le (m : Int) : sizeM m ≤ 131072 := by
  unfold sizeM
  by_cases q : m.toNat < 6
  · have f : ∀ r : Fin 6, ([0, 2048, 8192, 32768, 131072, 65536] : List Int).getD r.val 0 ≤ 131072 := by decide
    exact f ⟨m.toNat, q⟩
  · rw [List.getD_eq_getElem?_getD, List.getElem?_eq_none (by simp; omega)]; decide
theorem new_ok (z : List Int) (hz : ∀ x ∈ z, InByte x) : CsOk (newC z) := by
  unfold newC
  split
  · rename_i E
    have E2 := E
    unfold parseE at E2
    split at E2
    · omega
    split at E2
    · omega
    split at E2
    · omega
    rename_i q1 q2 q3
    have k0 : ∀ x, -9223372036854775808 ≤ kMap x ∧ kMap x ≤ 9223372036854775807 := fun x => by unfold kMap; repeat' split <;> first | decide | omega
    have H : parseH z = ⟨strB (titL z), z.getD 327 0, kMap (z.getD 327 0), kRam (z.getD 327 0), kBat (z.getD 327 0), kClk (z.getD 327 0), mostOf (z.getD 328 0) / 16384, (if kRam (z.getD 327 0) then sizeM (z.getD 329 0) else 0), sumOf z, 256 * z.getD 334 0 + z.getD 335 0⟩ := by unfold parseH; rw [if_pos E]
    have m8 : mostOf (z.getD 328 0) ≤ 8388608 := by
      unfold mostOf
      have : (z.getD 328 0).toNat ≤ 8 := by omega
      exact most_le8 _ this
    have sz : (parseH z).size ≤ 131072 := by
      rw [H]
      show (if _ then _ else _) ≤ (131072 : Int)
      split
      · exact size_le _
      · decide
    refine ⟨?_, in_ck0, in_ck0, (by decide : (0 : Int) ≤ 255), Int.le_refl 255, hz, (fun x hx => by rw [List.eq_of_mem_replicate hx]; exact ⟨Int.le_refl 0, (by decide : (0 : Int) ≤ 255)⟩), ?_, ?_, fun _ => ?_⟩
    · exact new_in _ (by rw [H]; exact (k0 _).1) (by rw [H]; exact (k0 _).2)
    · show z.length ≤ _; omega
    · show (List.replicate _ _).length ≤ _; rw [List.length_replicate]; omega
    · show 0 < z.length; omega
  · exact cs0_ok
end Go.Proofs.YtfmddnekooojkaaGreatDoor
namespace Go.Proofs.YtfmddnekooojkaaGreatDoor
open Go.RowKit
set_option linter.unusedVariables false
set_option linter.unusedSimpArgs false

def shI (k : Int) : List Int := makeB [83, 72, 79, 87, 78] k 0 2 [1, 2, 3]
set_option maxRecDepth 100000 in
theorem sh_len2 : (shI 2).length = 339 := by decide +kernel
set_option maxRecDepth 100000 in
theorem sh_len16 : (shI 16).length = 339 := by decide +kernel
set_option maxRecDepth 100000 in
theorem sh_parse2 : parseE (shI 2) = 0 := by decide +kernel
set_option maxRecDepth 100000 in
theorem sh_parse16 : parseE (shI 16) = 0 := by decide +kernel
theorem sh_in2 : ∀ x ∈ shI 2, InByte x := by
  have h : (shI 2).all (fun x => decide (0 ≤ x) && decide (x ≤ 255)) = true := by decide +kernel
  intro x hx
  have := List.all_eq_true.1 h x hx
  simp at this
  exact ⟨this.1, this.2⟩
theorem sh_in16 : ∀ x ∈ shI 16, InByte x := by
  have h : (shI 16).all (fun x => decide (0 ≤ x) && decide (x ≤ 255)) = true := by decide +kernel
  intro x hx
  have := List.all_eq_true.1 h x hx
  simp at this
  exact ⟨this.1, this.2⟩
def shC1 : Cs := writeS (newC (shI 2)) 40960 5
def shC2 : Cs := writeS shC1 0 10
def shC3 : Cs := writeS shC2 40960 5
def shD1 : Cs := writeS (newC (shI 16)) 0 10
def shD2 : Cs := writeS shD1 16384 8
def shD3 : Cs := tickS shD2
def shD4 : Cs := writeS shD3 24576 0
def shD5 : Cs := writeS shD4 24576 1
set_option maxRecDepth 100000 in
theorem sh_was : readS shC1 40960 = 255 := by decide +kernel
set_option maxRecDepth 100000 in
theorem sh_five : readS shC3 40960 = 5 := by decide +kernel
set_option maxRecDepth 100000 in
theorem sh_one : readS shC3 336 = 1 := by decide +kernel
set_option maxRecDepth 100000 in
theorem sh_old : readS shD3 40960 = 0 := by decide +kernel
set_option maxRecDepth 100000 in
theorem sh_new : readS shD5 40960 = 1 := by decide +kernel
end Go.Proofs.YtfmddnekooojkaaGreatDoor
