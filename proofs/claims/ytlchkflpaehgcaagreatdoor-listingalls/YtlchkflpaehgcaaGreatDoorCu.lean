/- The lines of layer 6 as tokens; operandsOf as a whole. What decode, write and Text of layer 6 come to. -/
import Derived.Test.YtlchkflpaehgcaaGreatDoorCk
import Derived.Test.YtlchkflpaehgcaaGreatDoorCp
import Derived.Test.YtlchkflpaehgcaaGreatDoorCq
import Derived.Test.YtlchkflpaehgcaaGreatDoorCr
import Derived.Test.YtlchkflpaehgcaaGreatDoorCs
import Derived.Test.YtlchkflpaehgcaaGreatDoorCt
namespace Go.Proofs.YtlchkflpaehgcaaGreatDoor
open Go.RowKit
set_option linter.unusedVariables false
set_option linter.unusedSimpArgs false

def rtk (b c : ByteArray) (t : Nat) : List UInt8 := if t = 256 then b.data.toList else if t = 257 then c.data.toList else [UInt8.ofNat t]
def rT (b c : ByteArray) (l : List Nat) : ByteArray := ⟨(l.flatMap (rtk b c)).toArray⟩
theorem rtk_lit (b c : ByteArray) (t : Nat) (h : t < 256) : rtk b c t = [UInt8.ofNat t] := by
  unfold rtk
  rw [if_neg (by omega), if_neg (by omega)]
theorem flat_lit (b c : ByteArray) (l : List Nat) (h : ∀ t ∈ l, t < 256) : l.flatMap (rtk b c) = l.map UInt8.ofNat := by
  induction l with
  | nil => rfl
  | cons a l ih => rw [List.flatMap_cons, rtk_lit b c a (h a (by simp)), ih (fun t ht => h t (by simp [ht]))]; rfl
theorem rT_lit (b c : ByteArray) (l : List Nat) (h : ∀ t ∈ l, t < 256) : rT b c l = bs l := by unfold rT bs; rw [flat_lit b c l h]
theorem rT_tab (b c : ByteArray) (l : List (List Nat)) (h : l.all (fun x => x.all (fun t => decide (t < 256))) = true) (x : Int) : rT b c (l.getD x.toNat []) = tabS l x := by
  unfold tabS
  refine rT_lit b c _ fun t ht => ?_
  rw [List.getD_eq_getElem?_getD] at ht
  rcases Nat.lt_or_ge x.toNat l.length with q | q
  · rw [List.getElem?_eq_getElem q] at ht
    have h1 := List.all_eq_true.1 h _ (List.getElem_mem q)
    have h2 := List.all_eq_true.1 h1 t ht
    simpa using h2
  · rw [List.getElem?_eq_none q] at ht; simp at ht
theorem rT_tab2 (b c : ByteArray) (l : List (List Nat)) (h : l.all (fun x => x.all (fun t => decide (t < 256))) = true) (x : Int) : rT b c (l[x.toNat]?.getD []) = tabS l x := by
  rw [← List.getD_eq_getElem?_getD]; exact rT_tab b c l h x
theorem rT_b (b c : ByteArray) : rT b c [256] = b := by simp [rT, rtk]
theorem rT_c (b c : ByteArray) : rT b c [257] = c := by simp [rT, rtk]
theorem rT_pb (b c : ByteArray) : rT b c [40, 256, 41] = ⟨#[40]⟩ ++ b ++ ⟨#[41]⟩ := by apply ByteArray.ext; simp [rT, rtk]
theorem rT_pc (b c : ByteArray) : rT b c [40, 257, 41] = ⟨#[40]⟩ ++ c ++ ⟨#[41]⟩ := by apply ByteArray.ext; simp [rT, rtk]
theorem rT_sp (b c : ByteArray) : rT b c [83, 80, 43, 256] = ⟨#[83, 80, 43]⟩ ++ b := by apply ByteArray.ext; simp [rT, rtk]
theorem rT_hex (b c : ByteArray) (v : Int) : rT b c (36 :: hexT v) = hexM v := by
  apply ByteArray.ext
  have h : ∀ t ∈ hexT v, t < 256 := by
    intro t ht
    obtain ⟨q, _, rfl⟩ := List.mem_map.1 ht
    exact q.toNat_lt
  simp only [rT, List.flatMap_cons, flat_lit b c _ h, rtk_lit b c 36 (by omega), hexM, ByteArray.data_append]
  simp [hexT, Function.comp_def]
theorem rT_dig (b c : ByteArray) (x : Int) (h : x ≤ 7) : rT b c [48 + x.toNat] = bs [48 + x.toNat] := rT_lit b c _ (fun t ht => by simp at ht; omega)
theorem rT_lCp (b c : ByteArray) : rT b c [40, 67, 41] = ⟨#[40, 67, 41]⟩ := by simp [rT, rtk]
theorem rT_lA (b c : ByteArray) : rT b c [65] = ⟨#[65]⟩ := by simp [rT, rtk]
theorem rT_lHL (b c : ByteArray) : rT b c [72, 76] = ⟨#[72, 76]⟩ := by simp [rT, rtk]
theorem rT_lSP (b c : ByteArray) : rT b c [83, 80] = ⟨#[83, 80]⟩ := by simp [rT, rtk]
def opsT (op : Int) (f : Fm) : List (List Nat) :=
  if f.kind = 1 ∨ f.kind = 24 then [[256]] else
  if f.kind = 5 ∨ f.kind = 6 then [36 :: hexT op] else
  if f.kind = 7 then [regL.getD f.x.toNat [], regL.getD f.y.toNat []] else
  if f.kind = 8 then [regL.getD f.x.toNat [], [256]] else
  if f.kind = 9 then [[65], quadL.getD f.x.toNat []] else
  if f.kind = 10 then [quadL.getD f.x.toNat [], [65]] else
  if f.kind = 11 then [[65], [40, 256, 41]] else
  if f.kind = 12 then [[40, 256, 41], [65]] else
  if f.kind = 13 then [[65], [40, 67, 41]] else
  if f.kind = 14 then [[40, 67, 41], [65]] else
  if f.kind = 15 then [[65], [40, 257, 41]] else
  if f.kind = 16 then [[40, 257, 41], [65]] else
  if f.kind = 17 then [pairL.getD f.x.toNat [], [257]] else
  if f.kind = 18 then [[40, 257, 41], [83, 80]] else
  if f.kind = 19 then [[83, 80], [72, 76]] else
  if f.kind = 20 then [[72, 76], [83, 80, 43, 256]] else
  if f.kind = 21 ∨ f.kind = 22 ∨ f.kind = 27 ∨ f.kind = 28 then [pairL.getD f.x.toNat []] else
  if f.kind = 23 ∨ f.kind = 43 then [regL.getD f.y.toNat []] else
  if f.kind = 25 ∨ f.kind = 26 then [regL.getD f.x.toNat []] else
  if f.kind = 29 then [[72, 76], pairL.getD f.x.toNat []] else
  if f.kind = 30 then [[83, 80], [256]] else
  if f.kind = 36 then (if f.x = 4 then [[256]] else [condL.getD f.x.toNat [], [256]]) else
  if f.kind = 37 ∨ f.kind = 39 then (if f.x = 4 then [[257]] else [condL.getD f.x.toNat [], [257]]) else
  if f.kind = 38 then [[72, 76]] else
  if f.kind = 40 then (if f.x = 4 then [] else [condL.getD f.x.toNat []]) else
  if f.kind = 42 then [36 :: hexT (8 * f.x)] else
  if f.kind = 44 ∨ f.kind = 45 ∨ f.kind = 46 then [[48 + f.x.toNat], regL.getD f.y.toNat []] else
  []
def nameT (f : Fm) : List Nat := if f.kind = 23 ∨ f.kind = 24 then operL.getD f.x.toNat [] else if f.kind = 31 then fastL.getD f.x.toNat [] else if f.kind = 43 then shiftL.getD f.x.toNat [] else nameL.getD f.kind.toNat []
def lineT (n : List Nat) : List (List Nat) → List Nat
  | [] => n
  | [a] => n ++ 32 :: a
  | a :: b :: _ => n ++ 32 :: (a ++ 44 :: b)
theorem lineT_D : ∀ a : Fin 256, lineT (nameT (decOf (a.val : Int))) (opsT (a.val : Int) (decOf (a.val : Int))) = toksOf (a.val : Int) false := by decide +kernel
theorem lineT_C : ∀ a : Fin 256, lineT (nameT (cbOf (a.val : Int))) (opsT (a.val : Int) (cbOf (a.val : Int))) = toksOf (a.val : Int) true := by decide +kernel
def opOk (f : Fm) : Bool := decide (0 ≤ f.kind) && decide (f.kind ≤ 46) && decide (0 ≤ f.x) && decide (0 ≤ f.y) && decide (f.y ≤ 7) && (if f.kind = 17 ∨ f.kind = 21 ∨ f.kind = 22 ∨ f.kind = 27 ∨ f.kind = 28 ∨ f.kind = 29 ∨ f.kind = 36 ∨ f.kind = 37 ∨ f.kind = 39 ∨ f.kind = 40 then decide (f.x ≤ 4) else if f.kind = 9 ∨ f.kind = 10 then decide (f.x ≤ 3) else decide (f.x ≤ 7)) && nameOk f
theorem ok_D : ∀ a : Fin 256, opOk (decOf (a.val : Int)) = true := by decide +kernel
theorem ok_C : ∀ a : Fin 256, opOk (cbOf (a.val : Int)) = true := by decide +kernel
theorem form_ok (op : Int) (cb : Bool) (h0 : 0 ≤ op) (h1 : op ≤ 255) : opOk (fOf op cb) = true ∧ lineT (nameT (fOf op cb)) (opsT op (fOf op cb)) = toksOf op cb := by
  cases cb
  · exact ⟨fin8 (p := fun a => opOk (decOf a) = true) ok_D op h0 h1, fin8 (p := fun a => lineT (nameT (decOf a)) (opsT a (decOf a)) = toksOf a false) lineT_D op h0 h1⟩
  · exact ⟨fin8 (p := fun a => opOk (cbOf a) = true) ok_C op h0 h1, fin8 (p := fun a => lineT (nameT (cbOf a)) (opsT a (cbOf a)) = toksOf a true) lineT_C op h0 h1⟩
theorem rT_name (b c : ByteArray) (f : Fm) : rT b c (nameT f) = nameS f := by
  unfold nameT nameS
  split
  · exact rT_tab b c operL (by decide) _
  · split
    · exact rT_tab b c fastL (by decide) _
    · split
      · exact rT_tab b c shiftL (by decide) _
      · exact rT_tab b c nameL (by decide) _
theorem rT_line (b c : ByteArray) (n : List Nat) (l : List (List Nat)) : rT b c (lineT n l) = lineS (rT b c n) (l.map (rT b c)) := by
  match l with
  | [] => simp [lineT, lineS]
  | [a] => apply ByteArray.ext; simp [lineT, lineS, joinS, rT, rtk]
  | a :: a2 :: _ => apply ByteArray.ext; simp [lineT, lineS, joinS, rT, rtk]
def opsS (op : Int) (f : Fm) (b c : ByteArray) : List ByteArray := (opsT op f).map (rT b c)
set_option maxRecDepth 100000 in
set_option maxHeartbeats 4000000 in
theorem ops_any (op : Int) (f : Fm) (b c : ByteArray) (w : World) (lay : Lay w) (hb : b.size ≤ 1000) (hc : c.size ≤ 1000) (o0 : 0 ≤ op) (o1 : op ≤ 255) (ok : opOk f = true) : Calls Tryz.prog 51 #[.int .u8 op, .agg #[.int .i64 f.kind, .int .i64 f.x, .int .i64 f.y, .int .i64 f.bytes, .int .i64 f.cycles, .int .i64 f.taken], .string b, .string c] w fun e w' => ∃ v, e = .returned v ∧ Strs w' v (opsS op f b c) ∧ Kept w w' := by
  obtain ⟨⟨⟨⟨⟨⟨k0, k1⟩, x0⟩, y0⟩, y1⟩, xx⟩, _⟩ : ((((((0 ≤ f.kind ∧ f.kind ≤ 46) ∧ 0 ≤ f.x) ∧ 0 ≤ f.y) ∧ f.y ≤ 7) ∧ (if f.kind = 17 ∨ f.kind = 21 ∨ f.kind = 22 ∨ f.kind = 27 ∨ f.kind = 28 ∨ f.kind = 29 ∨ f.kind = 36 ∨ f.kind = 37 ∨ f.kind = 39 ∨ f.kind = 40 then f.x ≤ 4 else if f.kind = 9 ∨ f.kind = 10 then f.x ≤ 3 else f.x ≤ 7)) ∧ nameOk f = true) := by
    simp only [opOk, Bool.and_eq_true, decide_eq_true_eq] at ok
    obtain ⟨⟨⟨⟨⟨⟨k0, k1⟩, x0⟩, y0⟩, y1⟩, xx⟩, n⟩ := ok
    refine ⟨⟨⟨⟨⟨⟨k0, k1⟩, x0⟩, y0⟩, y1⟩, ?_⟩, n⟩
    split at xx
    · rename_i h; rw [if_pos h]; simpa using xx
    · rename_i h
      rw [if_neg h]
      split at xx
      · rename_i h2; rw [if_pos h2]; simpa using xx
      · rename_i h2; rw [if_neg h2]; simpa using xx
  clear ok
  by_cases h0 : f.kind = 0
  · have xl : f.x ≤ 7 := by simpa [h0] using xx
    have E : opsS op f b c = [] := by simp [opsS, opsT, h0, rT_b, rT_c, rT_pb, rT_pc, rT_sp, rT_hex, rT_lCp, rT_lA, rT_lHL, rT_lSP]
    rw [E, h0]
    exact ops0 op f.x f.y f.bytes f.cycles f.taken b c w lay hb hc 
  by_cases h1 : f.kind = 1
  · have xl : f.x ≤ 7 := by simpa [h1] using xx
    have E : opsS op f b c = [b] := by simp [opsS, opsT, h1, rT_b, rT_c, rT_pb, rT_pc, rT_sp, rT_hex, rT_lCp, rT_lA, rT_lHL, rT_lSP]
    rw [E, h1]
    exact ops1 op f.x f.y f.bytes f.cycles f.taken b c w lay hb hc 
  by_cases h2 : f.kind = 2
  · have xl : f.x ≤ 7 := by simpa [h2] using xx
    have E : opsS op f b c = [] := by simp [opsS, opsT, h2, rT_b, rT_c, rT_pb, rT_pc, rT_sp, rT_hex, rT_lCp, rT_lA, rT_lHL, rT_lSP]
    rw [E, h2]
    exact ops2 op f.x f.y f.bytes f.cycles f.taken b c w lay hb hc 
  by_cases h3 : f.kind = 3
  · have xl : f.x ≤ 7 := by simpa [h3] using xx
    have E : opsS op f b c = [] := by simp [opsS, opsT, h3, rT_b, rT_c, rT_pb, rT_pc, rT_sp, rT_hex, rT_lCp, rT_lA, rT_lHL, rT_lSP]
    rw [E, h3]
    exact ops3 op f.x f.y f.bytes f.cycles f.taken b c w lay hb hc 
  by_cases h4 : f.kind = 4
  · have xl : f.x ≤ 7 := by simpa [h4] using xx
    have E : opsS op f b c = [] := by simp [opsS, opsT, h4, rT_b, rT_c, rT_pb, rT_pc, rT_sp, rT_hex, rT_lCp, rT_lA, rT_lHL, rT_lSP]
    rw [E, h4]
    exact ops4 op f.x f.y f.bytes f.cycles f.taken b c w lay hb hc 
  by_cases h5 : f.kind = 5
  · have xl : f.x ≤ 7 := by simpa [h5] using xx
    have E : opsS op f b c = [hexM op] := by simp [opsS, opsT, h5, rT_b, rT_c, rT_pb, rT_pc, rT_sp, rT_hex, rT_lCp, rT_lA, rT_lHL, rT_lSP]
    rw [E, h5]
    exact ops5 op f.x f.y f.bytes f.cycles f.taken b c w lay hb hc o0 o1
  by_cases h6 : f.kind = 6
  · have xl : f.x ≤ 7 := by simpa [h6] using xx
    have E : opsS op f b c = [hexM op] := by simp [opsS, opsT, h6, rT_b, rT_c, rT_pb, rT_pc, rT_sp, rT_hex, rT_lCp, rT_lA, rT_lHL, rT_lSP]
    rw [E, h6]
    exact ops6 op f.x f.y f.bytes f.cycles f.taken b c w lay hb hc o0 o1
  by_cases h7 : f.kind = 7
  · have xl : f.x ≤ 7 := by simpa [h7] using xx
    have E : opsS op f b c = [tabS regL f.x, tabS regL f.y] := by simp [opsS, opsT, h7, rT_b, rT_c, rT_pb, rT_pc, rT_sp, rT_hex, rT_lCp, rT_lA, rT_lHL, rT_lSP, rT_tab2 b c regL (by decide), rT_tab2 b c regL (by decide)]
    rw [E, h7]
    exact ops7 op f.x f.y f.bytes f.cycles f.taken b c w lay hb hc x0 (by omega) y0 y1
  by_cases h8 : f.kind = 8
  · have xl : f.x ≤ 7 := by simpa [h8] using xx
    have E : opsS op f b c = [tabS regL f.x, b] := by simp [opsS, opsT, h8, rT_b, rT_c, rT_pb, rT_pc, rT_sp, rT_hex, rT_lCp, rT_lA, rT_lHL, rT_lSP, rT_tab2 b c regL (by decide)]
    rw [E, h8]
    exact ops8 op f.x f.y f.bytes f.cycles f.taken b c w lay hb hc x0 (by omega)
  by_cases h9 : f.kind = 9
  · have xl : f.x ≤ 3 := by simpa [h9] using xx
    have E : opsS op f b c = [⟨#[65]⟩, tabS quadL f.x] := by simp [opsS, opsT, h9, rT_b, rT_c, rT_pb, rT_pc, rT_sp, rT_hex, rT_lCp, rT_lA, rT_lHL, rT_lSP, rT_tab2 b c quadL (by decide)]
    rw [E, h9]
    exact ops9 op f.x f.y f.bytes f.cycles f.taken b c w lay hb hc x0 (by omega)
  by_cases h10 : f.kind = 10
  · have xl : f.x ≤ 3 := by simpa [h10] using xx
    have E : opsS op f b c = [tabS quadL f.x, ⟨#[65]⟩] := by simp [opsS, opsT, h10, rT_b, rT_c, rT_pb, rT_pc, rT_sp, rT_hex, rT_lCp, rT_lA, rT_lHL, rT_lSP, rT_tab2 b c quadL (by decide)]
    rw [E, h10]
    exact ops10 op f.x f.y f.bytes f.cycles f.taken b c w lay hb hc x0 (by omega)
  by_cases h11 : f.kind = 11
  · have xl : f.x ≤ 7 := by simpa [h11] using xx
    have E : opsS op f b c = [⟨#[65]⟩, ⟨#[40]⟩ ++ b ++ ⟨#[41]⟩] := by simp [opsS, opsT, h11, rT_b, rT_c, rT_pb, rT_pc, rT_sp, rT_hex, rT_lCp, rT_lA, rT_lHL, rT_lSP]
    rw [E, h11]
    exact ops11 op f.x f.y f.bytes f.cycles f.taken b c w lay hb hc 
  by_cases h12 : f.kind = 12
  · have xl : f.x ≤ 7 := by simpa [h12] using xx
    have E : opsS op f b c = [⟨#[40]⟩ ++ b ++ ⟨#[41]⟩, ⟨#[65]⟩] := by simp [opsS, opsT, h12, rT_b, rT_c, rT_pb, rT_pc, rT_sp, rT_hex, rT_lCp, rT_lA, rT_lHL, rT_lSP]
    rw [E, h12]
    exact ops12 op f.x f.y f.bytes f.cycles f.taken b c w lay hb hc 
  by_cases h13 : f.kind = 13
  · have xl : f.x ≤ 7 := by simpa [h13] using xx
    have E : opsS op f b c = [⟨#[65]⟩, ⟨#[40, 67, 41]⟩] := by simp [opsS, opsT, h13, rT_b, rT_c, rT_pb, rT_pc, rT_sp, rT_hex, rT_lCp, rT_lA, rT_lHL, rT_lSP]
    rw [E, h13]
    exact ops13 op f.x f.y f.bytes f.cycles f.taken b c w lay hb hc 
  by_cases h14 : f.kind = 14
  · have xl : f.x ≤ 7 := by simpa [h14] using xx
    have E : opsS op f b c = [⟨#[40, 67, 41]⟩, ⟨#[65]⟩] := by simp [opsS, opsT, h14, rT_b, rT_c, rT_pb, rT_pc, rT_sp, rT_hex, rT_lCp, rT_lA, rT_lHL, rT_lSP]
    rw [E, h14]
    exact ops14 op f.x f.y f.bytes f.cycles f.taken b c w lay hb hc 
  by_cases h15 : f.kind = 15
  · have xl : f.x ≤ 7 := by simpa [h15] using xx
    have E : opsS op f b c = [⟨#[65]⟩, ⟨#[40]⟩ ++ c ++ ⟨#[41]⟩] := by simp [opsS, opsT, h15, rT_b, rT_c, rT_pb, rT_pc, rT_sp, rT_hex, rT_lCp, rT_lA, rT_lHL, rT_lSP]
    rw [E, h15]
    exact ops15 op f.x f.y f.bytes f.cycles f.taken b c w lay hb hc 
  by_cases h16 : f.kind = 16
  · have xl : f.x ≤ 7 := by simpa [h16] using xx
    have E : opsS op f b c = [⟨#[40]⟩ ++ c ++ ⟨#[41]⟩, ⟨#[65]⟩] := by simp [opsS, opsT, h16, rT_b, rT_c, rT_pb, rT_pc, rT_sp, rT_hex, rT_lCp, rT_lA, rT_lHL, rT_lSP]
    rw [E, h16]
    exact ops16 op f.x f.y f.bytes f.cycles f.taken b c w lay hb hc 
  by_cases h17 : f.kind = 17
  · have xl : f.x ≤ 4 := by simpa [h17] using xx
    have E : opsS op f b c = [tabS pairL f.x, c] := by simp [opsS, opsT, h17, rT_b, rT_c, rT_pb, rT_pc, rT_sp, rT_hex, rT_lCp, rT_lA, rT_lHL, rT_lSP, rT_tab2 b c pairL (by decide)]
    rw [E, h17]
    exact ops17 op f.x f.y f.bytes f.cycles f.taken b c w lay hb hc x0 (by omega)
  by_cases h18 : f.kind = 18
  · have xl : f.x ≤ 7 := by simpa [h18] using xx
    have E : opsS op f b c = [⟨#[40]⟩ ++ c ++ ⟨#[41]⟩, ⟨#[83, 80]⟩] := by simp [opsS, opsT, h18, rT_b, rT_c, rT_pb, rT_pc, rT_sp, rT_hex, rT_lCp, rT_lA, rT_lHL, rT_lSP]
    rw [E, h18]
    exact ops18 op f.x f.y f.bytes f.cycles f.taken b c w lay hb hc 
  by_cases h19 : f.kind = 19
  · have xl : f.x ≤ 7 := by simpa [h19] using xx
    have E : opsS op f b c = [⟨#[83, 80]⟩, ⟨#[72, 76]⟩] := by simp [opsS, opsT, h19, rT_b, rT_c, rT_pb, rT_pc, rT_sp, rT_hex, rT_lCp, rT_lA, rT_lHL, rT_lSP]
    rw [E, h19]
    exact ops19 op f.x f.y f.bytes f.cycles f.taken b c w lay hb hc 
  by_cases h20 : f.kind = 20
  · have xl : f.x ≤ 7 := by simpa [h20] using xx
    have E : opsS op f b c = [⟨#[72, 76]⟩, ⟨#[83, 80, 43]⟩ ++ b] := by simp [opsS, opsT, h20, rT_b, rT_c, rT_pb, rT_pc, rT_sp, rT_hex, rT_lCp, rT_lA, rT_lHL, rT_lSP]
    rw [E, h20]
    exact ops20 op f.x f.y f.bytes f.cycles f.taken b c w lay hb hc 
  by_cases h21 : f.kind = 21
  · have xl : f.x ≤ 4 := by simpa [h21] using xx
    have E : opsS op f b c = [tabS pairL f.x] := by simp [opsS, opsT, h21, rT_b, rT_c, rT_pb, rT_pc, rT_sp, rT_hex, rT_lCp, rT_lA, rT_lHL, rT_lSP, rT_tab2 b c pairL (by decide)]
    rw [E, h21]
    exact ops21 op f.x f.y f.bytes f.cycles f.taken b c w lay hb hc x0 (by omega)
  by_cases h22 : f.kind = 22
  · have xl : f.x ≤ 4 := by simpa [h22] using xx
    have E : opsS op f b c = [tabS pairL f.x] := by simp [opsS, opsT, h22, rT_b, rT_c, rT_pb, rT_pc, rT_sp, rT_hex, rT_lCp, rT_lA, rT_lHL, rT_lSP, rT_tab2 b c pairL (by decide)]
    rw [E, h22]
    exact ops22 op f.x f.y f.bytes f.cycles f.taken b c w lay hb hc x0 (by omega)
  by_cases h23 : f.kind = 23
  · have xl : f.x ≤ 7 := by simpa [h23] using xx
    have E : opsS op f b c = [tabS regL f.y] := by simp [opsS, opsT, h23, rT_b, rT_c, rT_pb, rT_pc, rT_sp, rT_hex, rT_lCp, rT_lA, rT_lHL, rT_lSP, rT_tab2 b c regL (by decide)]
    rw [E, h23]
    exact ops23 op f.x f.y f.bytes f.cycles f.taken b c w lay hb hc y0 y1
  by_cases h24 : f.kind = 24
  · have xl : f.x ≤ 7 := by simpa [h24] using xx
    have E : opsS op f b c = [b] := by simp [opsS, opsT, h24, rT_b, rT_c, rT_pb, rT_pc, rT_sp, rT_hex, rT_lCp, rT_lA, rT_lHL, rT_lSP]
    rw [E, h24]
    exact ops24 op f.x f.y f.bytes f.cycles f.taken b c w lay hb hc 
  by_cases h25 : f.kind = 25
  · have xl : f.x ≤ 7 := by simpa [h25] using xx
    have E : opsS op f b c = [tabS regL f.x] := by simp [opsS, opsT, h25, rT_b, rT_c, rT_pb, rT_pc, rT_sp, rT_hex, rT_lCp, rT_lA, rT_lHL, rT_lSP, rT_tab2 b c regL (by decide)]
    rw [E, h25]
    exact ops25 op f.x f.y f.bytes f.cycles f.taken b c w lay hb hc x0 (by omega)
  by_cases h26 : f.kind = 26
  · have xl : f.x ≤ 7 := by simpa [h26] using xx
    have E : opsS op f b c = [tabS regL f.x] := by simp [opsS, opsT, h26, rT_b, rT_c, rT_pb, rT_pc, rT_sp, rT_hex, rT_lCp, rT_lA, rT_lHL, rT_lSP, rT_tab2 b c regL (by decide)]
    rw [E, h26]
    exact ops26 op f.x f.y f.bytes f.cycles f.taken b c w lay hb hc x0 (by omega)
  by_cases h27 : f.kind = 27
  · have xl : f.x ≤ 4 := by simpa [h27] using xx
    have E : opsS op f b c = [tabS pairL f.x] := by simp [opsS, opsT, h27, rT_b, rT_c, rT_pb, rT_pc, rT_sp, rT_hex, rT_lCp, rT_lA, rT_lHL, rT_lSP, rT_tab2 b c pairL (by decide)]
    rw [E, h27]
    exact ops27 op f.x f.y f.bytes f.cycles f.taken b c w lay hb hc x0 (by omega)
  by_cases h28 : f.kind = 28
  · have xl : f.x ≤ 4 := by simpa [h28] using xx
    have E : opsS op f b c = [tabS pairL f.x] := by simp [opsS, opsT, h28, rT_b, rT_c, rT_pb, rT_pc, rT_sp, rT_hex, rT_lCp, rT_lA, rT_lHL, rT_lSP, rT_tab2 b c pairL (by decide)]
    rw [E, h28]
    exact ops28 op f.x f.y f.bytes f.cycles f.taken b c w lay hb hc x0 (by omega)
  by_cases h29 : f.kind = 29
  · have xl : f.x ≤ 4 := by simpa [h29] using xx
    have E : opsS op f b c = [⟨#[72, 76]⟩, tabS pairL f.x] := by simp [opsS, opsT, h29, rT_b, rT_c, rT_pb, rT_pc, rT_sp, rT_hex, rT_lCp, rT_lA, rT_lHL, rT_lSP, rT_tab2 b c pairL (by decide)]
    rw [E, h29]
    exact ops29 op f.x f.y f.bytes f.cycles f.taken b c w lay hb hc x0 (by omega)
  by_cases h30 : f.kind = 30
  · have xl : f.x ≤ 7 := by simpa [h30] using xx
    have E : opsS op f b c = [⟨#[83, 80]⟩, b] := by simp [opsS, opsT, h30, rT_b, rT_c, rT_pb, rT_pc, rT_sp, rT_hex, rT_lCp, rT_lA, rT_lHL, rT_lSP]
    rw [E, h30]
    exact ops30 op f.x f.y f.bytes f.cycles f.taken b c w lay hb hc 
  by_cases h31 : f.kind = 31
  · have xl : f.x ≤ 7 := by simpa [h31] using xx
    have E : opsS op f b c = [] := by simp [opsS, opsT, h31, rT_b, rT_c, rT_pb, rT_pc, rT_sp, rT_hex, rT_lCp, rT_lA, rT_lHL, rT_lSP]
    rw [E, h31]
    exact ops31 op f.x f.y f.bytes f.cycles f.taken b c w lay hb hc 
  by_cases h32 : f.kind = 32
  · have xl : f.x ≤ 7 := by simpa [h32] using xx
    have E : opsS op f b c = [] := by simp [opsS, opsT, h32, rT_b, rT_c, rT_pb, rT_pc, rT_sp, rT_hex, rT_lCp, rT_lA, rT_lHL, rT_lSP]
    rw [E, h32]
    exact ops32 op f.x f.y f.bytes f.cycles f.taken b c w lay hb hc 
  by_cases h33 : f.kind = 33
  · have xl : f.x ≤ 7 := by simpa [h33] using xx
    have E : opsS op f b c = [] := by simp [opsS, opsT, h33, rT_b, rT_c, rT_pb, rT_pc, rT_sp, rT_hex, rT_lCp, rT_lA, rT_lHL, rT_lSP]
    rw [E, h33]
    exact ops33 op f.x f.y f.bytes f.cycles f.taken b c w lay hb hc 
  by_cases h34 : f.kind = 34
  · have xl : f.x ≤ 7 := by simpa [h34] using xx
    have E : opsS op f b c = [] := by simp [opsS, opsT, h34, rT_b, rT_c, rT_pb, rT_pc, rT_sp, rT_hex, rT_lCp, rT_lA, rT_lHL, rT_lSP]
    rw [E, h34]
    exact ops34 op f.x f.y f.bytes f.cycles f.taken b c w lay hb hc 
  by_cases h35 : f.kind = 35
  · have xl : f.x ≤ 7 := by simpa [h35] using xx
    have E : opsS op f b c = [] := by simp [opsS, opsT, h35, rT_b, rT_c, rT_pb, rT_pc, rT_sp, rT_hex, rT_lCp, rT_lA, rT_lHL, rT_lSP]
    rw [E, h35]
    exact ops35 op f.x f.y f.bytes f.cycles f.taken b c w lay hb hc 
  by_cases h36 : f.kind = 36
  · have xl : f.x ≤ 4 := by simpa [h36] using xx
    by_cases x4 : f.x = 4
    · have E : opsS op f b c = [b] := by simp [opsS, opsT, h36, rT_b, rT_c, rT_pb, rT_pc, rT_sp, rT_hex, rT_lCp, rT_lA, rT_lHL, rT_lSP, x4]
      rw [E, h36]
      exact ops36a op f.x f.y f.bytes f.cycles f.taken b c w lay hb hc x4
    · have E : opsS op f b c = [tabS condL f.x, b] := by simp [opsS, opsT, h36, rT_b, rT_c, rT_pb, rT_pc, rT_sp, rT_hex, rT_lCp, rT_lA, rT_lHL, rT_lSP, x4, rT_tab2 b c condL (by decide)]
      rw [E, h36]
      exact ops36b op f.x f.y f.bytes f.cycles f.taken b c w lay hb hc x0 (by omega)
  by_cases h37 : f.kind = 37
  · have xl : f.x ≤ 4 := by simpa [h37] using xx
    by_cases x4 : f.x = 4
    · have E : opsS op f b c = [c] := by simp [opsS, opsT, h37, rT_b, rT_c, rT_pb, rT_pc, rT_sp, rT_hex, rT_lCp, rT_lA, rT_lHL, rT_lSP, x4]
      rw [E, h37]
      exact ops37a op f.x f.y f.bytes f.cycles f.taken b c w lay hb hc x4
    · have E : opsS op f b c = [tabS condL f.x, c] := by simp [opsS, opsT, h37, rT_b, rT_c, rT_pb, rT_pc, rT_sp, rT_hex, rT_lCp, rT_lA, rT_lHL, rT_lSP, x4, rT_tab2 b c condL (by decide)]
      rw [E, h37]
      exact ops37b op f.x f.y f.bytes f.cycles f.taken b c w lay hb hc x0 (by omega)
  by_cases h38 : f.kind = 38
  · have xl : f.x ≤ 7 := by simpa [h38] using xx
    have E : opsS op f b c = [⟨#[72, 76]⟩] := by simp [opsS, opsT, h38, rT_b, rT_c, rT_pb, rT_pc, rT_sp, rT_hex, rT_lCp, rT_lA, rT_lHL, rT_lSP]
    rw [E, h38]
    exact ops38 op f.x f.y f.bytes f.cycles f.taken b c w lay hb hc 
  by_cases h39 : f.kind = 39
  · have xl : f.x ≤ 4 := by simpa [h39] using xx
    by_cases x4 : f.x = 4
    · have E : opsS op f b c = [c] := by simp [opsS, opsT, h39, rT_b, rT_c, rT_pb, rT_pc, rT_sp, rT_hex, rT_lCp, rT_lA, rT_lHL, rT_lSP, x4]
      rw [E, h39]
      exact ops39a op f.x f.y f.bytes f.cycles f.taken b c w lay hb hc x4
    · have E : opsS op f b c = [tabS condL f.x, c] := by simp [opsS, opsT, h39, rT_b, rT_c, rT_pb, rT_pc, rT_sp, rT_hex, rT_lCp, rT_lA, rT_lHL, rT_lSP, x4, rT_tab2 b c condL (by decide)]
      rw [E, h39]
      exact ops39b op f.x f.y f.bytes f.cycles f.taken b c w lay hb hc x0 (by omega)
  by_cases h40 : f.kind = 40
  · have xl : f.x ≤ 4 := by simpa [h40] using xx
    by_cases x4 : f.x = 4
    · have E : opsS op f b c = [] := by simp [opsS, opsT, h40, rT_b, rT_c, rT_pb, rT_pc, rT_sp, rT_hex, rT_lCp, rT_lA, rT_lHL, rT_lSP, x4]
      rw [E, h40]
      exact ops40a op f.x f.y f.bytes f.cycles f.taken b c w lay hb hc x4
    · have E : opsS op f b c = [tabS condL f.x] := by simp [opsS, opsT, h40, rT_b, rT_c, rT_pb, rT_pc, rT_sp, rT_hex, rT_lCp, rT_lA, rT_lHL, rT_lSP, x4, rT_tab2 b c condL (by decide)]
      rw [E, h40]
      exact ops40b op f.x f.y f.bytes f.cycles f.taken b c w lay hb hc x0 (by omega)
  by_cases h41 : f.kind = 41
  · have xl : f.x ≤ 7 := by simpa [h41] using xx
    have E : opsS op f b c = [] := by simp [opsS, opsT, h41, rT_b, rT_c, rT_pb, rT_pc, rT_sp, rT_hex, rT_lCp, rT_lA, rT_lHL, rT_lSP]
    rw [E, h41]
    exact ops41 op f.x f.y f.bytes f.cycles f.taken b c w lay hb hc 
  by_cases h42 : f.kind = 42
  · have xl : f.x ≤ 7 := by simpa [h42] using xx
    have E : opsS op f b c = [hexM (8 * f.x)] := by simp [opsS, opsT, h42, rT_b, rT_c, rT_pb, rT_pc, rT_sp, rT_hex, rT_lCp, rT_lA, rT_lHL, rT_lSP]
    rw [E, h42]
    exact ops42 op f.x f.y f.bytes f.cycles f.taken b c w lay hb hc x0 (by omega)
  by_cases h43 : f.kind = 43
  · have xl : f.x ≤ 7 := by simpa [h43] using xx
    have E : opsS op f b c = [tabS regL f.y] := by simp [opsS, opsT, h43, rT_b, rT_c, rT_pb, rT_pc, rT_sp, rT_hex, rT_lCp, rT_lA, rT_lHL, rT_lSP, rT_tab2 b c regL (by decide)]
    rw [E, h43]
    exact ops43 op f.x f.y f.bytes f.cycles f.taken b c w lay hb hc y0 y1
  by_cases h44 : f.kind = 44
  · have xl : f.x ≤ 7 := by simpa [h44] using xx
    have E : opsS op f b c = [bs [48 + f.x.toNat], tabS regL f.y] := by simp [opsS, opsT, h44, rT_b, rT_c, rT_pb, rT_pc, rT_sp, rT_hex, rT_lCp, rT_lA, rT_lHL, rT_lSP, rT_tab2 b c regL (by decide), rT_dig b c f.x (by omega)]
    rw [E, h44]
    exact ops44 op f.x f.y f.bytes f.cycles f.taken b c w lay hb hc x0 (by omega) y0 y1
  by_cases h45 : f.kind = 45
  · have xl : f.x ≤ 7 := by simpa [h45] using xx
    have E : opsS op f b c = [bs [48 + f.x.toNat], tabS regL f.y] := by simp [opsS, opsT, h45, rT_b, rT_c, rT_pb, rT_pc, rT_sp, rT_hex, rT_lCp, rT_lA, rT_lHL, rT_lSP, rT_tab2 b c regL (by decide), rT_dig b c f.x (by omega)]
    rw [E, h45]
    exact ops45 op f.x f.y f.bytes f.cycles f.taken b c w lay hb hc x0 (by omega) y0 y1
  by_cases h46 : f.kind = 46
  · have xl : f.x ≤ 7 := by simpa [h46] using xx
    have E : opsS op f b c = [bs [48 + f.x.toNat], tabS regL f.y] := by simp [opsS, opsT, h46, rT_b, rT_c, rT_pb, rT_pc, rT_sp, rT_hex, rT_lCp, rT_lA, rT_lHL, rT_lSP, rT_tab2 b c regL (by decide), rT_dig b c f.x (by omega)]
    rw [E, h46]
    exact ops46 op f.x f.y f.bytes f.cycles f.taken b c w lay hb hc x0 (by omega) y0 y1
  omega
end Go.Proofs.YtlchkflpaehgcaaGreatDoor
namespace Go.Proofs.YtlchkflpaehgcaaGreatDoor
open Go.RowKit
set_option linter.unusedVariables false
set_option linter.unusedSimpArgs false

theorem Lay.drew {w : World} (h : Lay w) : Lay w.drew := ⟨h.pre, h.reg, h.pair, h.ptr, h.cond, h.oper, h.shift, h.fast, h.name⟩
theorem ldecode_any (op : Int) (cb : Bool) (w : World) (lay : Lay w) (h0 : 0 ≤ op) (h1 : op ≤ 255) : Calls Tryz.prog 49 #[.int .u8 op, .bool cb] w fun e w' => e = .returned (.agg #[.int .i64 (fOf op cb).kind, .int .i64 (fOf op cb).x, .int .i64 (fOf op cb).y, .int .i64 (fOf op cb).bytes, .int .i64 (fOf op cb).cycles, .int .i64 (fOf op cb).taken]) ∧ Kept w w' := by
  cases cb
  · have zl := lay.pre
    clear lay
    go_enter Tryz.func49, Tryz.ntmps49
    go_wp2_with fail
    refine (decode_any _ _ h0 h1).mono ?_
    rintro e uz ⟨rfl, gz⟩
    have GG := hid (grown_trans (alloc1 w _ _) gz)
    obtain ⟨zA, cA⟩ := has_grown gz (has_alloc w _ _)
    have fA := fun o => grown_froz GG.out (Nat.le_refl w.heap.size) o
    have a0 := cA 0
    have a1 := cA 1
    have a2 := cA 2
    have a3 := cA 3
    have a4 := cA 4
    have a5 := cA 5
    simp at a0 a1 a2 a3 a4 a5
    clear cA
    go_wp2
    exact bodyPost_ret (v := .agg #[.int .i64 (decOf op).kind, .int .i64 (decOf op).x, .int .i64 (decOf op).y, .int .i64 (decOf op).bytes, .int .i64 (decOf op).cycles, .int .i64 (decOf op).taken]) (by simp [results, Tryz.results49, go_sem, a0, a1, a2, a3, a4, a5, zA]) rfl ⟨rfl, Kept.of ((((((GG.out.setCell (Nat.le_refl _) _).setCell (Nat.le_refl _) _).setCell (Nat.le_refl _) _).setCell (Nat.le_refl _) _).setCell (Nat.le_refl _) _).setCell (Nat.le_refl _) _)⟩
  · have zl := hid (fun o => has_past lay.pre o)
    clear lay
    go_enter Tryz.func49, Tryz.ntmps49
    go_wp2_with fail
    refine (decodeCB_any _ _ h0 h1 (zl.out _)).mono ?_
    rintro e uz ⟨rfl, gz⟩
    have GG := hid (grown_trans (alloc1 w _ _) gz)
    obtain ⟨zA, cA⟩ := has_grown gz (has_alloc w _ _)
    have fA := fun o => grown_froz GG.out (Nat.le_refl w.heap.size) o
    have a0 := cA 0
    have a1 := cA 1
    have a2 := cA 2
    have a3 := cA 3
    have a4 := cA 4
    have a5 := cA 5
    simp at a0 a1 a2 a3 a4 a5
    clear cA
    go_wp2
    exact bodyPost_ret (v := .agg #[.int .i64 (cbOf op).kind, .int .i64 (cbOf op).x, .int .i64 (cbOf op).y, .int .i64 (cbOf op).bytes, .int .i64 (cbOf op).cycles, .int .i64 (cbOf op).taken]) (by simp [results, Tryz.results49, go_sem, a0, a1, a2, a3, a4, a5, zA]) rfl ⟨rfl, Kept.of ((((((GG.out.setCell (Nat.le_refl _) _).setCell (Nat.le_refl _) _).setCell (Nat.le_refl _) _).setCell (Nat.le_refl _) _).setCell (Nat.le_refl _) _).setCell (Nat.le_refl _) _)⟩
def lenOk (op : Int) (f : Fm) : Bool := decide ((opsT op f).length ≤ 2) && (opsT op f).all (fun l => decide (l.length ≤ 12)) && decide ((nameT f).length ≤ 12)
theorem len_D : ∀ a : Fin 256, lenOk (a.val : Int) (decOf (a.val : Int)) = true := by decide +kernel
theorem len_C : ∀ a : Fin 256, lenOk (a.val : Int) (cbOf (a.val : Int)) = true := by decide +kernel
theorem rT_size (b c : ByteArray) (hb : b.size ≤ 1000) (hc : c.size ≤ 1000) (l : List Nat) : (rT b c l).size ≤ 1000 * l.length := by
  have h : (l.flatMap (rtk b c)).length ≤ 1000 * l.length := by
    induction l with
    | nil => simp
    | cons a l ih =>
      have q : (rtk b c a).length ≤ 1000 := by
        unfold rtk
        split
        · rw [Array.length_toList]; exact hb
        · split
          · rw [Array.length_toList]; exact hc
          · simp
      rw [List.flatMap_cons, List.length_append, List.length_cons]
      omega
  simpa [rT, ByteArray.size] using h
theorem len_ok (op : Int) (cb : Bool) (b c : ByteArray) (h0 : 0 ≤ op) (h1 : op ≤ 255) (hb : b.size ≤ 1000) (hc : c.size ≤ 1000) : (opsS op (fOf op cb) b c).length ≤ 2 ∧ (∀ s ∈ opsS op (fOf op cb) b c, s.size ≤ 1000000) ∧ (nameS (fOf op cb)).size ≤ 1000000 := by
  have q : lenOk op (fOf op cb) = true := by
    cases cb
    · exact fin8 (p := fun a => lenOk a (decOf a) = true) len_D op h0 h1
    · exact fin8 (p := fun a => lenOk a (cbOf a) = true) len_C op h0 h1
  simp only [lenOk, Bool.and_eq_true, decide_eq_true_eq] at q
  obtain ⟨⟨q1, q2⟩, q3⟩ := q
  refine ⟨by simpa [opsS] using q1, fun s hs => ?_, ?_⟩
  · obtain ⟨l, hl, rfl⟩ := List.mem_map.1 hs
    have h2 := List.all_eq_true.1 q2 l hl
    simp only [decide_eq_true_eq] at h2
    have := rT_size b c hb hc l
    omega
  · rw [← rT_name b c]
    have := rT_size b c hb hc (nameT (fOf op cb))
    omega
set_option maxRecDepth 100000 in
set_option maxHeartbeats 4000000 in
theorem lwrite_any (op : Int) (cb : Bool) (b c : ByteArray) (w : World) (lay : Lay w) (o0 : 0 ≤ op) (o1 : op ≤ 255) (hb : b.size ≤ 1000) (hc : c.size ≤ 1000) : Calls Tryz.prog 29 #[.int .u8 op, .bool cb, .string b, .string c] w fun e w' => e = .returned (.string (rT b c (toksOf op cb))) ∧ Kept w w' := by
  obtain ⟨ok, tx⟩ := form_ok op cb o0 o1
  obtain ⟨l1, l2, l3⟩ := len_ok op cb b c o0 o1 hb hc
  have E : rT b c (toksOf op cb) = lineS (nameS (fOf op cb)) (opsS op (fOf op cb) b c) := by rw [← tx, rT_line, rT_name]; rfl
  have C1 := ldecode_any op cb w lay o0 o1
  rw [E]
  clear E tx
  generalize fOf op cb = f at *
  have nk : nameOk f = true := by simp only [opOk, Bool.and_eq_true] at ok; exact ok.2
  have C2 := hid (fun u (h : Lay u) => nameOf_any f u h nk)
  have C3 := hid (fun u (h : Lay u) => ops_any op f b c u h hb hc o0 o1 ok)
  have C4 := hid (fun (v : Value) (u : World) (h : Strs u v (opsS op f b c)) => lline_any (nameS f) v (opsS op f b c) u h l1 l2 l3)
  clear ok nk l1 l2 l3
  generalize opsS op f b c = OS at *
  generalize nameS f = NS at *
  generalize lineS NS OS = R at *
  have L0 := hid lay
  have CC1 := hid C1
  clear lay C1
  go_enter Tryz.func29, Tryz.ntmps29
  go_wp2_with fail
  refine CC1.out.mono ?_
  rintro e u1 ⟨rfl, g1⟩
  have K1 := hid (g1.alloc (.cells #[.int .i64 f.kind, .int .i64 f.x, .int .i64 f.y, .int .i64 f.bytes, .int .i64 f.cycles, .int .i64 f.taken] 46))
  have L1 := hid ((L0.out.kept K1.out).drew)
  have H1 := hid (has_alloc u1 #[.int .i64 f.kind, .int .i64 f.x, .int .i64 f.y, .int .i64 f.bytes, .int .i64 f.cycles, .int .i64 f.taken] 46)
  clear g1 CC1 L0
  go_wp2
  go_region_held3 (fun w' => u1.heap.size < w'.heap.size ∧ w'.cell? ⟨u1.heap.size, 0, none⟩ = some (.int .i64 f.kind) ∧ w'.cell? ⟨u1.heap.size, 1, none⟩ = some (.int .i64 f.x) ∧ w'.cell? ⟨u1.heap.size, 2, none⟩ = some (.int .i64 f.y) ∧ w'.cell? ⟨u1.heap.size, 3, none⟩ = some (.int .i64 f.bytes) ∧ w'.cell? ⟨u1.heap.size, 4, none⟩ = some (.int .i64 f.cycles) ∧ w'.cell? ⟨u1.heap.size, 5, none⟩ = some (.int .i64 f.taken)) (go_keep) (first | (go_at_call 50; refine (C2.out _ L1.out).mono ?_; rintro e v1 ⟨rfl, q1⟩; have D1 := has_kept6 q1 H1.out; obtain ⟨zD1, cD1⟩ := id D1; have KD1 := hid (K1.out.drew.trans q1); have LD1 := hid (L1.out.kept q1)) | (go_at_call 51; refine (C3.out _ LD1.out).mono ?_; rintro e v2 ⟨sv, rfl, st, q2⟩; have D2 := has_kept6 q2 D1; obtain ⟨zD2, cD2⟩ := id D2; have KD2 := hid (KD1.out.trans q2)) | (go_at_call 24; refine (C4.out _ _ st).mono ?_; rintro e v3 ⟨rfl, q3⟩; have D3 := has_kept6 q3 D2; obtain ⟨zD3, cD3⟩ := id D3; have KD3 := hid (KD2.out.trans q3)))
  all_goals
    go_wp2
    go_ret
    exact ⟨rfl, KD3.out⟩
def wordM (a : Int) : ByteArray := ⟨#[36]⟩ ++ hex16Of a
theorem rT_text (op : Int) (cb : Bool) (lo hi : Int) : rT (hexM lo) (wordM (hi * 256 + lo)) (toksOf op cb) = lineOf op cb lo hi := by
  unfold rT lineOf rB render
  have h : rtk (hexM lo) (wordM (hi * 256 + lo)) = rtok lo hi := by
    funext t
    unfold rtk rtok
    split
    · simp [hexM, ByteArray.data_append]
    · split
      · simp [wordM, ByteArray.data_append]
      · rfl
  rw [h]
theorem ltext_any (op : Int) (cb : Bool) (lo hi : Int) (w : World) (o0 : 0 ≤ op) (o1 : op ≤ 255) (p0 : 0 ≤ lo) (p1 : lo ≤ 255) (q0 : 0 ≤ hi) (q1 : hi ≤ 255) (lay : Lay w) : Calls Tryz.prog 22 #[.int .u8 op, .bool cb, .int .u8 lo, .int .u8 hi] w fun e w' => e = .returned (.string (lineOf op cb lo hi)) ∧ Kept w w' := by
  have hs : (hexM lo).size = 3 := by simp [hexM, hex8Of, ByteArray.size_append]; rfl
  have ws : (wordM (hi * 256 + lo)).size = 5 := by simp [wordM, hex16Of, hex8Of, ByteArray.size_append]; rfl
  have C := fun u h => lwrite_any op cb (hexM lo) (wordM (hi * 256 + lo)) u h o0 o1 (by omega) (by omega)
  rw [rT_text] at C
  have C4 := hid (show ∀ u, Lay u → Calls Tryz.prog 29 #[.int .u8 op, .bool cb, .string (hexM lo), .string (⟨#[36]⟩ ++ hex16Of (hi * 256 + lo))] u (fun e w' => e = .returned (.string (lineOf op cb lo hi)) ∧ Kept u w') from C)
  have L0 := hid lay
  have nb : ¬ 9223372036854775807 < 1 + (hex16Of (hi * 256 + lo)).size := by
    have : (wordM (hi * 256 + lo)).size = 1 + (hex16Of (hi * 256 + lo)).size := by simp only [wordM, ByteArray.size_append]; rfl
    omega
  clear C lay hs ws
  generalize lineOf op cb lo hi = R at *
  generalize hX : hex16Of (hi * 256 + lo) = X at *
  have HX := hid hX
  clear hX
  go_enter Tryz.func22, Tryz.ntmps22
  go_wp2_with fail
  refine (lhex8_any lo _ p0 p1).mono ?_
  rintro e u1 ⟨rfl, g1⟩
  have K1 := hid g1
  clear g1
  go_wp2_with fail
  refine (join_any hi lo _ q0 q1 p0 p1).mono ?_
  rintro e u2 ⟨rfl, rfl⟩
  go_wp2_with fail
  refine (hex16_any (hi * 256 + lo) _ (by omega) (by omega)).mono ?_
  rintro e u3 ⟨rfl, g3⟩
  have K3 := hid (K1.out.trans (Kept.of g3))
  clear g3
  rw [HX.out]
  go_wp2_with fail
  refine (C4.out _ (L0.out.kept K3.out)).mono ?_
  rintro e u4 ⟨rfl, g4⟩
  have K4 := hid (K3.out.trans g4)
  go_wp2
  go_ret
  exact ⟨rfl, K4.out⟩
end Go.Proofs.YtlchkflpaehgcaaGreatDoor
