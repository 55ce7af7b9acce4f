/- What the calls of layer 6 into the library come to: strings.Join of one or two texts, the place of a sign, the digits that lead a text, a digit as a text. What the smaller calls of layer 6 come to, over this seat's translation. What operandsOf of layer 6 comes to, kind by kind. -/
import Derived.Test.YtlchkflpaehgcaaGreatDoorLib
import Derived.Test.YtlchkflpaehgcaaGreatDoorCc
import Derived.Test.YtlchkflpaehgcaaGreatDoorCf
import Derived.Test.YtlchkflpaehgcaaGreatDoorCk
import Derived.Deep.RegionHeld3
import Derived.Test.YtlchkflpaehgcaaGreatDoorCb
namespace Go.Proofs.YtlchkflpaehgcaaGreatDoor
open Go.RowKit Go.Shelf Go.Lib
set_option linter.unusedVariables false
set_option linter.unusedSimpArgs false

theorem Kept.below {W w : World} (h : Below W.heap.size W w) : Kept W w := ⟨h.os, h.output, h.size, h.block⟩
def Strs (w : World) (v : Value) (ss : List ByteArray) : Prop :=
  (v = .slice none 0 0 ∧ ss = []) ∨ ∃ g cap, v = .slice (some ⟨g, 0, none⟩) ss.length cap ∧ ss.length ≤ cap ∧ g < w.heap.size ∧ ∀ (j : Nat) x, ss[j]? = some x → w.cell? ⟨g, j, none⟩ = some (.string x)
theorem Strs.kept {W w : World} {v : Value} {ss : List ByteArray} (h : Strs W v ss) (g : Kept W w) : Strs w v ss := by
  rcases h with h | ⟨k, cap, e, hc, hk, hx⟩
  · exact .inl h
  · exact .inr ⟨k, cap, e, hc, Nat.lt_of_lt_of_le hk g.size, fun j x hj => (g.cell (x := ⟨k, j, none⟩) hk).trans (hx j x hj)⟩
theorem strs_one (w : World) (a : ByteArray) (t : TypeId) : Strs (w.alloc (.cells #[.string a] t)) (.slice (some ⟨w.heap.size, 0, none⟩) 1 1) [a] :=
  .inr ⟨_, 1, rfl, Nat.le_refl _, by simp, fun j x hj => by
    rw [(has_alloc w #[.string a] t).2 j]
    match j, hj with
    | 0, hj => simp at hj; subst hj; rfl⟩
theorem strs_two (w : World) (a b : ByteArray) (t : TypeId) : Strs (w.alloc (.cells #[.string a, .string b] t)) (.slice (some ⟨w.heap.size, 0, none⟩) 2 2) [a, b] :=
  .inr ⟨_, 2, rfl, Nat.le_refl _, by simp, fun j x hj => by
    rw [(has_alloc w #[.string a, .string b] t).2 j]
    match j, hj with
    | 0, hj => simp at hj; subst hj; rfl
    | 1, hj => simp at hj; subst hj; rfl⟩
def joinS : List ByteArray → ByteArray
  | [] => ⟨#[]⟩
  | [a] => a
  | a :: b :: _ => a ++ ⟨#[44]⟩ ++ b
theorem sjoin_any (v : Value) (ss : List ByteArray) (w : World) (h : Strs w v ss) (hne : ss ≠ []) (hn : ss.length ≤ 2) (hl : ∀ s ∈ ss, s.size ≤ 1000000) : Calls Tryz.prog 44 #[v, .string ⟨#[44]⟩] w fun e w' => e = .returned (.string (joinS ss)) ∧ Kept w w' := by
  rcases h with ⟨_, h⟩ | ⟨k, cap, rfl, hc, hk, hx⟩
  · exact absurd h hne
  · have J : (⟨(Lib.join (ss.map (·.data.toList)) [44]).toArray⟩ : ByteArray) = joinS ss ∧ (Lib.join (ss.map (·.data.toList)) [44]).length ≤ 140737488355328 := by
      match ss, hne, hn, hl with
      | [a], _, _, hl =>
        have ha : a.data.size ≤ 1000000 := hl a (by simp)
        refine ⟨?_, ?_⟩
        · simp [Lib.join_one, joinS]
        · rw [List.map_cons, List.map_nil, Lib.join_one, Array.length_toList]; omega
      | [a, b], _, _, hl =>
        have ha : a.data.size ≤ 1000000 := hl a (by simp)
        have hb : b.data.size ≤ 1000000 := hl b (by simp)
        have e : Lib.join [a.data.toList, b.data.toList] [44] = a.data.toList ++ [44] ++ b.data.toList := by simp [Lib.join, List.intercalate]
        refine ⟨?_, ?_⟩
        · simp only [List.map_cons, List.map_nil, e, joinS]
          apply ByteArray.ext
          simp
        · simp only [List.map_cons, List.map_nil, e, List.length_append, Array.length_toList, List.length_cons, List.length_nil]; omega
    have q := Any.strings_Join Tryz.lays156 Tryz.Builder_Extra_156 k 0 cap ss ⟨#[44]⟩ w (fun j x hj => by rw [Nat.zero_add]; exact hx j x hj) hk (by omega) hc J.2
    rw [show (⟨#[44]⟩ : ByteArray).data.toList = [44] from rfl, J.1] at q
    exact q.mono fun e w' ⟨h1, h2⟩ => ⟨h1, Kept.below h2⟩
theorem index_any (s : ByteArray) (w : World) : Calls Tryz.prog 83 #[.string s, .string ⟨#[36]⟩] w fun e w' => e = .returned (.int .i64 (Lib.indexByte s.data.toList 36)) ∧ w' = w := Any.stringslite_Index_one Tryz.lays219 s 36 w
def hexS : List UInt8 := [48, 49, 50, 51, 52, 53, 54, 55, 56, 57, 65, 66, 67, 68, 69, 70]
def trimH (s : ByteArray) : ByteArray := ⟨(s.data.toList.dropWhile (hexS.contains ·)).toArray⟩
theorem trim_any (s : ByteArray) (w : World) : Calls Tryz.prog 47 #[.string s, .string ⟨#[48, 49, 50, 51, 52, 53, 54, 55, 56, 57, 65, 66, 67, 68, 69, 70]⟩] w fun e w' => e = .returned (.string (trimH s)) ∧ Kept w w' :=
  (Any.strings_TrimLeft_laid Tryz.lays161 (by kernel_rfl) s ⟨#[48, 49, 50, 51, 52, 53, 54, 55, 56, 57, 65, 66, 67, 68, 69, 70]⟩ w (by decide) (ascii_of_all (by decide))).mono fun e w' ⟨h1, h2⟩ => ⟨h1, Kept.below h2⟩
theorem dig_fin : ∀ i : Fin 8, Lib.decDigits i.val = [UInt8.ofNat (48 + i.val)] := by
  intro i
  rw [Lib.decDigits, dif_pos (by omega)]
theorem itoa_any (x : Int) (w : World) (h0 : 0 ≤ x) (h1 : x ≤ 7) : Calls Tryz.prog 77 #[.int .i64 x] w fun e w' => e = .returned (.string (bs [48 + x.toNat])) ∧ w' = w := by
  obtain ⟨i, rfl⟩ : ∃ i : Nat, x = i := ⟨x.toNat, by omega⟩
  have q := Any.strconv_Itoa_small Tryz.lays171 i (by omega) w
  rw [dig_fin ⟨i, by omega⟩] at q
  exact q
end Go.Proofs.YtlchkflpaehgcaaGreatDoor
namespace Go.Proofs.YtlchkflpaehgcaaGreatDoor
open Go.RowKit
set_option linter.unusedVariables false
set_option linter.unusedSimpArgs false

def hexM (v : Int) : ByteArray := ⟨#[36]⟩ ++ hex8Of v
theorem lhex8_any (v : Int) (w : World) (h0 : 0 ≤ v) (h1 : v ≤ 255) : Calls Tryz.prog 25 #[.int .u8 v] w fun e w' => e = .returned (.string (hexM v)) ∧ Kept w w' := by
  go_enter Tryz.func25, Tryz.ntmps25
  go_wp2_with fail
  refine (hex8_any v _ h0 h1).mono ?_
  rintro e u1 ⟨rfl, g1⟩
  go_wp2
  go_ret
  exact ⟨rfl, Kept.of g1⟩
def nameS (f : Fm) : ByteArray := if f.kind = 23 ∨ f.kind = 24 then tabS operL f.x else if f.kind = 31 then tabS fastL f.x else if f.kind = 43 then tabS shiftL f.x else tabS nameL f.kind
def nameOk (f : Fm) : Bool := decide (0 ≤ f.kind) && decide (f.kind ≤ 46) && decide (0 ≤ f.x) && (if f.kind = 31 then decide (f.x ≤ 3) else decide (f.x ≤ 7))
set_option maxRecDepth 100000 in
theorem nameOf_any (f : Fm) (w : World) (lay : Lay w) (ok : nameOk f = true) : Calls Tryz.prog 50 #[.agg #[.int .i64 f.kind, .int .i64 f.x, .int .i64 f.y, .int .i64 f.bytes, .int .i64 f.cycles, .int .i64 f.taken]] w fun e w' => e = .returned (.string (nameS f)) ∧ Kept w w' := by
  simp only [nameOk, Bool.and_eq_true, decide_eq_true_eq] at ok
  obtain ⟨⟨⟨k0, k1⟩, x0⟩, x1⟩ := ok
  have zo := lay.oper.1
  have zf := lay.fast.1
  have zs := lay.shift.1
  have zn := lay.name.1
  by_cases c1 : f.kind = 23 ∨ f.kind = 24
  · have E : nameS f = tabS operL f.x := by simp [nameS, c1]
    have xl : f.x ≤ 7 := by rw [if_neg (by omega)] at x1; simpa using x1
    have T := has_tab lay.oper f.x x0 (by simp [operL]; omega)
    rw [← E] at T
    clear E x1 lay
    generalize nameS f = S at T ⊢
    generalize f.x = x at *
    go_enter Tryz.func50, Tryz.ntmps50
    rcases c1 with c | c
    · rw [c]
      go_wp2
      go_ret
      exact ⟨rfl, Kept.of (alloc1 _ _ _)⟩
    · rw [c]
      go_wp2
      go_ret
      exact ⟨rfl, Kept.of (alloc1 _ _ _)⟩
  by_cases c2 : f.kind = 31
  · have E : nameS f = tabS fastL f.x := by simp [nameS, c2]
    have xl : f.x ≤ 3 := by rw [if_pos c2] at x1; simpa using x1
    have T := has_tab lay.fast f.x x0 (by simp [fastL]; omega)
    rw [← E] at T
    clear E x1 lay
    generalize nameS f = S at T ⊢
    generalize f.x = x at *
    go_enter Tryz.func50, Tryz.ntmps50
    rw [c2]
    go_wp2
    go_ret
    exact ⟨rfl, Kept.of (alloc1 _ _ _)⟩
  by_cases c3 : f.kind = 43
  · have E : nameS f = tabS shiftL f.x := by simp [nameS, c3]
    have xl : f.x ≤ 7 := by rw [if_neg (by omega)] at x1; simpa using x1
    have T := has_tab lay.shift f.x x0 (by simp [shiftL]; omega)
    rw [← E] at T
    clear E x1 lay
    generalize nameS f = S at T ⊢
    generalize f.x = x at *
    go_enter Tryz.func50, Tryz.ntmps50
    rw [c3]
    go_wp2
    go_ret
    exact ⟨rfl, Kept.of (alloc1 _ _ _)⟩
  have c0 : f.kind ≠ 23 := fun h => c1 (.inl h)
  have c4 : f.kind ≠ 24 := fun h => c1 (.inr h)
  have E : nameS f = tabS nameL f.kind := by simp [nameS, c0, c4, c2, c3]
  have T := has_tab lay.name f.kind k0 (by simp [nameL]; omega)
  rw [← E] at T
  clear E x1 lay
  generalize nameS f = S at T ⊢
  go_enter Tryz.func50, Tryz.ntmps50
  go_wp2
  go_ret
  exact ⟨rfl, Kept.of (alloc1 _ _ _)⟩
def lineS (n : ByteArray) (ss : List ByteArray) : ByteArray := if ss = [] then n else n ++ ⟨#[32]⟩ ++ joinS ss
theorem joinS_size (ss : List ByteArray) (hn : ss.length ≤ 2) (hl : ∀ s ∈ ss, s.size ≤ 1000000) : (joinS ss).size ≤ 2000001 := by
  match ss, hn, hl with
  | [], _, _ => simp [joinS, ByteArray.size]
  | [a], _, hl => have := hl a (by simp); simp only [joinS]; omega
  | [a, b], _, hl =>
    have h1 := hl a (by simp)
    have h2 := hl b (by simp)
    have h3 : (⟨#[44]⟩ : ByteArray).size = 1 := rfl
    simp only [joinS, ByteArray.size_append, h3]; omega
theorem lline_any (n : ByteArray) (v : Value) (ss : List ByteArray) (w : World) (h : Strs w v ss) (hn : ss.length ≤ 2) (hl : ∀ s ∈ ss, s.size ≤ 1000000) (hb : n.size ≤ 1000000) : Calls Tryz.prog 24 #[.string n, v] w fun e w' => e = .returned (.string (lineS n ss)) ∧ Kept w w' := by
  by_cases hne : ss = []
  · have E : lineS n ss = n := by simp [lineS, hne]
    rw [E]
    obtain ⟨a, c, rfl⟩ : ∃ a c, v = .slice a 0 c := by
      rcases h with ⟨rfl, _⟩ | ⟨g, cap, rfl, _⟩
      · exact ⟨_, _, rfl⟩
      · exact ⟨_, _, by rw [hne]; rfl⟩
    go_enter Tryz.func24, Tryz.ntmps24
    go_wp2
    go_ret
    exact ⟨rfl, Kept.refl _⟩
  · have E : lineS n ss = n ++ ⟨#[32]⟩ ++ joinS ss := by simp [lineS, hne]
    rw [E]
    have J := sjoin_any v ss w h hne hn hl
    have JS := joinS_size ss hn hl
    generalize joinS ss = R at J JS ⊢
    have n1 : ¬ 9223372036854775807 < n.size + 1 := by omega
    have n2 : ¬ 9223372036854775807 < n.size + 1 + R.size := by omega
    rcases h with ⟨_, h⟩ | ⟨g, cap, rfl, hc, hg, hx⟩
    · exact absurd h hne
    · have l0 : ((ss.length : Int) == 0) = false := by
        have := List.length_pos_iff.2 hne
        simp; omega
      generalize ss.length = m at *
      have JJ := hid J
      clear J hx hne hl E
      go_enter Tryz.func24, Tryz.ntmps24
      go_wp2_with (go_at_call 44; refine JJ.out.mono ?_; rintro e u1 ⟨rfl, g1⟩; have G := hid g1; clear g1)
      go_ret
      exact ⟨rfl, G.out⟩
def condS (x : Int) (ss : List ByteArray) : List ByteArray := if x = 4 then ss else tabS condL x :: ss
theorem strs_own {w : World} {base : Nat} {e : TypeId} {v : Value} {ss : List ByteArray} (o : w.ownsRow base e 1 v ss.length (ss.map Value.string)) (hn : ss ≠ []) : Strs w v ss := by
  rcases id o.2 with ⟨_, h⟩ | ⟨g, cap, cur, rfl, _, hb, hc, _, _, _⟩
  · exact absurd (List.length_eq_zero_iff.1 h) hn
  · refine .inr ⟨g, cap, rfl, hc, (Array.getElem?_eq_some_iff.1 hb).1, fun j x hj => ?_⟩
    have q := o.cells rfl j (.string x) (by rw [List.getElem?_map, hj]; rfl)
    by_cases j0 : j = 0
    · subst j0; simpa [Addr.add] using q
    · simpa [Addr.add, j0] using q
theorem cond4_any (v : Value) (ss : List ByteArray) (w : World) : Calls Tryz.prog 78 #[.int .i64 4, v] w fun e w' => e = .returned v ∧ Kept w w' := by
  go_enter Tryz.func78, Tryz.ntmps78
  go_wp2
  go_ret
  exact ⟨rfl, Kept.refl _⟩
theorem heap_new6 (w : World) (o : Obj) : (w.alloc o).heap[w.heap.size]? = some o := by show (w.heap.push o)[w.heap.size]? = some o; simp
theorem own_one (w : World) (a : ByteArray) : (w.alloc (.cells #[.string a] 9)).ownsRow w.heap.size 9 1 (.slice (some ⟨w.heap.size, 0, none⟩) 1 1) 1 [.string a] :=
  ⟨rfl, .inr ⟨w.heap.size, 1, #[.string a], rfl, Nat.le_refl _, heap_new6 w _, Nat.le_refl _, by decide, rfl, rfl⟩⟩
set_option maxRecDepth 100000 in
theorem cond0_any (x : Int) (w : World) (lay : Lay w) (x0 : 0 ≤ x) (x1 : x ≤ 3) : Calls Tryz.prog 78 #[.int .i64 x, .slice none 0 0] w fun e w' => ∃ v, e = .returned v ∧ Strs w' v [tabS condL x] ∧ Kept w w' := by
  obtain ⟨i0, hi, hz0, hz1, hz2⟩ := info_parts info_string
  have zc := lay.cond.1
  have T := has_tab lay.cond x x0 (by simp [condL]; omega)
  generalize tabS condL x = S at T ⊢
  have b4 : (x == 4) = false := by simp; omega
  clear lay
  go_enter Tryz.func78, Tryz.ntmps78
  go_wp2
  go_ret
  exact ⟨_, rfl, strs_one _ _ _, (Kept.refl w).alloc _⟩
set_option maxRecDepth 100000 in
theorem cond1_any (x : Int) (b : ByteArray) (w : World) (lay : Lay w) (x0 : 0 ≤ x) (x1 : x ≤ 3) (g : Nat) (hg : g < w.heap.size) (hc : w.cell? ⟨g, 0, none⟩ = some (.string b)) : Calls Tryz.prog 78 #[.int .i64 x, .slice (some ⟨g, 0, none⟩) 1 1] w fun e w' => ∃ v, e = .returned v ∧ Strs w' v [tabS condL x, b] ∧ Kept w w' := by
  obtain ⟨i0, hi, hz0, hz1, hz2⟩ := info_parts info_string
  have zc := lay.cond.1
  have T := has_tab lay.cond x x0 (by simp [condL]; omega)
  generalize tabS condL x = S at T ⊢
  have b4 : (x == 4) = false := by simp; omega
  clear lay
  have c2 : (w.alloc (.cells #[.string S] 9)).cell? ⟨g, 0, none⟩ = some (.string b) := (World.cell?_alloc_past (hn := hg) ..).trans hc
  go_enter Tryz.func78, Tryz.ntmps78
  go_wp2_with (at_builtin; refine wpList_append_own _ rfl _ _ 25 rfl w.heap.size 9 i0 (.string ByteArray.empty) 1 16 Tryz.underlying25 hi hz0 hz1 hz2 rfl (by decide) _ _ _ rfl (own_one w S) ⟨g, 0, none⟩ 1 1 [.string b] rfl rfl ?c1 ?c2 ?c3 ?c4 ?c5 ?_)
  case c1 =>
    intro j u hj
    match j, hj with
    | 0, hj => simp at hj; subst hj; simpa [Addr.add] using c2
  case c2 => intro u hu; simp at hu; subst hu; rfl
  case c3 => unfold maxLen; omega
  case c4 => omega
  case c5 => simp
  intro v' w1 hown' hgrow _
  have KB := hid (((Kept.refl w).alloc _).by hgrow (owns_row (own_one w S)))
  have HW := hid (strs_own (ss := [S, b]) hown' (by simp))
  clear hown' hgrow
  go_wp2
  go_ret
  exact ⟨_, rfl, HW.out, KB.out⟩
end Go.Proofs.YtlchkflpaehgcaaGreatDoor
namespace Go.Proofs.YtlchkflpaehgcaaGreatDoor
open Go.RowKit
set_option linter.unusedVariables false
set_option linter.unusedSimpArgs false

theorem strs_one_at (w : World) (g : Nat) (hg : g = w.heap.size) (a : ByteArray) (t : TypeId) : Strs (w.alloc (.cells #[.string a] t)) (.slice (some ⟨g, 0, none⟩) 1 1) [a] := hg ▸ strs_one w a t
theorem strs_two_at (w : World) (g : Nat) (hg : g = w.heap.size) (a b : ByteArray) (t : TypeId) : Strs (w.alloc (.cells #[.string a, .string b] t)) (.slice (some ⟨g, 0, none⟩) 2 2) [a, b] := hg ▸ strs_two w a b t
theorem Strs.drew {w : World} {v : Value} {ss : List ByteArray} (h : Strs w v ss) : Strs w.drew v ss := h
end Go.Proofs.YtlchkflpaehgcaaGreatDoor
