/- What cutNumber of layer 6 comes to. What assemble of layer 6 comes to, over whatever map of shapes. What assemble of layer 6 comes to where a line has a number. -/
import Derived.Test.YtlchkflpaehgcaaDoorCv
import Derived.Deep.QuietTactic
import Derived.BigQuiet
import Derived.Test.YtlchkflpaehgcaaDoorCb
import Derived.Deep.RegionLaw
import Derived.Laws.IdiomStrings
import Derived.ArgAppend
namespace Go.Proofs.YtlchkflpaehgcaaDoor
open Go.RowKit
set_option linter.unusedVariables false
set_option linter.unusedSimpArgs false

def preL (l : List UInt8) : List UInt8 := l.takeWhile (fun c => c != 36)
theorem index_yes (l : List UInt8) (h : (36 : UInt8) ∈ l) : Lib.indexByte l 36 = ((preL l).length : Int) := by
  induction l with
  | nil => simp at h
  | cons a l ih =>
    unfold Lib.indexByte
    by_cases e : a = 36
    · subst e; simp [preL]
    · have h2 : (36 : UInt8) ∈ l := by
        rcases List.mem_cons.1 h with q | q
        · exact absurd q.symm e
        · exact q
      rw [if_neg (by simpa using e), ih h2]
      have : (((preL l).length : Int) == -1) = false := by simp
      rw [this]
      simp [preL, e]
theorem index_no (l : List UInt8) (h : (36 : UInt8) ∉ l) : Lib.indexByte l 36 = -1 := by
  induction l with
  | nil => rfl
  | cons a l ih =>
    unfold Lib.indexByte
    rw [List.mem_cons, not_or] at h
    rw [if_neg (by simpa using fun e => h.1 e.symm), ih h.2]
    rfl
theorem pre_lt (l : List UInt8) (h : (36 : UInt8) ∈ l) : (preL l).length < l.length := by
  induction l with
  | nil => simp at h
  | cons a l ih =>
    by_cases e : a = 36
    · subst e; simp [preL]
    · have h2 : (36 : UInt8) ∈ l := by
        rcases List.mem_cons.1 h with q | q
        · exact absurd q.symm e
        · exact q
      have := ih h2
      simp [preL, e] at this ⊢
      exact this
def cutI (s : ByteArray) : Nat := (preL s.data.toList).length
def cutA (s : ByteArray) : ByteArray := s.extract 0 (cutI s)
def cutB (s : ByteArray) : ByteArray := s.extract (cutI s + 1) s.size
theorem lcut_yes (s : ByteArray) (w : World) (hs : s.size ≤ maxLen) (h : (36 : UInt8) ∈ s.data.toList) : Calls Tryd.prog 72 #[.string s, .string ⟨#[36]⟩] w fun e w' => e = .returned (.tuple #[.string (cutA s), .string (cutB s), .bool true]) ∧ Kept w w' := by
  have I := index_any s
  rw [index_yes _ h] at I
  have hl := pre_lt _ h
  have hsz : s.data.toList.length = s.size := Array.length_toList
  rw [hsz] at hl
  unfold cutA cutB
  have e1 : cutI s = (preL s.data.toList).length := rfl
  rw [← e1] at hl I
  generalize cutI s = n at *
  have hm : (s.size : Int) ≤ 9223372036854775807 := by unfold maxLen at hs; omega
  have n0 : (0 : Int) ≤ (n : Int) := by omega
  have n1 : (n : Int) ≤ (s.size : Int) := by omega
  have n2 : (n : Int) + 1 ≤ (s.size : Int) := by omega
  have wn : IntKind.i64.wrap ((n : Int) + 1) = (n : Int) + 1 := by rw [IntKind.wrap_i64]; omega
  have II := hid I
  clear I e1 hsz h
  go_enter Tryd.func72, Tryd.ntmps72
  go_wp2_with (go_at_call 81; refine (II.out _).mono ?_; rintro e u ⟨rfl, rfl⟩)
  go_region
  all_goals
    go_wp2
    exact bodyPost_ret (v := .tuple #[.string (s.extract 0 n), .string (s.extract (n + 1) s.size), .bool true]) (by simp [results, Tryd.results72, go_sem]) rfl ⟨rfl, (Kept.refl _).drew⟩
theorem lcut_no (s : ByteArray) (w : World) (hs : s.size ≤ maxLen) (h : (36 : UInt8) ∉ s.data.toList) : Calls Tryd.prog 72 #[.string s, .string ⟨#[36]⟩] w fun e w' => e = .returned (.tuple #[.string s, .string ⟨#[]⟩, .bool false]) ∧ Kept w w' := by
  have I := index_any s
  rw [index_no _ h] at I
  have II := hid I
  clear I h
  go_enter Tryd.func72, Tryd.ntmps72
  go_wp2_with (go_at_call 81; refine (II.out _).mono ?_; rintro e u ⟨rfl, rfl⟩)
  exact bodyPost_ret (v := .tuple #[.string s, .string ⟨#[]⟩, .bool false]) (by simp [results, Tryd.results72, go_sem]) rfl ⟨rfl, Kept.refl _⟩
theorem scut_any (s : ByteArray) (w : World) (x y : ByteArray) (b : Bool) (h : ∀ u, Calls Tryd.prog 72 #[.string s, .string ⟨#[36]⟩] u fun e w' => e = .returned (.tuple #[.string x, .string y, .bool b]) ∧ Kept u w') : Calls Tryd.prog 65 #[.string s, .string ⟨#[36]⟩] w fun e w' => e = .returned (.tuple #[.string x, .string y, .bool b]) ∧ Kept w w' := by
  have H := hid h
  clear h
  go_enter Tryd.func65, Tryd.ntmps65
  go_wp2_with fail
  refine (H.out _).mono ?_
  rintro e u ⟨rfl, g⟩
  go_wp2
  exact bodyPost_ret (v := .tuple #[.string x, .string y, .bool b]) (by simp [results, Tryd.results65, go_sem]) rfl ⟨rfl, g⟩
def cutR (s : ByteArray) : ByteArray := trimH (cutB s)
def cutT (s : ByteArray) : ByteArray := cutA s ++ ⟨#[36]⟩ ++ cutR s
def cutD (s : ByteArray) : ByteArray := (cutB s).extract 0 ((cutB s).size - (cutR s).size)
theorem trim_le (s : ByteArray) : (trimH s).size ≤ s.size := by
  have h := (List.dropWhile_suffix (hexS.contains ·) (l := s.data.toList)).length_le
  have e1 : (trimH s).size = (s.data.toList.dropWhile (hexS.contains ·)).length := List.size_toArray
  have e2 : s.data.toList.length = s.size := Array.length_toList
  rw [e1, ← e2]; exact h
theorem cutN_no (s : ByteArray) (w : World) (hs : s.size ≤ maxLen) (h : (36 : UInt8) ∉ s.data.toList) : Calls Tryd.prog 49 #[.string s] w fun e w' => e = .returned (.tuple #[.string s, .string ⟨#[]⟩]) ∧ Kept w w' := by
  have C := hid (fun u => scut_any s u _ _ _ (fun u => lcut_no s u hs h))
  clear h
  go_enter Tryd.func49, Tryd.ntmps49
  go_wp2_with fail
  refine (C.out _).mono ?_
  rintro e u ⟨rfl, g⟩
  go_wp2
  go_ret2
  exact ⟨rfl, g⟩
theorem cutN_yes (s : ByteArray) (w : World) (hs : s.size ≤ maxLen) (h : (36 : UInt8) ∈ s.data.toList) : Calls Tryd.prog 49 #[.string s] w fun e w' => e = .returned (.tuple #[.string (cutT s), .string (cutD s)]) ∧ Kept w w' := by
  have C := hid (fun u => scut_any s u _ _ _ (fun u => lcut_yes s u hs h))
  have D := hid (fun u => trim_any (cutB s) u)
  have hl := pre_lt _ h
  have hsz : s.data.toList.length = s.size := Array.length_toList
  rw [hsz] at hl
  have hl2 : cutI s < s.size := hl
  have a1 : (cutA s).size + 1 + (cutB s).size = s.size := by
    simp only [cutA, cutB, ByteArray.size_extract]
    omega
  have r1 := trim_le (cutB s)
  unfold cutT cutD cutR
  generalize cutA s = A at *
  generalize cutB s = B at *
  generalize trimH B = R at *
  have nb1 : ¬ 9223372036854775807 < A.size + 1 := by unfold maxLen at hs; omega
  have nb2 : ¬ 9223372036854775807 < A.size + 1 + R.size := by unfold maxLen at hs; omega
  have wb : IntKind.i64.wrap ((B.size : Int) - (R.size : Int)) = (B.size : Int) - (R.size : Int) := by unfold maxLen at hs; rw [IntKind.wrap_i64]; omega
  have c0 : (0 : Int) ≤ (B.size : Int) - (R.size : Int) := by omega
  have c1 : (B.size : Int) - (R.size : Int) ≤ (B.size : Int) := by omega
  have tn : ((B.size : Int) - (R.size : Int)).toNat = B.size - R.size := by omega
  have TN := hid tn
  clear h hl hl2 hsz tn
  go_enter Tryd.func49, Tryd.ntmps49
  go_wp2_with fail
  refine (C.out _).mono ?_
  rintro e u1 ⟨rfl, g1⟩
  have K1 := hid g1
  clear g1
  go_wp2_with fail
  refine (D.out _).mono ?_
  rintro e u2 ⟨rfl, g2⟩
  have K2 := hid (K1.out.trans g2)
  clear g2
  go_wp2
  go_region
  all_goals
    go_wp2
    go_ret2
    exact ⟨rfl, K2.out.drew⟩
end Go.Proofs.YtlchkflpaehgcaaDoor
namespace Go.Proofs.YtlchkflpaehgcaaDoor
open Go.RowKit
set_option linter.unusedVariables false
set_option linter.unusedSimpArgs false

def bytN (A : ByteArray) : List Int := A.data.toList.map (fun b => (b.toNat : Int))
def Byts (w : World) (v : Value) (ns : List Int) : Prop :=
  (v = .slice none 0 0 ∧ ns = []) ∨ ∃ g cap, v = .slice (some ⟨g, 0, none⟩) ns.length cap ∧ ns.length ≤ cap ∧ cap ≤ maxLen ∧ g < w.heap.size ∧ ∀ (j : Nat) u, (ns.map (Value.int .u8))[j]? = some u → w.cell? ((⟨g, 0, none⟩ : Addr).add j) = some u
theorem Byts.kept {W w : World} {v : Value} {ns : List Int} (h : Byts W v ns) (g : Kept W w) : Byts w v ns := by
  rcases h with h | ⟨k, cap, e, hc, hm, hk, hx⟩
  · exact .inl h
  · exact .inr ⟨k, cap, e, hc, hm, Nat.lt_of_lt_of_le hk g.size, fun j u hj => (g.cell (x := (⟨k, 0, none⟩ : Addr).add j) (by rw [addB]; exact hk)).trans (hx j u hj)⟩
theorem conv_byts {w : World} {v : Value} {ns : List Int} (h : Byts w v ns) : (convert 27 9 v).run Tryd.prog w = .ok (.string (strOf ns)) w := by
  rcases h with ⟨rfl, rfl⟩ | ⟨g, cap, rfl, _, _, _, hx⟩
  · exact conv_nil w
  · exact conv_cells w ⟨g, 0, none⟩ cap ns hx
theorem byts_own {w : World} {base : Nat} {v : Value} {ns : List Int} (o : w.ownsRow base 5 1 v ns.length (ns.map (Value.int .u8))) : Byts w v ns := by
  rcases id o.2 with ⟨rfl, h⟩ | ⟨g, cap, cur, rfl, _, hb, hc, hm, _, _⟩
  · exact .inl ⟨rfl, List.length_eq_zero_iff.1 h⟩
  · exact .inr ⟨g, cap, rfl, hc, hm, (Array.getElem?_eq_some_iff.1 hb).1, o.cells rfl⟩
def gc (A : ByteArray) (u : World) : Nat := grownCap u A.size 0 5
def rowOf (A : ByteArray) (u : World) : Obj := .cells (bytesRow A (gc A u)) 5 ((bytesRow A (gc A u)).size, (bytesRow A (gc A u)).size + 1)
theorem conv_to (A : ByteArray) (u : World) : (convert 9 27 (.string A)).run Tryd.prog u = .ok (.slice (some ⟨u.heap.size, 0, none⟩) A.size (gc A u)) (u.alloc (rowOf A u)).drew :=
  run_bytes_of_string (P := Tryd.prog) u 9 27 5 A Tryd.underlying9 Tryd.underlying27 Tryd.underlying5
theorem row_size (A : ByteArray) (u : World) : (bytesRow A (gc A u)).size = gc A u := by
  have h := grownCap_ge u A.size 0 5
  have e : A.data.size = A.size := rfl
  simp only [bytesRow, gc, Array.size_append, Array.size_map, Array.size_replicate, e]
  omega
theorem row_get (A : ByteArray) (u : World) (j : Nat) (v : Value) (h : ((bytN A).map (Value.int .u8))[j]? = some v) : (bytesRow A (gc A u))[j]? = some v := by
  have hj : j < (bytN A).length := by
    have := (List.getElem?_eq_some_iff.1 h).1
    simpa using this
  have hj2 : j < A.data.size := by simpa [bytN] using hj
  unfold bytesRow
  rw [Array.getElem?_append_left (by simpa using hj2)]
  rw [← h]
  simp [bytN, Function.comp_def]
theorem bytN_len (A : ByteArray) : (bytN A).length = A.size := by unfold bytN; rw [List.length_map]; exact Array.length_toList
theorem row_cell (A : ByteArray) (u : World) (o : Nat) : (u.alloc (rowOf A u)).cell? ⟨u.heap.size, o, none⟩ = (bytesRow A (gc A u))[o]? := by
  have h : (u.alloc (rowOf A u)).heap[u.heap.size]? = some (rowOf A u) := heap_new6 u _
  unfold World.cell?
  simp only [h]
  rfl
theorem byts_row (A : ByteArray) (u : World) (hA : A.size ≤ maxLen) (n : Nat) (hn : n = u.heap.size) : Byts (u.alloc (rowOf A u)).drew (.slice (some ⟨n, 0, none⟩) A.size (gc A u)) (bytN A) := by
  subst hn
  refine .inr ⟨u.heap.size, gc A u, by rw [bytN_len], by rw [bytN_len]; exact grownCap_ge _ _ _ _, grownCap_le_maxLen _ _ _ _ hA, by show u.heap.size < (u.alloc (rowOf A u)).heap.size; simp, fun j v hj => ?_⟩
  show (u.alloc (rowOf A u)).cell? ((⟨u.heap.size, 0, none⟩ : Addr).add j) = some v
  rw [Addr.add_lit, Nat.zero_add, row_cell]
  exact row_get A u j v hj
set_option maxRecDepth 100000 in
theorem lasm_hit (f : List UInt8 → Option (ByteArray × Int)) (Bm nn : Nat) (s A : ByteArray) (w : World) (hM : MapIs w Bm nn f) (hs : s.size ≤ maxLen) (hf : f s.data.toList = some (A, 0)) (hA : A.size ≤ maxLen) :
    Calls Tryd.prog 25 #[.map (some Bm), .string s] w fun e w' => ∃ v, e = .returned (.tuple #[v, .int .i64 0]) ∧ Byts w' v (bytN A) ∧ Kept w w' := by
  have G1 : (Instr.lookup 49 (.map (some Bm)) (.string s) true).run Tryd.prog w = .ok (.tuple #[.agg #[.string A, .int .i64 0], .bool true]) w := by
    have := hM.get s hs
    rw [hf] at this
    exact this
  have cv := conv_to A
  clear hM hf
  go_enter Tryd.func25, Tryd.ntmps25
  go_wp2
  go_ret2
  exact ⟨_, rfl, byts_row A _ hA _ (by simp), (((Kept.refl w).alloc _).alloc _).drew⟩
def Look (P : World → Prop) (Bm : Nat) (s A : ByteArray) (m : Int) (ok : Bool) : Prop := ∀ u, P u → (Instr.lookup 49 (.map (some Bm)) (.string s) true).run Tryd.prog u = .ok (.tuple #[.agg #[.string A, .int .i64 m], .bool ok]) u
set_option maxRecDepth 100000 in
set_option maxHeartbeats 4000000 in
theorem lasm_no (f : List UInt8 → Option (ByteArray × Int)) (Bm nn : Nat) (s T D A1 A2 : ByteArray) (m1 m2 : Int) (ok1 ok2 : Bool) (w : World) (hM : MapIs w Bm nn f) (L1 : Look (fun u => MapIs u Bm nn f) Bm s A1 m1 ok1) (L2 : Look (fun u => MapIs u Bm nn f) Bm T A2 m2 ok2)
    (hno : ok1 = true → (m1 == 0) = false) (CN : ∀ u, Calls Tryd.prog 49 #[.string s] u fun e w' => e = .returned (.tuple #[.string T, .string D]) ∧ Kept u w') (hD : D.size ≤ maxLen) (m20 : 0 ≤ m2) (m22 : m2 ≤ 2) (hbad : ok2 = false ∨ readErr D (2 * m2) ≠ 0) :
    Calls Tryd.prog 25 #[.map (some Bm), .string s] w fun e w' => ∃ v, e = .returned (.tuple #[v, .int .i64 6]) ∧ Byts w' v [] ∧ Kept w w' := by
  have G1 := L1 w hM
  have HM := hid hM
  have HL2 := hid L2
  have HCN := hid CN
  have wm : IntKind.i64.wrap (2 * m2) = 2 * m2 := by rw [IntKind.wrap_i64]; omega
  have CR := hid (fun u => read_any D (2 * m2) u hD)
  generalize readVal D (2 * m2) = RV at *
  generalize hE : readErr D (2 * m2) = RE at *
  have hb2 : ok2 = false ∨ (RE != 0) = true := hbad.imp id (fun h => by simpa using h)
  clear hE hbad L1 L2 CN hM hD
  go_enter Tryd.func25, Tryd.ntmps25
  cases ok1
  case' true => have h1 := hno rfl
  all_goals
    clear hno
    go_wp2_with fail
    refine (HCN.out _).mono ?_
    rintro e u1 ⟨rfl, g1⟩
    have K1 := hid (((Kept.refl w).alloc _).trans g1)
    have G2 := HL2.out u1 (HM.out.kept K1.out)
    clear g1
    go_wp2_with fail
    refine (CR.out _).mono ?_
    rintro e u2 ⟨rfl, g2⟩
    have K2 := hid ((K1.out.alloc _).trans (Kept.of g2))
    clear g2
    rcases hb2 with h2 | h2
  all_goals
    first
      | subst h2
      | (cases ok2)
  all_goals
    go_wp2
    go_ret2
    exact ⟨_, rfl, .inl ⟨rfl, rfl⟩, K2.out⟩
theorem grown_setCells (b : Nat) : ∀ (vs : List Value) (o : Nat) (w : World), w.grownBy (w.setCells b o vs) (some b)
  | [], o, w => ⟨rfl, rfl, rfl, Nat.le_refl _, fun _ _ _ => rfl⟩
  | v :: r, o, w => by
    have ih := grown_setCells b r (o + 1) (w.setCell ⟨b, o, none⟩ v)
    have hs : (w.setCell ⟨b, o, none⟩ v).heap.size = w.heap.size := by simp [World.setCell]
    refine ⟨ih.os, ih.tape, ih.output, by rw [← hs]; exact ih.size, fun k hk hne => ?_⟩
    refine (ih.block k (by rw [hs]; exact hk) hne).trans (Below.heap_setCell _ _ _ _ (fun e => hne (by rw [e])))
theorem byts_app {w : World} {A : ByteArray} {u : World} {g cap : Nat} (hrow : w.heap[g]? = some (rowOf A u)) (hcap : cap = gc A u) (hA : A.size ≤ 1000) (ad : Addr) (m c : Nat) (news : List Int) (hm : news.length = m) (hnews : ∀ (j : Nat) v, (news.map (Value.int .u8))[j]? = some v → w.cell? (ad.add j) = some v) (hm2 : m ≤ 1000) (ty : TypeId) :
    ∃ v' w', (Builtin.append_ #[27, 27] ty #[.slice (some ⟨g, 0, none⟩) A.size cap, .slice (some ad) m c]).run Tryd.prog w = .ok v' w' ∧ Byts w' v' (bytN A ++ news) ∧ w.grownBy w' (some g) := by
  obtain ⟨i0, hi, hz0, hz1, hz2⟩ := info_parts info_u8
  have hge : A.size ≤ cap := by rw [hcap]; exact grownCap_ge _ _ _ _
  have hle : cap ≤ maxLen := by rw [hcap]; exact grownCap_le_maxLen _ _ _ _ (by unfold maxLen; omega)
  have hl : (news.map (Value.int .u8)).length = m * 1 := by simp [hm]
  have one : ∀ u ∈ news.map (Value.int .u8), u.oneCell' = true := fun u hu => by obtain ⟨q, _, rfl⟩ := List.mem_map.1 hu; rfl
  have cell : ∀ o, w.cell? ⟨g, o, none⟩ = (bytesRow A (gc A u))[o]? := fun o => by
    unfold World.cell?
    simp only [hrow]
    rfl
  have hgl : g < w.heap.size := (Array.getElem?_eq_some_iff.1 hrow).1
  by_cases hroom : A.size + m ≤ cap
  · have hc : ∀ j, j < (news.map (Value.int .u8)).length → (w.cell? ⟨g, 0 + A.size * i0.size + j, none⟩).isSome = true := fun j hj => by
      rw [hz1, Nat.mul_one, Nat.zero_add, cell]
      have : A.size + j < (bytesRow A (gc A u)).size := by rw [row_size]; simp [hm] at hj; omega
      simp [this]
    have hf : ∀ j, j < (news.map (Value.int .u8)).length → w.frozen? ⟨g, 0 + A.size * i0.size + j, none⟩ = false := fun j hj => by
      rw [hz1, Nat.mul_one, Nat.zero_add]
      have h2 : A.size + j < (bytesRow A (gc A u)).size := by rw [row_size]; simp [hm] at hj; omega
      unfold World.frozen?
      simp only [hrow, rowOf]
      simp
      omega
    have hrun := run_append_room_cells (P := Tryd.prog) w 27 ty 5 i0 Tryd.underlying27 hi g 0 A.size cap ad m c (news.map (Value.int .u8)) (by rw [hz1]; exact hl) hnews one hroom hc hf
    have ln : (bytN A ++ news).length = A.size + m := by rw [List.length_append, bytN_len, hm]
    have gs := grown_setCells g (news.map (Value.int .u8)) (0 + A.size * i0.size) w
    refine ⟨_, _, hrun, .inr ⟨g, cap, by rw [ln], by rw [ln]; exact hroom, hle, Nat.lt_of_lt_of_le hgl gs.size, fun j v hj => ?_⟩, gs⟩
    rw [show (⟨g, 0, none⟩ : Addr).add j = ⟨g, j, none⟩ by rw [Addr.add_lit, Nat.zero_add]]
    by_cases h : j < A.size
    · rw [World.cell?_setCells_out _ _ _ _ _ (fun _ _ => .inl (by rw [hz1]; show j < 0 + A.size * 1; omega)), cell]
      refine row_get A u j v ?_
      rw [List.map_append, List.getElem?_append_left (by simpa [bytN_len] using h)] at hj
      exact hj
    · obtain ⟨q, rfl⟩ : ∃ q, j = A.size + q := ⟨j - A.size, by omega⟩
      rw [List.map_append, List.getElem?_append_right (by simp [bytN_len])] at hj
      simp only [List.length_map, bytN_len, Nat.add_sub_cancel_left] at hj
      obtain ⟨hq, he⟩ := List.getElem?_eq_some_iff.1 hj
      have := World.cell?_setCells_in g (news.map (Value.int .u8)) (0 + A.size * i0.size) w hc q hq
      rw [hz1, Nat.mul_one, Nat.zero_add] at this ⊢
      rw [this, he]
  · obtain ⟨v', w', hrun, r1, r2⟩ := run_append_arg_grows (P := Tryd.prog) w 27 ty 5 i0 (.int .u8 0) 1 1 Tryd.underlying27 hi hz0 hz1 hz2 rfl (by decide) ⟨g, 0, none⟩ A.size cap ((bytN A).map (Value.int .u8)) (by simp [bytN_len]) (fun j v hj => by rw [Addr.add_lit, Nat.zero_add, cell]; exact row_get A u j v hj) ad m c (news.map (Value.int .u8)) hl hnews (by omega) (by unfold maxLen; omega) (by omega)
    refine ⟨v', w', hrun, byts_own (base := w.heap.size) ?_, ?_⟩
    · rw [List.length_append, bytN_len, hm, List.map_append]; exact r1
    · exact ⟨r2.os, r2.tape, r2.output, r2.size, fun k hk _ => r2.block k hk (by simp)⟩
end Go.Proofs.YtlchkflpaehgcaaDoor
namespace Go.Proofs.YtlchkflpaehgcaaDoor
open Go.RowKit
set_option linter.unusedVariables false
set_option linter.unusedSimpArgs false

theorem step_app {ops : Array Oper} {o : Oper} {a : Act} {w : World} {K : Act → World → Prop} {Q : Exit → Act → World → Prop} {E : Prop} (hg : o.guard = none) (s x : Operand)
    (hop : o.op = Op.call { callee := Callee.builtin Builtin.append, args := #[s, x], argTypes := #[27, 27] }) (A : ByteArray) (u : World) (g cap : Nat) (hs : a.eval s = .slice (some ⟨g, 0, none⟩) A.size cap)
    (hrow : w.heap[g]? = some (rowOf A u)) (hcap : cap = gc A u) (hA : A.size ≤ 1000) (ad : Addr) (m c : Nat) (hx : a.eval x = .slice (some ad) m c) (news : List Int) (hm : news.length = m) (hnews : ∀ (j : Nat) v, (news.map (Value.int .u8))[j]? = some v → w.cell? (ad.add j) = some v) (hm2 : m ≤ 1000)
    (hK : ∀ v' w', Byts w' v' (bytN A ++ news) → w.grownBy w' (some g) → K (a.put o.dst v') w') : if Region.wanted o (yielded ops a.tmps) = true then Oper.wp Tryd.prog o a w K Q else E := by
  have hw : Region.wanted o (yielded ops a.tmps) = true := by simp [Region.wanted, hg]
  rw [if_pos hw]
  obtain ⟨v', w', hrun, hb, hgr⟩ := byts_app hrow hcap hA ad m c news hm hnews hm2 o.type
  unfold Oper.wp
  simp [execOp, hop, resolve, invoke, builtin, hs, hx, hrun, Result.andThen]
  exact hK _ _ hb hgr
theorem heap_old6 (w : World) (o : Obj) (k : Nat) (h : k < w.heap.size) : (w.alloc o).heap[k]? = w.heap[k]? := Below.heap_alloc w o k h
end Go.Proofs.YtlchkflpaehgcaaDoor
