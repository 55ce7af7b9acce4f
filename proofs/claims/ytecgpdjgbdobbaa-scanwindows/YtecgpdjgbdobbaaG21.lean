/- Registers and memories that come in: a struct with two rows of bytes; a slice of them. -/
import Derived.Test.YtecgpdjgbdobbaaG16
import Derived.Test.YtecgpdjgbdobbaaG06
import Derived.Test.YtecgpdjgbdobbaaG19
namespace Go.Proofs.Ytecgpdjgbdobbaa
open Go.RowKit Go.ChangeShapes Go.WideShapes Go.ChangeAt
set_option linter.unusedVariables false
set_option linter.unusedSimpArgs false

set_option maxRecDepth 100000 in
theorem vd_fields : ∃ fs : Array Field, Try.prog.underlying 24 = some (.struct fs) ∧ fs.size = 10 ∧ (fs.toList.map fun f => (f.type, f.offset, Try.prog.cellsOf f.type)) = [(5, 0, 1), (5, 1, 1), (5, 2, 1), (5, 3, 1), (5, 4, 1), (5, 5, 1), (5, 6, 1), (5, 7, 1), (22, 8, 1), (22, 9, 1)] :=
  ⟨_, Try.underlying24, by kernel_rfl, by kernel_rfl⟩
set_option maxRecDepth 100000 in
theorem open_vd {H : Type} {enc : TypeId × Value → H} {W : World} {fuel : Nat} {cs : List Value} {y : DataW H × List MemPlace} (hsz : cs.length = 10)
    (hf : DataW.trod enc Try.prog W 0 (fun _ => true) true fuel 24 cs = some y) : ∃ x : Vd, cs = vdC x ∧ ((y.1.weights Try.prog 24).all (· ≤ reachBytes) = true → VdIn W x) := by
  obtain ⟨fs, hs, hsz4, hfs⟩ := vd_fields
  obtain ⟨xs, n, _, hxe, _, hlen, hfl⟩ := DataW.trod_struct hs hf
  have hty : fs.toList.map (·.type) = [5, 5, 5, 5, 5, 5, 5, 5, 22, 22] := by
    have := congrArg (List.map (·.1)) hfs
    rw [List.map_map] at this
    exact this
  rw [hsz4] at hlen
  have each : ∀ (i : Nat) (t o : Nat), (fs.toList.map fun f => (f.type, f.offset, Try.prog.cellsOf f.type))[i]? = some (t, o, 1) → DataW.trod enc Try.prog W 0 (fun _ => true) true n t ((cs.drop o).take 1) = xs[i]? := by
    intro i t o hi
    rw [List.getElem?_map] at hi
    cases hq : fs.toList[i]? with
    | none => rw [hq] at hi; cases hi
    | some f =>
      rw [hq] at hi
      have e := Option.some.inj hi
      simp only [Prod.mk.injEq] at e
      obtain ⟨e1, e2, e3⟩ := e
      have q := hfl i f (by rw [← hq]; simp)
      rw [e1, e2] at q
      rw [e1] at e3
      rw [e3] at q
      exact q
  rw [hfs] at each
  match cs, hsz, xs, hlen with
  | [c0, c1, c2, c3, c4, c5, c6, c7, c8, c9], _, [y0, y1, y2, y3, y4, y5, y6, y7, y8, y9], _ =>
    have h0 : DataW.trod enc Try.prog W 0 (fun _ => true) true n 5 [c0] = some y0 := each 0 _ _ rfl
    have h1 : DataW.trod enc Try.prog W 0 (fun _ => true) true n 5 [c1] = some y1 := each 1 _ _ rfl
    have h2 : DataW.trod enc Try.prog W 0 (fun _ => true) true n 5 [c2] = some y2 := each 2 _ _ rfl
    have h3 : DataW.trod enc Try.prog W 0 (fun _ => true) true n 5 [c3] = some y3 := each 3 _ _ rfl
    have h4 : DataW.trod enc Try.prog W 0 (fun _ => true) true n 5 [c4] = some y4 := each 4 _ _ rfl
    have h5 : DataW.trod enc Try.prog W 0 (fun _ => true) true n 5 [c5] = some y5 := each 5 _ _ rfl
    have h6 : DataW.trod enc Try.prog W 0 (fun _ => true) true n 5 [c6] = some y6 := each 6 _ _ rfl
    have h7 : DataW.trod enc Try.prog W 0 (fun _ => true) true n 5 [c7] = some y7 := each 7 _ _ rfl
    have h8 : DataW.trod enc Try.prog W 0 (fun _ => true) true n 22 [c8] = some y8 := each 8 _ _ rfl
    have h9 : DataW.trod enc Try.prog W 0 (fun _ => true) true n 22 [c9] = some y9 := each 9 _ _ rfl
    obtain ⟨x0, e0, _, w0⟩ := DataW.trod_int Try.underlying5 h0
    obtain ⟨x1, e1, _, w1⟩ := DataW.trod_int Try.underlying5 h1
    obtain ⟨x2, e2, _, w2⟩ := DataW.trod_int Try.underlying5 h2
    obtain ⟨x3, e3, _, w3⟩ := DataW.trod_int Try.underlying5 h3
    obtain ⟨x4, e4, _, w4⟩ := DataW.trod_int Try.underlying5 h4
    obtain ⟨x5, e5, _, w5⟩ := DataW.trod_int Try.underlying5 h5
    obtain ⟨x6, e6, _, w6⟩ := DataW.trod_int Try.underlying5 h6
    obtain ⟨x7, e7, _, w7⟩ := DataW.trod_int Try.underlying5 h7
    obtain ⟨p8, cap8, z8, e8, r8, l8, m8, n8, _⟩ := open_bytes7 h8
    obtain ⟨p9, cap9, z9, e9, r9, l9, m9, n9, q9⟩ := open_bytes7 h9
    simp at e0 e1 e2 e3 e4 e5 e6 e7
    subst e0 e1 e2 e3 e4 e5 e6 e7 e8 e9
    refine ⟨⟨x0, x1, x2, x3, x4, x5, x6, x7, p8, cap8, z8, p9, cap9, z9⟩, rfl, fun hw => ?_⟩
    have b0 := bounds_u8 w0
    have b1 := bounds_u8 w1
    have b2 := bounds_u8 w2
    have b3 := bounds_u8 w3
    have b4 := bounds_u8 w4
    have b5 := bounds_u8 w5
    have b6 := bounds_u8 w6
    have b7 := bounds_u8 w7
    refine ⟨b0.1, b0.2, b1.1, b1.2, b2.1, b2.2, b3.1, b3.2, b4.1, b4.2, b5.1, b5.2, b6.1, b6.2, b7.1, b7.2, ⟨r8, l8, m8, n8⟩, ⟨r9, l9, m9, n9⟩, q9 ?_⟩
    have hd := congrArg Prod.fst hxe
    simp only at hd
    rw [hd] at hw
    simp only [DataW.weights, hs, hty, List.map_cons, List.map_nil, DataW.weightsEach, List.all_append, Bool.and_eq_true] at hw
    exact hw.2.2.2.2.2.2.2.2.2.1
theorem open_video {H : Type} {enc : TypeId × Value → H} {W : World} {r : Reach} {b0 : Nat} {v : Value} {d : DataW H} {p : List MemPlace}
    (hv : Value.okWide Try.prog W r b0 24 v) (h : DataW.Trod enc Try.prog W 0 (fun _ => true) true 24 v d p) :
    ∃ x : Vd, v = vdV x ∧ ((d.weights Try.prog 24).all (· ≤ reachBytes) = true → VdIn W x) := by
  obtain ⟨fs, hs, _, _⟩ := vd_fields
  obtain ⟨cs, rfl, hsz⟩ := okWide_struct hs hv
  rw [show Try.prog.cellsOf 24 = 10 by kernel_rfl] at hsz
  obtain ⟨fuel, hf⟩ := h
  obtain ⟨x, e, hx⟩ := open_vd (y := (d, p)) (show cs.toList.length = 10 by simpa using hsz) hf
  refine ⟨x, ?_, hx⟩
  have : cs.toList = vdC x := e
  rw [show cs = (vdC x).toArray from by rw [← this]]
  rfl
theorem weights_all {H : Type} {P : Program} {e : TypeId} : ∀ {ds : List (DataW H)} {d : DataW H}, d ∈ ds → ∀ n ∈ d.weights P e, n ∈ DataW.weightsAll P e ds
  | [], _, h, _, _ => by cases h
  | a :: r, d, h, n, hn => by
    unfold DataW.weightsAll
    rcases List.mem_cons.1 h with rfl | h
    · exact List.mem_append.2 (.inl hn)
    · exact List.mem_append.2 (.inr (weights_all h n hn))
set_option maxRecDepth 100000 in
theorem open_videos {H : Type} {enc : TypeId × Value → H} {W : World} {fuel : Nat} {v : Value} {x : DataW H × List MemPlace} (h : DataW.trod enc Try.prog W 0 (fun _ => true) true fuel 30 [v] = some x) (hw : (x.1.weights Try.prog 30).all (· ≤ reachBytes) = true) :
    ∃ (a : Option Addr) (cap : Nat) (s : List Vd), v = .slice a s.length cap ∧ FRow W a 10 (s.map vdC) ∧ (∀ y ∈ s, VdIn W y) ∧ s.length ≤ cap ∧ cap ≤ maxLen ∧ (a = none → cap = 0) := by
  have ht := Try.underlying30
  have hc : Try.prog.cellsOf 24 = 10 := by kernel_rfl
  rcases DataW.trod_slice ht h with ⟨h1, h2⟩ | ⟨a, len, cap, elems, rest, m, _, hv, hx, hb, hl, hm, hlen, hel, hsp, hns⟩
  · simp at h1
    subst h1
    exact ⟨none, 0, [], rfl, ⟨by simp, .inl rfl⟩, fun _ h => (by cases h), by simp, by simp, fun _ => rfl⟩
  · simp at hv
    subst hv
    have each : ∀ i, i < len → ∃ cs y, W.cells? 0 (a.add (i * 10)) 10 = some cs ∧ DataW.trod enc Try.prog W 0 (fun _ => true) true m 24 cs = some y ∧ (y.1.weights Try.prog 24).all (· ≤ reachBytes) = true := by
      intro i hi
      have := hel i hi
      rw [hc, List.getElem?_eq_getElem (by omega)] at this
      obtain ⟨cs, h1, h2⟩ := Option.bind_eq_some_iff.1 this
      refine ⟨cs, _, h1, h2, List.all_eq_true.2 fun n hn => List.all_eq_true.1 hw n ?_⟩
      rw [hx]
      simp only [DataW.weights, ht]
      exact List.mem_cons_of_mem _ (List.mem_append.2 (.inl (weights_all (List.mem_map.2 ⟨_, List.getElem_mem _, rfl⟩) n hn)))
    obtain ⟨s, hs1, hs2⟩ := list_choose (f := vdC) (p := VdIn W) ((List.range len).map (fun i => (W.cells? 0 (a.add (i * 10)) 10).getD [])) (fun cs hcs => by
      obtain ⟨i, hi, rfl⟩ := List.mem_map.1 hcs
      obtain ⟨cs2, y2, h3, h4, h5⟩ := each i (List.mem_range.1 hi)
      rw [h3, Option.getD_some]
      obtain ⟨q, e1, e2⟩ := open_vd (World.cells?_some h3).2.1 h4
      exact ⟨q, e1, e2 h5⟩)
    have sl : s.length = len := by
      have := congrArg List.length hs1
      simpa using this.symm
    refine ⟨some a, cap, s, by rw [sl], ⟨by rw [← hs1]; simp; omega, ?_⟩, hs2, by omega, hm, (fun e => by cases e)⟩
    by_cases hz : len = 0
    · left
      obtain rfl := List.eq_nil_of_length_eq_zero (sl.trans hz)
      rfl
    · right
      obtain ⟨cs, y, h1, _⟩ := each 0 (by omega)
      refine ⟨a, rfl, ?_, fun i cs hi j hj => ?_⟩
      · have := World.cells?_block h1 (by decide)
        rw [addFB] at this
        exact this
      · rw [← hs1, List.getElem?_map] at hi
        have hil : i < len := by
          by_cases q : i < len
          · exact q
          · rw [List.getElem?_eq_none (by simp; omega)] at hi; cases hi
        rw [List.getElem?_range hil] at hi
        obtain ⟨cs2, y2, h3, _⟩ := each i hil
        simp only [Option.map_some, Option.some.injEq, h3, Option.getD_some] at hi
        subst hi
        obtain ⟨_, hlen2, hcell⟩ := World.cells?_some h3
        rw [← addF]
        exact hcell j hj
end Go.Proofs.Ytecgpdjgbdobbaa
