/- Registers and memories that come in: a struct with two rows of bytes; a slice of them. -/
import Derived.Test.YtecgpdjgbdobbabG16
import Derived.Test.YtecgpdjgbdobbabG06
import Derived.Test.YtecgpdjgbdobbabG19
namespace Go.Proofs.Ytecgpdjgbdobbab
open Go.RowKit Go.ChangeShapes Go.WideShapes Go.ChangeAt
set_option linter.unusedVariables false
set_option linter.unusedSimpArgs false

set_option maxRecDepth 100000 in
theorem vd_fields : ∃ fs : Array Field, Try.prog.underlying 24 = some (.struct fs) ∧ fs.size = 10 ∧ (fs.toList.map fun f => (f.type, f.offset, Try.prog.cellsOf f.type)) = [(5, 0, 1), (5, 1, 1), (5, 2, 1), (5, 3, 1), (5, 4, 1), (5, 5, 1), (5, 6, 1), (5, 7, 1), (22, 8, 1), (22, 9, 1)] :=
  ⟨_, Try.underlying24, by kernel_rfl, by kernel_rfl⟩
set_option maxRecDepth 100000 in
theorem open_vd {H : Type} {enc : TypeId × Value → H} {W : World} {fuel : Nat} {cs : List Value} {y : DataW H × List MemPlace} (hsz : cs.length = 10)
    (hf : DataW.trod enc Try.prog W 0 (fun _ => true) true fuel 24 cs = some y) : ∃ x : Vd, cs = vdC x ∧ ((y.1.weights Try.prog 24).all (· ≤ reachBytes) = true → VdIn W x) := by
  obtain ⟨fs, hs, hsz4, hfs⟩ := vd_fields
  obtain ⟨xs, n, _, hxe, _, hlen, hfl⟩ := DataW.trod_struct hs hf
  have hty : fs.toList.map (·.type) = [5, 5, 5, 5, 5, 5, 5, 5, 22, 22] := by
    have := congrArg (List.map (·.1)) hfs
    rw [List.map_map] at this
    exact this
  rw [hsz4] at hlen
  have each : ∀ (i : Nat) (t o : Nat), (fs.toList.map fun f => (f.type, f.offset, Try.prog.cellsOf f.type))[i]? = some (t, o, 1) → DataW.trod enc Try.prog W 0 (fun _ => true) true n t ((cs.drop o).take 1) = xs[i]? := by
    intro i t o hi
    rw [List.getElem?_map] at hi
    cases hq : fs.toList[i]? with
    | none => rw [hq] at hi; cases hi
    | some f =>
      rw [hq] at hi
      have e := Option.some.inj hi
      simp only [Prod.mk.injEq] at e
      obtain ⟨e1, e2, e3⟩ := e
      have q := hfl i f (by rw [← hq]; simp)
      rw [e1, e2] at q
      rw [e1] at e3
      rw [e3] at q
      exact q
  rw [hfs] at each
  match cs, hsz, xs, hlen with
  | [c0, c1, c2, c3, c4, c5, c6, c7, c8, c9], _, [y0, y1, y2, y3, y4, y5, y6, y7, y8, y9], _ =>
    have h0 : DataW.trod enc Try.prog W 0 (fun _ => true) true n 5 [c0] = some y0 := each 0 _ _ rfl
    have h1 : DataW.trod enc Try.prog W 0 (fun _ => true) true n 5 [c1] = some y1 := each 1 _ _ rfl
    have h2 : DataW.trod enc Try.prog W 0 (fun _ => true) true n 5 [c2] = some y2 := each 2 _ _ rfl
    have h3 : DataW.trod enc Try.prog W 0 (fun _ => true) true n 5 [c3] = some y3 := each 3 _ _ rfl
    have h4 : DataW.trod enc Try.prog W 0 (fun _ => true) true n 5 [c4] = some y4 := each 4 _ _ rfl
    have h5 : DataW.trod enc Try.prog W 0 (fun _ => true) true n 5 [c5] = some y5 := each 5 _ _ rfl
    have h6 : DataW.trod enc Try.prog W 0 (fun _ => true) true n 5 [c6] = some y6 := each 6 _ _ rfl
    have h7 : DataW.trod enc Try.prog W 0 (fun _ => true) true n 5 [c7] = some y7 := each 7 _ _ rfl
    have h8 : DataW.trod enc Try.prog W 0 (fun _ => true) true n 22 [c8] = some y8 := each 8 _ _ rfl
    have h9 : DataW.trod enc Try.prog W 0 (fun _ => true) true n 22 [c9] = some y9 := each 9 _ _ rfl
    obtain ⟨x0, e0, _, w0⟩ := DataW.trod_int Try.underlying5 h0
    obtain ⟨x1, e1, _, w1⟩ := DataW.trod_int Try.underlying5 h1
    obtain ⟨x2, e2, _, w2⟩ := DataW.trod_int Try.underlying5 h2
    obtain ⟨x3, e3, _, w3⟩ := DataW.trod_int Try.underlying5 h3
    obtain ⟨x4, e4, _, w4⟩ := DataW.trod_int Try.underlying5 h4
    obtain ⟨x5, e5, _, w5⟩ := DataW.trod_int Try.underlying5 h5
    obtain ⟨x6, e6, _, w6⟩ := DataW.trod_int Try.underlying5 h6
    obtain ⟨x7, e7, _, w7⟩ := DataW.trod_int Try.underlying5 h7
    obtain ⟨p8, cap8, z8, e8, r8, l8, m8, n8, _⟩ := open_bytes7 h8
    obtain ⟨p9, cap9, z9, e9, r9, l9, m9, n9, q9⟩ := open_bytes7 h9
    simp at e0 e1 e2 e3 e4 e5 e6 e7
    subst e0 e1 e2 e3 e4 e5 e6 e7 e8 e9
    refine ⟨⟨x0, x1, x2, x3, x4, x5, x6, x7, p8, cap8, z8, p9, cap9, z9⟩, rfl, fun hw => ?_⟩
    have b0 := bounds_u8 w0
    have b1 := bounds_u8 w1
    have b2 := bounds_u8 w2
    have b3 := bounds_u8 w3
    have b4 := bounds_u8 w4
    have b5 := bounds_u8 w5
    have b6 := bounds_u8 w6
    have b7 := bounds_u8 w7
    refine ⟨b0.1, b0.2, b1.1, b1.2, b2.1, b2.2, b3.1, b3.2, b4.1, b4.2, b5.1, b5.2, b6.1, b6.2, b7.1, b7.2, ⟨r8, l8, m8, n8⟩, ⟨r9, l9, m9, n9⟩, q9 ?_⟩
    have hd := congrArg Prod.fst hxe
    simp only at hd
    rw [hd] at hw
    simp only [DataW.weights, hs, hty, List.map_cons, List.map_nil, DataW.weightsEach, List.all_append, Bool.and_eq_true] at hw
    exact hw.2.2.2.2.2.2.2.2.2.1
theorem open_video {H : Type} {enc : TypeId × Value → H} {W : World} {r : Reach} {b0 : Nat} {v : Value} {d : DataW H} {p : List MemPlace}
    (hv : Value.okWide Try.prog W r b0 24 v) (h : DataW.Trod enc Try.prog W 0 (fun _ => true) true 24 v d p) :
    ∃ x : Vd, v = vdV x ∧ ((d.weights Try.prog 24).all (· ≤ reachBytes) = true → VdIn W x) := by
  obtain ⟨fs, hs, _, _⟩ := vd_fields
  obtain ⟨cs, rfl, hsz⟩ := okWide_struct hs hv
  rw [show Try.prog.cellsOf 24 = 10 by kernel_rfl] at hsz
  obtain ⟨fuel, hf⟩ := h
  obtain ⟨x, e, hx⟩ := open_vd (y := (d, p)) (show cs.toList.length = 10 by simpa using hsz) hf
  refine ⟨x, ?_, hx⟩
  have : cs.toList = vdC x := e
  rw [show cs = (vdC x).toArray from by rw [← this]]
  rfl
theorem weights_all {H : Type} {P : Program} {e : TypeId} : ∀ {ds : List (DataW H)} {d : DataW H}, d ∈ ds → ∀ n ∈ d.weights P e, n ∈ DataW.weightsAll P e ds
  | [], _, h, _, _ => by cases h
  | a :: r, d, h, n, hn => by
    unfold DataW.weightsAll
    rcases List.mem_cons.1 h with rfl | h
    · exact List.mem_append.2 (.inl hn)
    · exact List.mem_append.2 (.inr (weights_all h n hn))
end Go.Proofs.Ytecgpdjgbdobbab
