/- HeaderBack: whatever is wished, an image that is made is parsed as it was wished, its sums fit and its code stands behind its head; the law returns true and the wish stays as it was. Condition: the tables header.kinds and header.ramSizes begin as the program's text lays them (tied card). -/
import Derived.Test.YtfmehkaojfjdjaaDoorRows
import Derived.WalkKit
import Derived.ProofKit
import Derived.OpenShut
import Derived.ShutString
import Derived.ChangeOld
import Derived.Deep.RegionHeld3
import Derived.Deep.DeepCutAuto
import Derived.LaidMore
import Derived.Lay
import Derived.Stop.Joined
import Derived.SevenTiedAt
import Derived.Deep.DeepHandedRow
import Derived.Deep.DeepWitnessRowRef
import Derived.SizedLaws
import Derived.SliceStrings
import Derived.Test.YtfmehkaojfjdjaaDoorCards
import Derived.Test.YtfmehkaojfjdjaaDoorTie
import Derived.Test.YtfmehkaojfjdjaaDoorPg7d
import Derived.Test.YtfmehkaojfjdjaaDoorWish7
import Derived.Test.YtfmehkaojfjdjaaDoorShown7
import Derived.Test.YtfmehkaojfjdjaaDoorH9
namespace Go.Proofs.YtfmehkaojfjdjaaDoor.headerBack
open Go.ChangeShapes Go.WideShapes Go.ChangeAt Go.RowKit
open Go.ChangeMaps (open_string shut_string)
set_option linter.unusedVariables false

theorem own : ownKnob Tryd.prog.godebug = none := by kernel_rfl
theorem laidOut : laidOutB Tryd.prog = true := by kernel_rfl
theorem conv_row {w : World} {x : Addr} {c : List Int} (h : Row w (some x) c) (cp : Nat) : (convert 22 9 (.slice (some x) c.length cp)).run Tryd.prog w = .ok (.string (strB c)) w := conv_cells w x cp c (row_news h)
theorem conv_row2 {w : World} {a : Option Addr} {c : List Int} {cp : Nat} (h : Row w a c) (n : a = none → cp = 0) : (convert 22 9 (.slice a c.length cp)).run Tryd.prog w = .ok (.string (strB c)) w := by
  cases a with
  | some x => exact conv_row h cp
  | none =>
    obtain rfl := n rfl
    obtain rfl : c = [] := by
      rcases h.2.2 with q | ⟨x, e, _⟩
      · exact q
      · cases e
    exact conv_nil w
theorem conv_nil0 (w : World) (a : Addr) (c : List Int) (h : c.length = 0) : (convert 22 9 (.slice (some a) 0 0)).run Tryd.prog w = .ok (.string (strB c)) w := by
  obtain rfl := List.eq_nil_of_length_eq_zero h
  exact conv_cells w a 0 [] (fun j u hj => by simp at hj)
theorem shl_bank (r : Int) (r0 : 0 ≤ r) (r1 : r ≤ 8) : ∀ u, (Op.shift .shl .i64 2 .u8 r).run Tryd.prog u = .ok (.int .i64 (mostOf r / 16384)) u := by
  refine nine (p := fun r => ∀ u, (Op.shift .shl .i64 2 .u8 r).run Tryd.prog u = .ok (.int .i64 (mostOf r / 16384)) u) ?_ ?_ ?_ ?_ ?_ ?_ ?_ ?_ ?_ r r0 r1
  all_goals (intro u; kernel_rfl)
theorem shl_bank2 (r : Int) (r0 : 0 ≤ r) (r1 : r ≤ 8) : wrap64 (2 * 2 ^ r.toNat) = mostOf r / 16384 := by
  refine nine (p := fun r => wrap64 (2 * 2 ^ r.toNat) = mostOf r / 16384) ?_ ?_ ?_ ?_ ?_ ?_ ?_ ?_ ?_ r r0 r1
  all_goals kernel_rfl
theorem shl_bank3 (r : Int) (r0 : 0 ≤ r) (r1 : r ≤ 8) : IntKind.i64.wrap (2 * 2 ^ min r.toNat 64) = mostOf r / 16384 := by
  refine nine (p := fun r => IntKind.i64.wrap (2 * 2 ^ min r.toNat 64) = mostOf r / 16384) ?_ ?_ ?_ ?_ ?_ ?_ ?_ ?_ ?_ r r0 r1
  all_goals kernel_rfl
theorem make_r {t : List Int} {k r m : Int} {c : List Int} (h : makeE t k r m c = 0) : r ≤ 8 := by
  obtain ⟨_, _, _, _, h4, _⟩ := make_ok _ _ _ _ _ h
  exact h4

set_option maxRecDepth 100000 in
set_option maxHeartbeats 8000000 in
theorem walk (t0 : ByteArray) (x0k x0r x0m : Int) (a0 : Option Addr) (cap0 : Nat) (z0 : List Int) (w : World) (s0 : t0.size ≤ maxLen) (w0k : (Lit.int .u8 x0k).wf = true) (w0r : (Lit.int .u8 x0r).wf = true) (w0m : (Lit.int .u8 x0m).wf = true) (r0 : Row w a0 z0) (l0 : z0.length ≤ cap0) (m0 : cap0 ≤ maxLen) (n0 : a0 = none → cap0 = 0) (b0 : z0.length ≤ 140737488355328) (lay : Lay7 w) :
    Calls Tryd.prog 6 #[.agg #[.string t0, .int .u8 x0k, .int .u8 x0r, .int .u8 x0m, .slice a0 z0.length cap0]] w fun e w' => e = .returned (.bool true) ∧ Kept w w' := by
  have S := hid (fun u (g : Kept w u) => shown7 u (lay.kept g))
  obtain ⟨k0, k1⟩ := bounds_u8 w0k
  obtain ⟨q0, q1⟩ := bounds_u8 w0r
  obtain ⟨p0, p1⟩ := bounds_u8 w0m
  have A := hid (fun u (g : Kept w u) => hmake_any t0 x0k x0r x0m z0 a0 cap0 u (lay.kept g) (row_kept g r0) b0 k0 k1 q0 q1 p0 p1 s0)
  have OK := hid (fun h => (make_ok (byL t0) x0k x0r x0m z0 h).1)
  have MH := hid (made_head t0 x0k x0r x0m z0)
  have RB := hid (fun (h : x0r ≤ 8) => most_banks ⟨x0r.toNat, by omega⟩)
  have MI := hid (made_in t0 x0k x0r x0m z0 ⟨k0, k1⟩ ⟨q0, q1⟩ ⟨p0, p1⟩ r0.2.1)
  have MN := hid (madeL_len (byL t0) x0k x0r x0m z0)
  have ZL := r0.1
  obtain ⟨E, hE⟩ : ∃ v, makeE (byL t0) x0k x0r x0m z0 = v := ⟨_, rfl⟩
  rw [hE] at A OK MH
  have ON := hid (fun (h : E ≠ 0) => show makeB (byL t0) x0k x0r x0m z0 = [] by unfold makeB; rw [if_neg (by rw [hE]; exact h)])
  generalize makeB (byL t0) x0k x0r x0m z0 = L at *
  generalize madeL (byL t0) x0k x0r x0m z0 = M at *
  have HE0 := hid (fun (h : E = 0) => hE.trans h)
  clear hE
  go_enter Tryd.func6, Tryd.ntmps6
  go_wp2_with fail
  refine (S.out _ ((Kept.refl w).alloc _)).mono ?_
  rintro e u1 ⟨rfl, k1⟩
  have K0 := hid (((Kept.refl w).alloc _).trans k1)
  have HB := fun i => (k1.cell (x := ⟨w.heap.size, i, none⟩) (by simp)).trans ((has_alloc w #[.string t0, .int .u8 x0k, .int .u8 x0r, .int .u8 x0m, .slice a0 z0.length cap0] 39).2 i)
  have e0 := HB 0
  have e1 := HB 1
  have e2 := HB 2
  have e3 := HB 3
  have e4 := HB 4
  simp at e0 e1 e2 e3 e4
  have z1 := k1.size
  simp at z1
  have zB : w.heap.size < u1.heap.size := by omega
  clear k1 HB
  go_wp2_with fail
  refine (A.out _ K0.out).mono ?_
  rintro e u2 ⟨v1, rfl, o1, k2⟩
  have K2 := hid (K0.out.trans k2)
  have gb0 := K0.out.size
  have O1 := hid o1
  have f0 : u2.cell? ⟨w.heap.size, 0, none⟩ = _ := (k2.cell (x := ⟨w.heap.size, 0, none⟩) zB).trans e0
  have f1 : u2.cell? ⟨w.heap.size, 1, none⟩ = _ := (k2.cell (x := ⟨w.heap.size, 1, none⟩) zB).trans e1
  have f2 : u2.cell? ⟨w.heap.size, 2, none⟩ = _ := (k2.cell (x := ⟨w.heap.size, 2, none⟩) zB).trans e2
  have f4 : u2.cell? ⟨w.heap.size, 4, none⟩ = _ := (k2.cell (x := ⟨w.heap.size, 4, none⟩) zB).trans e4
  have zC : w.heap.size < u2.heap.size := Nat.lt_of_lt_of_le zB k2.size
  clear e0 e1 e2 e3 e4 o1 k2
  by_cases hE : E = 0
  · obtain rfl := OK.out hE
    obtain ⟨h1, h2, h3, h4, h5, h6, h7, h8⟩ := MH.out hE
    have hE0 := HE0.out hE
    subst hE
    clear ON OK MH
    have hl : 336 ≤ L.length := by rw [MN.out]; omega
    obtain ⟨g, cp, rfl, O, c1, c2⟩ := own_cases O1.out (by omega)
    have OW := hid O
    have RW := hid (ownB_row O MI.out (by omega))
    have P1 := hid (fun u (g1 : Kept u2 u) => hparse_any L (some ⟨g, 0, none⟩) cp u (lay.kept (K2.out.trans g1)) (row_kept g1 RW.out) c1 c2)
    have P2 := hid (fun u (g1 : Kept u2 u) => hsum_any L (some ⟨g, 0, none⟩) cp u (row_kept g1 RW.out) c1 c2)
    have P3 := hid (fun u (g1 : Kept u2 u) => pwhole_any L (some ⟨g, 0, none⟩) cp u (row_kept g1 RW.out))
    rw [h1, h2, h3, h4, h5, h7] at P1
    rw [h6] at P2
    obtain ⟨LZ, hLZ⟩ : ∃ n : Nat, z0.length = n := ⟨_, rfl⟩
    have LL : L.length = 336 + LZ := by rw [MN.out, hLZ]
    have CA := hid (fun u (g1 : Kept u2 u) => conv_row (row_kept g1 (row_drop 336 RW.out (by omega))) (cp - 336))
    have CB := hid (fun u (g1 : Kept u2 u) => conv_row2 (row_kept (K2.out.trans g1) r0) n0)
    rw [h8, hLZ] at CA
    rw [hLZ] at CB f4 ⊢
    rw [LL] at P1 P2 P3 c1 ⊢
    generalize parseH L = H at *
    generalize sumV L = SV at *
    generalize wholeOf L = WO at *
    have SH := hid (shl_bank x0r q0 (make_r hE0))
    have SH2 := hid (shl_bank2 x0r q0 (make_r hE0))
    have SH3 := hid (shl_bank3 x0r q0 (make_r hE0))
    generalize mostOf x0r / 16384 = BK at *
    go_wp2_with fail
    refine (P1.out _ (Kept.refl _)).mono ?_
    rintro e u3 ⟨rfl, k3⟩
    have K3 := hid k3
    clear k3
    go_wp2_with fail
    refine (P2.out _ (K3.out.alloc _)).mono ?_
    rintro e u4 ⟨rfl, k4⟩
    have K4 := hid ((K3.out.alloc _).trans k4)
    have HB := fun i => (k4.cell (x := ⟨u3.heap.size, i, none⟩) (by simp)).trans ((has_alloc u3 #[.string t0, .int .u8 x0k, .int .i64 H.map, .bool H.ram, .bool H.bat, .bool H.clk, .int .i64 BK, .int .i64 H.size, .int .u8 SV, .int .u16 WO] 26).2 i)
    have b0 := HB 0
    have b1 := HB 1
    have b6 := HB 6
    have b8 := HB 8
    have b9 := HB 9
    simp at b0 b1 b6 b8 b9
    have w04 : u4.cell? ⟨w.heap.size, 0, none⟩ = _ := (K4.out.cell (x := ⟨w.heap.size, 0, none⟩) zC).trans f0
    have w14 : u4.cell? ⟨w.heap.size, 1, none⟩ = _ := (K4.out.cell (x := ⟨w.heap.size, 1, none⟩) zC).trans f1
    have w24 : u4.cell? ⟨w.heap.size, 2, none⟩ = _ := (K4.out.cell (x := ⟨w.heap.size, 2, none⟩) zC).trans f2
    have w44 : u4.cell? ⟨w.heap.size, 4, none⟩ = _ := (K4.out.cell (x := ⟨w.heap.size, 4, none⟩) zC).trans f4
    have z4 := k4.size
    simp at z4
    have zH : u3.heap.size < u4.heap.size := by omega
    have zW : w.heap.size < u4.heap.size := Nat.lt_of_lt_of_le zC K4.out.size
    clear k4 HB
    clear h1 h2 h3 h4 h5 h6 h7 h8 O
    have sh1 := SH.out
    have sh2 := SH2.out
    have sh3 := SH3.out
    have K5 := hid (K3.out.alloc (.cells #[.string t0, .int .u8 x0k, .int .i64 H.map, .bool H.ram, .bool H.bat, .bool H.clk, .int .i64 BK, .int .i64 H.size, .int .u8 SV, .int .u16 WO] 26))
    have gz : g < u4.heap.size := Nat.lt_of_lt_of_le (ownB_lt OW.out).2 K4.out.size
    have cb := fun n => CB.out (u4.drewN n) K4.out.drewN
    have KK := hid (K2.out.trans K4.out)
    by_cases hcp : cp = 336
    · obtain rfl : LZ = 0 := by omega
      subst hcp
      have ca := fun n => CA.out (u4.drewN n) K4.out.drewN
      have ca0 := fun n => conv_nil0 (u4.drewN n) ⟨g, 0, none⟩ z0 hLZ
      have PW := hid (fun n => P3.out (u4.drewN n) K4.out.drewN)
      generalize strB z0 = SZ at *
      clear SH SH2 SH3 P1 P2 P3 CA CB RW OW O1 A S
      go_wp2_with fail
      go_quiet ((go_at_call 14; exact Calls.quiet_of_same (PW.out _)))
      go_wp2
      go_ret
      exact ⟨rfl, KK.out.drewN⟩
    · have hc3 : (336 : Int) ≠ (cp : Int) := by omega
      have hc4 : (336 : Int) < (cp : Int) := by omega
      have ca := fun n => CA.out (u4.drewN n) K4.out.drewN
      rw [ownB_add] at ca
      have PW := hid (fun n => P3.out (u4.drewN n) K4.out.drewN)
      generalize strB z0 = SZ at *
      clear SH SH2 SH3 P1 P2 P3 CA CB RW OW O1 A S
      go_wp2_with fail
      go_quiet ((go_at_call 14; exact Calls.quiet_of_same (PW.out _)))
      go_wp2
      go_ret
      exact ⟨rfl, KK.out.drewN⟩
  · have hE2 : (E != 0) = true := by simpa using hE
    obtain rfl := ON.out hE
    obtain ⟨a, cp, rfl⟩ := own_any O1.out
    go_wp2
    go_ret
    exact ⟨rfl, K2.out⟩

set_option maxRecDepth 100000 in
theorem contract (H : Type) (enc : TypeId × Value → H) (fi : Stop.Interp) (W : World) (base : Nat) (args : Array Value) (ds gs : List (DataW H)) (before : List MemPlace)
    (hval : ∀ (j : Nat) t v, Tryd.f6.params[j]? = some t → args[j]? = some v → Value.okWide Tryd.prog W .any base t v)
    (hW : DataW.Whole enc Tryd.prog Tryd.f6.params.toList (OpenSpec.ofChange Rows.headerBackSpec).vars false W args.toList ds gs before)
    (hk0 : ∀ k, (OpenSpec.ofChange Rows.headerBackSpec).cond = some k → k H (ds ++ gs) = true)
    (hsz0 : (DataW.weightsEach Tryd.prog (Tryd.f6.params.toList ++ (OpenSpec.ofChange Rows.headerBackSpec).bare.plain.varTypes Tryd.prog) (ds ++ gs)).all (· ≤ reachBytes) = true) (hL : laidMetH Tryd.prog Rows.headerBackRow.laid W) :
    Calls Tryd.prog 6 args W fun e W' => ∃ v, e = .returned v ∧ ((OpenSpec.ofChange Rows.headerBackSpec).at fi).post enc Tryd.prog Tryd.f6 false true false false W args v W' := by
  have hW' := hW
  obtain ⟨p, q, hA0, hV, rfl, hfz, hnd⟩ := hW
  have hA : DataW.TrodAll enc Tryd.prog W 0 (fun _ => true) true Tryd.f6.params.toList args.toList ds p := hA0
  rw [Tryd.params6] at hA hval
  obtain ⟨v0, vs0, d0, ds0, p0, q0, hargs, rfl, rfl, h0, r0x⟩ := trodAll_cons hA
  obtain ⟨rfl, rfl, rfl⟩ := trodAll_nil r0x
  obtain rfl : args = #[v0] := by cases args; simp_all
  obtain ⟨rfl, rfl⟩ := trodVars_none hV
  have hsz : (DataW.weightsEach Tryd.prog [39] [d0]).all (· ≤ reachBytes) = true := by
    have q := hsz0
    rw [show Tryd.f6.params.toList ++ (OpenSpec.ofChange Rows.headerBackSpec).bare.plain.varTypes Tryd.prog = [39] by kernel_rfl] at q
    simpa using q
  have k0 := h0
  have lt0 : ∀ x ∈ p0, x.block < W.heap.size := by obtain ⟨m, hm⟩ := k0; exact DataW.trod_lt m _ _ _ hm
  obtain ⟨t0, x0k, x0r, x0m, a0, cap0, z0, rfl, s0, w0k, w0r, w0m, r0, l0, m0, n0, b0x⟩ := open_wish (hval 0 39 v0 rfl rfl) h0
  have b0 := b0x (sized_part hsz (j := 0) (t := 39) rfl rfl)
  clear hA0
  refine (walk t0 x0k x0r x0m a0 cap0 z0 W s0 w0k w0r w0m r0 l0 m0 n0 b0 (of_laid hL)).mono fun e W' ⟨he, hg⟩ => ?_
  subst he
  exact ⟨_, rfl, _, _, _, [], _, [], hW', trodAll_mk1 (shut_bool Tryd.underlying4 _), (trodAll_cons_mk (Kept.trod laidOut (by kernel_rfl) (of_decide_eq_true (by kernel_rfl)) k0 hg lt0) trodAll_mk0), rfl, hg.frame _, fun h => by cases h⟩
theorem reads (os : Os) {H : Type} (enc : TypeId × Value → H) : ∃ places, DataW.whole enc Tryd.prog ((World.laidAll Tryd.prog os Rows.headerParsesRow.laid).forCall (fun _ _ => 0) ⟨#[], #[.agg #[.string ByteArray.empty, .int .u8 0, .int .u8 0, .int .u8 0, .slice none 0 0]], []⟩).memory Tryd.f6.params.toList (OpenSpec.ofChange Rows.headerBackSpec).vars false #[.agg #[.string ByteArray.empty, .int .u8 0, .int .u8 0, .int .u8 0, .slice none 0 0]].toList 8 = some ([.agg [.lit (.string []), .lit (.int .u8 0), .lit (.int .u8 0), .lit (.int .u8 0), .nil]], [], places) :=
  ⟨[], by kernel_rfl⟩
set_option maxRecDepth 100000 in
theorem lifted (os : Os) (started : os.Started) (H : Type) (enc : TypeId × Value → H) (fi : Stop.Interp) :
    ReturnsInHanded {} Tryd.checked os 6 .any ((OpenSpec.ofChange Rows.headerBackSpec).preRow enc Tryd.prog Tryd.f6 Rows.headerBackRow.domain false Rows.headerBackRow.laid) (((OpenSpec.ofChange Rows.headerBackSpec).at fi).post enc Tryd.prog Tryd.f6 false true false false) := by
  obtain ⟨places, hx⟩ := reads os enc
  refine returnsInHanded_of_row (C := Tryd.checked) (s := (OpenSpec.ofChange Rows.headerBackSpec)) own started (by kernel_rfl) Tryd.func6
    (witness_row_atRef (enc := enc) (C := Tryd.checked) false (World.laidAll Tryd.prog os Rows.headerParsesRow.laid) #[.agg #[.string ByteArray.empty, .int .u8 0, .int .u8 0, .int .u8 0, .slice none 0 0]] (World.laidAll_os _ _ _) (by kernel_rfl) (by kernel_rfl) (by kernel_rfl)
      (OpenSpec.preRow_of_cond 8 hx (by kernel_rfl) (fun k hk => by cases hk) (by kernel_rfl) (start_met os _))) ?_
  intro W base args ds gs before hval hW _ hk hsz hL _ _
  exact contract H enc fi W base args ds gs before hval hW hk hsz hL
theorem said : Rows.HeaderBackSaid :=
  OpenClaim.holds_of_cond 6 Tryd.f6 rfl rfl rfl rfl rfl rfl rfl ⟨rfl, rfl, rfl, rfl, rfl⟩ rfl rfl rfl rfl rfl (by kernel_rfl) Tryd.func6 (by kernel_rfl)
    (of_decide_eq_true (by kernel_rfl)) (by unfold Func.isWrapper; first | (rw [if_pos (by decide +kernel)]; kernel_rfl) | (rw [if_neg (by decide +kernel)]; exact ⟨rfl, rfl⟩))
    (fun os started H enc _ fi => by rw [OpenClaim.pre_eq_preRow]; exact lifted os started H enc fi)
theorem plain (f : FuncId) (fn : Func) (hf : Tryd.pinned.checked.prog.funcNamed Rows.headerBackRow.func = some f) (hfn : Tryd.pinned.checked.prog.funcs[f]? = some fn) :
    true = Tryd.pinned.checked.prog.looks [] ∧ ∀ (j : Nat) t, fn.params[j]? = some t → Tryd.pinned.checked.prog.wantsStandIn t = false := by
  obtain rfl : f = 6 := Option.some.inj ((show Tryd.prog.funcNamed Rows.headerBackRow.func = some 6 by kernel_rfl).symm.trans hf) |>.symm
  obtain rfl : fn = Tryd.f6 := (Option.some.inj (Tryd.func6.symm.trans hfn)).symm
  refine ⟨by kernel_rfl, fun j t ht => ?_⟩
  rw [Tryd.params6] at ht
  have hm : t ∈ [39] := by simpa using Array.mem_of_getElem? ht
  have hall : ([39].all fun u => !Tryd.prog.wantsStandIn u) = true := by kernel_rfl
  exact (show Tryd.prog.wantsStandIn t = false by simpa using List.all_eq_true.1 hall t hm)
theorem card : Rows.HeaderBackCardSaid :=
  Claim7.holds_tied_plain_at .later [] _ _ _ _ said (fun _ h => by cases h) (by kernel_rfl) (fun _ h => by cases h) headerBack_row_tie rfl ⟨rfl, rfl⟩ (by kernel_rfl) rfl plain (by kernel_rfl)
end Go.Proofs.YtfmehkaojfjdjaaDoor.headerBack
namespace Go.Proofs.YtfmehkaojfjdjaaDoor
theorem headerBack_holds : Rows.HeaderBackCardSaid := headerBack.card
end Go.Proofs.YtfmehkaojfjdjaaDoor
