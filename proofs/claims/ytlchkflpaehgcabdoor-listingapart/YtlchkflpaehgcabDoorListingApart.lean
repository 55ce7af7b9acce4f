/- For every two slices of bytes the lines of what they begin with are the same just if the bytes of these instructions are. No condition. -/
import Derived.Test.YtlchkflpaehgcabDoorRows
import Derived.WalkKit
import Derived.ProofKit
import Derived.OpenShut
import Derived.ShutString
import Derived.ChangeOld
import Derived.Deep.RegionHeld3
import Derived.Deep.DeepCutAuto
import Derived.LaidMore
import Derived.Stop.Joined
import Derived.SevenTiedAt
import Derived.Deep.DeepHandedRow
import Derived.Deep.DeepWitnessRowRef
import Derived.SizedLaws
import Derived.SliceStrings
import Derived.Test.YtlchkflpaehgcabDoorCards
import Derived.Test.YtlchkflpaehgcabDoorTie
import Derived.Test.YtlchkflpaehgcabDoorCc
import Derived.Test.YtlchkflpaehgcabDoorDc
import Derived.Test.YtlchkflpaehgcabDoorDd
namespace Go.Proofs.YtlchkflpaehgcabDoor.listingApart
open Go.ChangeShapes Go.WideShapes Go.ChangeAt Go.RowKit
open Go.ChangeMaps (open_string shut_string)
set_option linter.unusedVariables false

theorem own : ownKnob Tryd.prog.godebug = none := by kernel_rfl
theorem laidOut : laidOutB Tryd.prog = true := by kernel_rfl
theorem row_take {w : World} {a : Option Addr} {z : List Int} (n : Nat) (h : Row w a z) : Row w a (z.take n) := by
  obtain ⟨h1, h2, h3⟩ := h
  refine ⟨by rw [List.length_take]; omega, fun y hy => h2 y (List.mem_of_mem_take hy), ?_⟩
  rcases h3 with h3 | ⟨x, e, hx, hc⟩
  · exact .inl (by rw [h3]; simp)
  · refine .inr ⟨x, e, hx, fun i hi => ?_⟩
    rw [List.length_take] at hi
    rw [hc i (by omega), List.getD_eq_getElem?_getD, List.getD_eq_getElem?_getD, List.getElem?_take_of_lt (by omega)]
theorem str_inj (a b : List Int) (ha : ∀ y ∈ a, InByte y) (hb : ∀ y ∈ b, InByte y) (h : strOf a = strOf b) : a = b := by rw [← bytN_str a ha, ← bytN_str b hb, h]
theorem bq (a b c d : ByteArray) (h : a = b ↔ c = d) : (c.toList == d.toList) = (a.toList == b.toList) := by
  by_cases q : a = b
  · rw [q, h.1 q]; simp
  · rw [bq_no q, bq_no (fun e => q (h.2 e))]
theorem oneN_nat (z : List Int) (h : ∀ y ∈ z, InByte y) : ∃ n : Nat, oneN z = (n : Int) ∧ n ≤ z.length ∧ (0 < n ↔ 0 < z.length) := by
  cases z with
  | nil => exact ⟨0, rfl, Nat.le_refl _, Iff.rfl⟩
  | cons b l =>
    have q := oneN_bd (b :: l) h (by simp)
    refine ⟨(oneN (b :: l)).toNat, by omega, by omega, ?_⟩
    simp only [List.length_cons] at *
    omega

set_option maxRecDepth 100000 in
set_option maxHeartbeats 8000000 in
theorem walk (a0 : Option Addr) (cap0 : Nat) (z0 : List Int) (a1 : Option Addr) (cap1 : Nat) (z1 : List Int) (w : World) (r0 : Row w a0 z0) (l0 : z0.length ≤ cap0) (m0 : cap0 ≤ maxLen) (b0 : z0.length ≤ 140737488355328) (r1 : Row w a1 z1) (l1 : z1.length ≤ cap1) (m1 : cap1 ≤ maxLen) (b1 : z1.length ≤ 140737488355328) (lay : Lay w) :
    Calls Tryd.prog 3 #[.slice a0 z0.length cap0, .slice a1 z1.length cap1] w fun e w' => e = .returned (.bool true) ∧ Kept w w' := by
  obtain ⟨N0, hN0, n0l, n0z⟩ := oneN_nat z0 r0.2.1
  obtain ⟨N1, hN1, n1l, n1z⟩ := oneN_nat z1 r1.2.1
  obtain ⟨S0, hS0⟩ : ∃ v, oneS z0 = v := ⟨_, rfl⟩
  obtain ⟨S1, hS1⟩ : ∃ v, oneS z1 = v := ⟨_, rfl⟩
  obtain ⟨T0, hT0⟩ : ∃ v, strOf (z0.take N0) = v := ⟨_, rfl⟩
  obtain ⟨T1, hT1⟩ : ∃ v, strOf (z1.take N1) = v := ⟨_, rfl⟩
  have TT : (T0.toList == T1.toList) = (S0.toList == S1.toList) := by
    refine bq S0 S1 T0 T1 ?_
    rw [← hS0, ← hS1, ← hT0, ← hT1]
    have ai := apart_iff z0 z1 r0.2.1 r1.2.1
    rw [hN0, hN1] at ai
    rw [ai]
    simp only [Int.toNat_natCast]
    exact ⟨fun e => by rw [e], fun e => str_inj _ _ (fun y hy => r0.2.1 y (List.mem_of_mem_take hy)) (fun y hy => r1.2.1 y (List.mem_of_mem_take hy)) e⟩
  have C0 := hid (fun u (r : Row u a0 z0) h => lone_any z0 a0 cap0 u r l0 m0 h)
  have C1 := hid (fun u (r : Row u a1 z1) h => lone_any z1 a1 cap1 u r l1 m1 h)
  rw [hS0, hN0] at C0
  rw [hS1, hN1] at C1
  have V0 := hid (fun u (r : Row u a0 z0) => show (convert 22 9 (.slice a0 N0 cap0)).run Tryd.prog u = .ok (.string T0) u by
    have q := conv_any (cap := cap0) (row_take N0 r)
    rw [List.length_take, Nat.min_eq_left n0l, hT0] at q
    exact q)
  have V1 := hid (fun u (r : Row u a1 z1) => show (convert 22 9 (.slice a1 N1 cap1)).run Tryd.prog u = .ok (.string T1) u by
    have q := conv_any (cap := cap1) (row_take N1 r)
    rw [List.length_take, Nat.min_eq_left n1l, hT1] at q
    exact q)
  have R0 := hid r0
  have R1 := hid r1
  obtain ⟨LN0, hL0⟩ : ∃ n, z0.length = n := ⟨_, rfl⟩
  obtain ⟨LN1, hL1⟩ : ∃ n, z1.length = n := ⟨_, rfl⟩
  rw [hL0] at C0 n0l n0z l0
  rw [hL1] at C1 n1l n1z l1
  rw [hL0, hL1]
  have p0 : ¬ ((LN0 : Int) < (N0 : Int)) := by omega
  have p1 : ¬ ((LN1 : Int) < (N1 : Int)) := by omega
  have p2 : ¬ ((N0 : Int) < 0) := by omega
  have p3 : ¬ ((N1 : Int) < 0) := by omega
  have c0 : (N0 : Int) ≤ (cap0 : Int) := by omega
  have c1 : (N1 : Int) ≤ (cap1 : Int) := by omega
  have x0 : (cap0 : Int) ≤ 9223372036854775807 := by unfold maxLen at m0; omega
  have x1 : (cap1 : Int) ≤ 9223372036854775807 := by unfold maxLen at m1; omega
  have D0 := hid (show (decide (0 < N0) == decide (0 < LN0)) = true by
    by_cases q : 0 < N0
    · rw [decide_eq_true q, decide_eq_true (n0z.1 q)]; rfl
    · rw [decide_eq_false q, decide_eq_false (fun h => q (n0z.2 h))]; rfl)
  clear hS0 hS1 hT0 hT1 hN0 hN1 hL0 hL1 n0z n1z r0 r1 b0 b1
  go_enter Tryd.func3, Tryd.ntmps3
  go_wp2_with fail
  refine (shown6_any _ lay).mono ?_
  rintro e u1 ⟨rfl, g1⟩
  have K1 := hid g1
  clear g1
  go_wp2_with fail
  refine (C0.out _ (row_kept K1.out R0.out) (lay.kept K1.out)).mono ?_
  rintro e u2 ⟨rfl, g2⟩
  have K2 := hid (K1.out.trans g2)
  clear g2
  go_wp2_with fail
  refine (C1.out _ (row_kept K2.out R1.out) (lay.kept K2.out)).mono ?_
  rintro e u3 ⟨rfl, g3⟩
  have K3 := hid (K2.out.trans g3)
  clear g3
  have cv0 : ∀ n, (convert 22 9 (.slice a0 N0 cap0)).run Tryd.prog (u3.drewN n) = .ok (.string T0) (u3.drewN n) := fun n => V0.out _ (row_kept (K3.out.drewN (n := n)) R0.out)
  have cv1 : ∀ n, (convert 22 9 (.slice a1 N1 cap1)).run Tryd.prog (u3.drewN n) = .ok (.string T1) (u3.drewN n) := fun n => V1.out _ (row_kept (K3.out.drewN (n := n)) R1.out)
  go_wp2
  go_quiet (fail)
  go_wp2
  go_ret
  exact ⟨ret_bool D0.out, K3.out.drewN⟩

set_option maxRecDepth 100000 in
theorem contract (H : Type) (enc : TypeId × Value → H) (fi : Stop.Interp) (W : World) (base : Nat) (args : Array Value) (ds gs : List (DataW H)) (before : List MemPlace)
    (hval : ∀ (j : Nat) t v, Tryd.f3.params[j]? = some t → args[j]? = some v → Value.okWide Tryd.prog W .any base t v)
    (hW : DataW.Whole enc Tryd.prog Tryd.f3.params.toList (OpenSpec.ofChange Rows.listingApartSpec).vars false W args.toList ds gs before)
    (hk0 : ∀ k, (OpenSpec.ofChange Rows.listingApartSpec).cond = some k → k H (ds ++ gs) = true)
    (hsz0 : (DataW.weightsEach Tryd.prog (Tryd.f3.params.toList ++ (OpenSpec.ofChange Rows.listingApartSpec).bare.plain.varTypes Tryd.prog) (ds ++ gs)).all (· ≤ reachBytes) = true) (hL : laidMetH Tryd.prog Rows.listingApartRow.laid W) :
    Calls Tryd.prog 3 args W fun e W' => ∃ v, e = .returned v ∧ ((OpenSpec.ofChange Rows.listingApartSpec).at fi).post enc Tryd.prog Tryd.f3 false true false false W args v W' := by
  have hW' := hW
  obtain ⟨p, q, hA0, hV, rfl, hfz, hnd⟩ := hW
  have hA : DataW.TrodAll enc Tryd.prog W 0 (fun _ => true) true Tryd.f3.params.toList args.toList ds p := hA0
  rw [Tryd.params3] at hA hval
  obtain ⟨v0, vs0, d0, ds0, p0, q0, hargs, rfl, rfl, h0, r0x⟩ := trodAll_cons hA
  obtain ⟨v1, vs1, d1, ds1, p1, q1, rfl, rfl, rfl, h1, r1x⟩ := trodAll_cons r0x
  obtain ⟨rfl, rfl, rfl⟩ := trodAll_nil r1x
  obtain rfl : args = #[v0, v1] := by cases args; simp_all
  obtain ⟨rfl, rfl⟩ := trodVars_none hV
  have hsz : (DataW.weightsEach Tryd.prog [22, 22] [d0, d1]).all (· ≤ reachBytes) = true := by
    have q := hsz0
    rw [show Tryd.f3.params.toList ++ (OpenSpec.ofChange Rows.listingApartSpec).bare.plain.varTypes Tryd.prog = [22, 22] by kernel_rfl] at q
    simpa using q
  obtain ⟨a0, len0, cap0, rfl⟩ := okWide_slice Tryd.underlying22 (hval 0 22 v0 rfl rfl)
  have k0 := h0
  have lt0 : ∀ x ∈ p0, x.block < W.heap.size := by obtain ⟨m, hm⟩ := k0; exact DataW.trod_lt m _ _ _ hm
  obtain ⟨z0, rfl, r0, l0, m0, b0⟩ : ∃ zs : List Int, len0 = zs.length ∧ Row W a0 zs ∧ zs.length ≤ cap0 ∧ cap0 ≤ maxLen ∧ zs.length ≤ 140737488355328 := by
    obtain ⟨fuel, hf⟩ := h0
    rcases open_ints Tryd.underlying22 Tryd.underlying5 (by kernel_rfl) hf with ⟨hcs, hx⟩ | ⟨x, l, c, zs, hcs, hb, hl, hm, hz, hx, hcell, hwz⟩
    · simp [Value.cells] at hcs
      obtain ⟨rfl, rfl, rfl⟩ := hcs
      exact ⟨[], rfl, row_nil W none, by simp, by simp, by simp⟩
    · simp [Value.cells] at hcs
      obtain ⟨rfl, rfl, rfl⟩ := hcs
      simp only [if_true] at hz
      obtain ⟨hd, hp⟩ := Prod.mk.inj hx
      have tk : (zs.take len0).length = len0 := by rw [List.length_take, hz]; omega
      have sz := sized_slice (j := 0) (t := 22) (e := 5) hsz rfl (by rw [hd]; rfl) Tryd.underlying22
      rw [show Tryd.prog.bytesOf 5 = 1 by kernel_rfl] at sz
      have rl : reachBytes = 140737488351232 := rfl
      simp only [lits, List.length_map, tk] at sz
      refine ⟨zs.take len0, tk.symm, row_of (by omega) hcell (fun z hz => bounds_u8 (hwz z hz)) (by omega), by omega, hm, by omega⟩

  obtain ⟨a1, len1, cap1, rfl⟩ := okWide_slice Tryd.underlying22 (hval 1 22 v1 rfl rfl)
  have k1 := h1
  have lt1 : ∀ x ∈ p1, x.block < W.heap.size := by obtain ⟨m, hm⟩ := k1; exact DataW.trod_lt m _ _ _ hm
  obtain ⟨z1, rfl, r1, l1, m1, b1⟩ : ∃ zs : List Int, len1 = zs.length ∧ Row W a1 zs ∧ zs.length ≤ cap1 ∧ cap1 ≤ maxLen ∧ zs.length ≤ 140737488355328 := by
    obtain ⟨fuel, hf⟩ := h1
    rcases open_ints Tryd.underlying22 Tryd.underlying5 (by kernel_rfl) hf with ⟨hcs, hx⟩ | ⟨x, l, c, zs, hcs, hb, hl, hm, hz, hx, hcell, hwz⟩
    · simp [Value.cells] at hcs
      obtain ⟨rfl, rfl, rfl⟩ := hcs
      exact ⟨[], rfl, row_nil W none, by simp, by simp, by simp⟩
    · simp [Value.cells] at hcs
      obtain ⟨rfl, rfl, rfl⟩ := hcs
      simp only [if_true] at hz
      obtain ⟨hd, hp⟩ := Prod.mk.inj hx
      have tk : (zs.take len1).length = len1 := by rw [List.length_take, hz]; omega
      have sz := sized_slice (j := 1) (t := 22) (e := 5) hsz rfl (by rw [hd]; rfl) Tryd.underlying22
      rw [show Tryd.prog.bytesOf 5 = 1 by kernel_rfl] at sz
      have rl : reachBytes = 140737488351232 := rfl
      simp only [lits, List.length_map, tk] at sz
      refine ⟨zs.take len1, tk.symm, row_of (by omega) hcell (fun z hz => bounds_u8 (hwz z hz)) (by omega), by omega, hm, by omega⟩

  clear hA0
  refine (walk a0 cap0 z0 a1 cap1 z1 W r0 l0 m0 b0 r1 l1 m1 b1 (of_laid hL)).mono fun e W' ⟨he, hg⟩ => ?_
  subst he
  exact ⟨_, rfl, _, _, _, [], _, [], hW', trodAll_mk1 (shut_bool Tryd.underlying4 _), (trodAll_cons_mk (Kept.trod laidOut (by kernel_rfl) (of_decide_eq_true (by kernel_rfl)) k0 hg lt0) (trodAll_cons_mk (Kept.trod laidOut (by kernel_rfl) (of_decide_eq_true (by kernel_rfl)) k1 hg lt1) trodAll_mk0)), rfl, hg.frame _, fun h => by cases h⟩
theorem reads (os : Os) {H : Type} (enc : TypeId × Value → H) : ∃ places, DataW.whole enc Tryd.prog ((World.laidAll Tryd.prog os Rows.listingApartRow.laid).forCall (fun _ _ => 0) ⟨#[], #[.slice none 0 0, .slice none 0 0], []⟩).memory Tryd.f3.params.toList (OpenSpec.ofChange Rows.listingApartSpec).vars false #[.slice none 0 0, .slice none 0 0].toList 8 = some ([.nil, .nil], [], places) :=
  ⟨[], by kernel_rfl⟩
set_option maxRecDepth 100000 in
theorem lifted (os : Os) (started : os.Started) (H : Type) (enc : TypeId × Value → H) (fi : Stop.Interp) :
    ReturnsInHanded {} Tryd.checked os 3 .any ((OpenSpec.ofChange Rows.listingApartSpec).preRow enc Tryd.prog Tryd.f3 Rows.listingApartRow.domain false Rows.listingApartRow.laid) (((OpenSpec.ofChange Rows.listingApartSpec).at fi).post enc Tryd.prog Tryd.f3 false true false false) := by
  obtain ⟨places, hx⟩ := reads os enc
  refine returnsInHanded_of_row (C := Tryd.checked) (s := (OpenSpec.ofChange Rows.listingApartSpec)) own started (by kernel_rfl) Tryd.func3
    (witness_row_atRef (enc := enc) (C := Tryd.checked) false (World.laidAll Tryd.prog os Rows.listingApartRow.laid) #[.slice none 0 0, .slice none 0 0] (World.laidAll_os _ _ _) (by kernel_rfl) (by kernel_rfl) (by kernel_rfl)
      (OpenSpec.preRow_of_cond 8 hx (by kernel_rfl) (fun k hk => by cases hk) (by kernel_rfl) (start_met os _))) ?_
  intro W base args ds gs before hval hW _ hk hsz hL _ _
  exact contract H enc fi W base args ds gs before hval hW hk hsz hL
theorem said : Rows.ListingApartSaid :=
  OpenClaim.holds_of_cond 3 Tryd.f3 rfl rfl rfl rfl rfl rfl rfl ⟨rfl, rfl, rfl, rfl, rfl⟩ rfl rfl rfl rfl rfl (by kernel_rfl) Tryd.func3 (by kernel_rfl)
    (of_decide_eq_true (by kernel_rfl)) (by unfold Func.isWrapper; first | (rw [if_pos (by decide +kernel)]; kernel_rfl) | (rw [if_neg (by decide +kernel)]; exact ⟨rfl, rfl⟩))
    (fun os started H enc _ fi => by rw [OpenClaim.pre_eq_preRow]; exact lifted os started H enc fi)
theorem plain (f : FuncId) (fn : Func) (hf : Tryd.pinned.checked.prog.funcNamed Rows.listingApartRow.func = some f) (hfn : Tryd.pinned.checked.prog.funcs[f]? = some fn) :
    false = Tryd.pinned.checked.prog.looks [] ∧ ∀ (j : Nat) t, fn.params[j]? = some t → Tryd.pinned.checked.prog.wantsStandIn t = false := by
  obtain rfl : f = 3 := Option.some.inj ((show Tryd.prog.funcNamed Rows.listingApartRow.func = some 3 by kernel_rfl).symm.trans hf) |>.symm
  obtain rfl : fn = Tryd.f3 := (Option.some.inj (Tryd.func3.symm.trans hfn)).symm
  refine ⟨by kernel_rfl, fun j t ht => ?_⟩
  rw [Tryd.params3] at ht
  have hm : t ∈ [22, 22] := by simpa using Array.mem_of_getElem? ht
  have hall : ([22, 22].all fun u => !Tryd.prog.wantsStandIn u) = true := by kernel_rfl
  exact (show Tryd.prog.wantsStandIn t = false by simpa using List.all_eq_true.1 hall t hm)
theorem card : Rows.ListingApartCardSaid :=
  Claim7.holds_tied_plain_at .later [] _ _ _ _ said (fun _ h => by cases h) (by kernel_rfl) (fun _ h => by cases h) listingApart_row_tie rfl ⟨rfl, rfl⟩ (by kernel_rfl) rfl plain (by kernel_rfl)
end Go.Proofs.YtlchkflpaehgcabDoor.listingApart
namespace Go.Proofs.YtlchkflpaehgcabDoor
theorem listingApart_holds : Rows.ListingApartCardSaid := listingApart.card
end Go.Proofs.YtlchkflpaehgcabDoor
