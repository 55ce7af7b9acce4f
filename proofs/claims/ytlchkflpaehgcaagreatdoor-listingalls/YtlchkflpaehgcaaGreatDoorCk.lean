/- What form and Text of the document's answers of layer 6 come to. What One of the document's answers of layer 6 comes to. What Lines of the document's answers of layer 6 comes to. -/
import Derived.Test.YtlchkflpaehgcaaGreatDoorCj
import Derived.Test.YtlchkflpaehgcaaGreatDoorCg
import Derived.Test.YtlchkflpaehgcaaGreatDoorCi
import Derived.Deep.RegionHeld3
import Derived.Test.YtlchkflpaehgcaaGreatDoorCb
namespace Go.Proofs.YtlchkflpaehgcaaGreatDoor
open Go.RowKit
set_option linter.unusedVariables false
set_option linter.unusedSimpArgs false

def fOf (op : Int) (cb : Bool) : Fm := if cb then cbOf op else decOf op
theorem form6_any (op : Int) (cb : Bool) (w : World) (h0 : 0 ≤ op) (h1 : op ≤ 255) : Calls Tryz.prog 20 #[.int .u8 op, .bool cb] w fun e w' => e = .returned (.agg #[.int .i64 (fOf op cb).kind, .int .i64 (fOf op cb).x, .int .i64 (fOf op cb).y, .int .i64 (fOf op cb).bytes, .int .i64 (fOf op cb).cycles, .int .i64 (fOf op cb).taken]) ∧ Grown w w' := by
  cases cb
  · go_enter Tryz.func20, Tryz.ntmps20
    go_wp2_with fail
    refine (rdecode_any _ _ h0 h1).mono ?_
    rintro e uz ⟨rfl, gz⟩
    have GG := hid (grown_trans (alloc1 w _ _) gz)
    obtain ⟨zA, cA⟩ := has_grown gz (has_alloc w _ _)
    have fA := fun o => grown_froz GG.out (Nat.le_refl w.heap.size) o
    have a0 := cA 0
    have a1 := cA 1
    have a2 := cA 2
    have a3 := cA 3
    have a4 := cA 4
    have a5 := cA 5
    simp at a0 a1 a2 a3 a4 a5
    clear cA
    go_wp2
    exact bodyPost_ret (v := .agg #[.int .i64 (decOf op).kind, .int .i64 (decOf op).x, .int .i64 (decOf op).y, .int .i64 (decOf op).bytes, .int .i64 (decOf op).cycles, .int .i64 (decOf op).taken]) (by simp [results, Tryz.results20, go_sem, a0, a1, a2, a3, a4, a5, zA]) rfl ⟨rfl, (((((GG.out.setCell (Nat.le_refl _) _).setCell (Nat.le_refl _) _).setCell (Nat.le_refl _) _).setCell (Nat.le_refl _) _).setCell (Nat.le_refl _) _).setCell (Nat.le_refl _) _⟩
  · go_enter Tryz.func20, Tryz.ntmps20
    go_wp2_with fail
    refine (rdecodeCB_any _ _ h0 h1).mono ?_
    rintro e uz ⟨rfl, gz⟩
    have GG := hid (grown_trans (alloc1 w _ _) gz)
    obtain ⟨zA, cA⟩ := has_grown gz (has_alloc w _ _)
    have fA := fun o => grown_froz GG.out (Nat.le_refl w.heap.size) o
    have a0 := cA 0
    have a1 := cA 1
    have a2 := cA 2
    have a3 := cA 3
    have a4 := cA 4
    have a5 := cA 5
    simp at a0 a1 a2 a3 a4 a5
    clear cA
    go_wp2
    exact bodyPost_ret (v := .agg #[.int .i64 (cbOf op).kind, .int .i64 (cbOf op).x, .int .i64 (cbOf op).y, .int .i64 (cbOf op).bytes, .int .i64 (cbOf op).cycles, .int .i64 (cbOf op).taken]) (by simp [results, Tryz.results20, go_sem, a0, a1, a2, a3, a4, a5, zA]) rfl ⟨rfl, (((((GG.out.setCell (Nat.le_refl _) _).setCell (Nat.le_refl _) _).setCell (Nat.le_refl _) _).setCell (Nat.le_refl _) _).setCell (Nat.le_refl _) _).setCell (Nat.le_refl _) _⟩
def isLet (c : Nat) : Bool := decide (97 ≤ c) && decide (c ≤ 122)
def patOk (f : Fm) : Bool := decide (0 ≤ f.kind) && decide (f.kind ≤ 46) && decide ((patT f.kind (f.x == 4)).length ≤ 12) && (patT f.kind (f.x == 4)).all (fun c => decide (c < 256) && (!isLet c || meansOk f c))
theorem patD_fin : ∀ a : Fin 256, patOk (decOf (a.val : Int)) = true := by decide +kernel
theorem patC_fin : ∀ a : Fin 256, patOk (cbOf (a.val : Int)) = true := by decide +kernel
theorem pat_ok (op : Int) (cb : Bool) (h0 : 0 ≤ op) (h1 : op ≤ 255) : patOk (fOf op cb) = true ∧ textT (fOf op cb) op (patT (fOf op cb).kind ((fOf op cb).x == 4)) = toksOf op cb := by
  cases cb
  · exact ⟨fin8 (p := fun a => patOk (decOf a) = true) patD_fin op h0 h1, fin8 (p := fun a => textT (decOf a) a (patT (decOf a).kind ((decOf a).x == 4)) = toksOf a false) lineD_fin op h0 h1⟩
  · exact ⟨fin8 (p := fun a => patOk (cbOf a) = true) patC_fin op h0 h1, fin8 (p := fun a => textT (cbOf a) a (patT (cbOf a).kind ((cbOf a).x == 4)) = toksOf a true) lineC_fin op h0 h1⟩
theorem means_len (f : Fm) (op : Int) (c : Nat) : (meansT f op c).length ≤ 5 := by
  unfold meansT
  split
  · exact (getD_all regL f.x.toNat (by decide)).2
  split
  · exact (getD_all regL f.y.toNat (by decide)).2
  split
  · exact (getD_all pairL f.x.toNat (by decide)).2
  split
  · exact (getD_all condL f.x.toNat (by decide)).2
  split
  · exact (getD_all quadL f.x.toNat (by decide)).2
  split
  · exact (getD_all operL f.x.toNat (by decide)).2
  split
  · exact (getD_all shiftL f.x.toNat (by decide)).2
  split
  · simp
  split
  · simp [hexT, hex8Of]
  split
  · simp [hexT, hex8Of]
  split <;> simp
theorem text_len (f : Fm) (op : Int) (l : List Nat) : (textT f op l).length ≤ 5 * l.length := by
  induction l with
  | nil => simp [textT]
  | cons a l ih =>
    have h : (signT f op a).length ≤ 5 := by
      unfold signT
      split
      · exact means_len f op a
      · simp
    simp only [textT, List.flatMap_cons, List.length_append, List.length_cons] at *
    omega
theorem sg_bs (l : List Nat) (k : Nat) (h : k < l.length) (hs : l[k] < 256) : sg (bs l) k = ((l[k] : Nat) : Int) := by
  unfold sg bs
  have h2 : k < (l.map UInt8.ofNat).length := by simpa using h
  rw [List.getD_eq_getElem?_getD]
  simp only [List.getElem?_eq_getElem h2, Option.getD_some, List.getElem_map]
  rw [UInt8.toNat_ofNat_of_lt' (by simpa using hs)]
theorem bs_size (l : List Nat) : (bs l).size = l.length := by simp [bs, ByteArray.size]
theorem bs_ext (l : List Nat) (k : Nat) (h : k < l.length) : (bs l).extract k (k + 1) = bs [l[k]] := by
  have h2 : k < (l.map UInt8.ofNat).length := by simpa using h
  apply ByteArray.ext
  apply Array.toList_inj.1
  rw [ByteArray.data_extract]
  simp [bs, List.extract]
  rw [List.drop_eq_getElem_cons h2]
  simp
theorem take_one (l : List Nat) (k : Nat) (h : k < l.length) : l.take (k + 1) = l.take k ++ [l[k]] := by
  rw [List.take_add_one, List.getElem?_eq_getElem h]; rfl
set_option maxRecDepth 100000 in
set_option maxHeartbeats 4000000 in
theorem rtext6_any (op : Int) (cb : Bool) (lo hi : Int) (w : World) (o0 : 0 ≤ op) (o1 : op ≤ 255) (p0 : 0 ≤ lo) (p1 : lo ≤ 255) (q0 : 0 ≤ hi) (q1 : hi ≤ 255) : Calls Tryz.prog 21 #[.int .u8 op, .bool cb, .int .u8 lo, .int .u8 hi] w fun e w' => e = .returned (.string (lineOf op cb lo hi)) ∧ Grown w w' := by
  obtain ⟨ok, tx⟩ := pat_ok op cb o0 o1
  obtain ⟨F, hF⟩ : ∃ F, fOf op cb = F := ⟨_, rfl⟩
  rw [hF] at ok tx
  have HF := hid hF
  clear hF
  obtain ⟨PL, hPL⟩ : ∃ l, patT F.kind (F.x == 4) = l := ⟨_, rfl⟩
  have HPB := hid (show patB F.kind (F.x == 4) = bs PL by unfold patB; rw [hPL])
  have HT := hid (show lineOf op cb lo hi = rB lo hi (textT F op PL) by unfold lineOf; rw [← tx, hPL])
  simp only [patOk, Bool.and_eq_true, decide_eq_true_eq, hPL] at ok
  obtain ⟨⟨⟨k0, k1⟩, ln⟩, al⟩ := ok
  have AL := hid (List.all_eq_true.1 al)
  obtain ⟨P, hP⟩ : ∃ P, bs PL = P := ⟨_, rfl⟩
  have hsz : P.size = PL.length := by rw [← hP]; exact bs_size PL
  have HP := hid hP
  have HSZ := hid hsz
  have p12 : P.size ≤ 12 := by omega
  have pmx : P.size ≤ maxLen := by unfold maxLen; omega
  clear al hPL tx hP ln hsz
  go_enter Tryz.func21, Tryz.ntmps21
  go_wp2_with fail
  refine (form6_any op cb _ o0 o1).mono ?_
  rintro e u1 ⟨rfl, g1⟩
  rw [HF.out]
  go_wp2_with fail
  refine (pattern_any F.kind (F.x == 4) _ k0 k1).mono ?_
  rintro e w' ⟨rfl, rfl⟩
  rw [HPB.out, HP.out]
  have G1 := hid g1
  clear g1
  go_wp2
  go_loopw [11, 12] (fun s i wr => ∃ k : Nat, k ≤ P.size ∧ s = .string (rB lo hi (textT F op (PL.take k))) ∧ i = .int .i64 (k : Int) ∧ Has wr u1.heap.size #[.int .i64 F.kind, .int .i64 F.x, .int .i64 F.y, .int .i64 F.bytes, .int .i64 F.cycles, .int .i64 F.taken] ∧ Grown w wr) (fun _ i _ => P.size - (intOf i).toNat)
  case atStart => exact ⟨0, Nat.zero_le _, rfl, rfl, has_alloc _ _ _, G1.out.alloc _ _⟩
  case round =>
    obtain ⟨k, hk, rfl, rfl, B, G⟩ := hrel
    have HB := hid B
    have GG := hid G
    obtain ⟨zB, cB⟩ := id B
    obtain ⟨S, hS⟩ : ∃ S, rB lo hi (textT F op (PL.take k)) = S := ⟨_, rfl⟩
    have sS : S.size ≤ 300 := by
      have h1 := rB_size lo hi (textT F op (PL.take k))
      have h2 := text_len F op (PL.take k)
      have h3 : (PL.take k).length ≤ k := by simp; omega
      rw [hS] at h1
      omega
    rw [hS]
    have HS := hid hS
    clear hS B G
    by_cases hlt : k < P.size
    · have hl2 : ((k : Int) < (P.size : Int)) := by omega
      have hl3 : k < PL.length := by rw [← HSZ.out]; exact hlt
      obtain ⟨c, hc⟩ : ∃ c : Nat, PL[k] = c := ⟨_, rfl⟩
      have ac := AL.out c (by rw [← hc]; exact List.getElem_mem hl3)
      simp only [Bool.and_eq_true, Bool.or_eq_true, decide_eq_true_eq] at ac
      obtain ⟨c256, cl⟩ := ac
      have ix := sign_run P k (c : Int) hlt (by rw [← HP.out, ← hc]; exact sg_bs PL k hl3 (by rw [hc]; exact c256))
      have TK := hid (show rB lo hi (textT F op (PL.take (k + 1))) = S ++ rB lo hi (signT F op c) by
        rw [take_one PL k hl3, hc, ← HS.out]
        simp [textT, rB_add])
      cases hcl : isLet c
      · have SG := hid (show rB lo hi (signT F op c) = P.extract k (k + 1) by
          rw [← HP.out, bs_ext PL k hl3, hc]
          unfold signT
          rw [if_neg (by intro h; simp [isLet, h.1, h.2] at hcl)]
          exact rB_plain lo hi [c] (by simp; exact c256))
        have sE : (P.extract k (k + 1)).size ≤ 1 := by rw [ByteArray.size_extract]; omega
        by_cases c97 : (97 : Int) ≤ (c : Int)
        · have c122 : ¬ (c : Int) ≤ 122 := by simp [isLet] at hcl; omega
          clear hcl cl hc AL
          go_wp2
          go_roundw
          case rel => exact ⟨k + 1, by omega, by rw [TK.out, SG.out], by go_num, HB.out, GG.out⟩
          case measure => first | omega | (simp; omega) | (simp [intOf]; omega)
        · clear hcl cl hc AL
          go_wp2
          go_roundw
          case rel => exact ⟨k + 1, by omega, by rw [TK.out, SG.out], by go_num, HB.out, GG.out⟩
          case measure => first | omega | (simp; omega) | (simp [intOf]; omega)
      · obtain ⟨c97, c122⟩ : (97 : Int) ≤ (c : Int) ∧ (c : Int) ≤ 122 := by simp [isLet] at hcl; omega
        have mo : meansOk F c = true := by
          rcases cl with h | h
          · simp [hcl] at h
          · exact h
        obtain ⟨M, hM⟩ : ∃ M, rB lo hi (meansT F op c) = M := ⟨_, rfl⟩
        have sM : M.size ≤ 25 := by
          have h1 := rB_size lo hi (meansT F op c)
          have h2 := means_len F op c
          rw [hM] at h1
          omega
        have SG := hid (show rB lo hi (signT F op c) = M by
          unfold signT
          rw [if_pos ⟨by omega, by omega⟩]
          exact hM)
        have HM := hid hM
        have MO := hid mo
        have hadd : ∀ u, (Op.stringOp .add S M).run Tryz.prog u = .ok (.string (S ++ M)) u := fun u => run_string_add_sum u S M (by omega)
        clear hcl cl hc AL hM mo
        go_wp2
        go_region_held3 (fun w' => u1.heap.size < w'.heap.size ∧ w'.cell? ⟨u1.heap.size, 0, none⟩ = some (.int .i64 F.kind) ∧ w'.cell? ⟨u1.heap.size, 1, none⟩ = some (.int .i64 F.x) ∧ w'.cell? ⟨u1.heap.size, 2, none⟩ = some (.int .i64 F.y) ∧ w'.cell? ⟨u1.heap.size, 3, none⟩ = some (.int .i64 F.bytes) ∧ w'.cell? ⟨u1.heap.size, 4, none⟩ = some (.int .i64 F.cycles) ∧ w'.cell? ⟨u1.heap.size, 5, none⟩ = some (.int .i64 F.taken)) (go_keep) (first | (go_at_call 36; refine (means_any F c op lo hi _ o0 o1 p0 p1 q0 q1 MO.out).mono ?_; rintro e v1 ⟨rfl, q1⟩; rw [HM.out]; have D1b0 := has_grown q1 HB.out; obtain ⟨zD1b0, cD1b0⟩ := id D1b0))
        go_wp2
        go_roundw
        case rel => exact ⟨k + 1, by omega, by rw [TK.out, SG.out], by go_num, D1b0, grown_trans GG.out.drew q1⟩
        case measure => first | omega | (simp; omega) | (simp [intOf]; omega)
    · obtain rfl : k = P.size := by omega
      have hl2 : ¬ ((P.size : Int) < (P.size : Int)) := by omega
      have EE := hid (show lineOf op cb lo hi = S by rw [HT.out, ← HS.out, HSZ.out, List.take_length])
      go_wp2
      go_ret
      exact ⟨by rw [EE.out]; rfl, GG.out⟩
end Go.Proofs.YtlchkflpaehgcaaGreatDoor
namespace Go.Proofs.YtlchkflpaehgcaaGreatDoor
open Go.RowKit
set_option linter.unusedVariables false
set_option linter.unusedSimpArgs false

set_option maxRecDepth 100000 in
set_option maxHeartbeats 4000000 in
theorem rone_any (zs : List Int) (a : Option Addr) (cap : Nat) (w : World) (row : Row w a zs) : Calls Tryz.prog 15 #[.slice a zs.length cap] w fun e w' => e = .returned (.tuple #[.string (oneS zs), .int .i64 (oneN zs)]) ∧ Grown w w' := by
  cases zs with
  | nil =>
    go_enter Tryz.func15, Tryz.ntmps15
    go_wp2
    go_ret2
    exact ⟨rfl, Grown.refl _⟩
  | cons b l =>
    obtain ⟨hm, hby, hx⟩ := row
    obtain ⟨x, rfl, hxb, hc⟩ : ∃ x : Addr, a = some x ∧ x.block < w.heap.size ∧ ∀ i, i < (b :: l).length → w.cell? (x.add i) = some (.int .u8 ((b :: l).getD i 0)) := by
      rcases hx with h | h
      · cases h
      · exact h
    clear hx
    obtain ⟨b0, b1⟩ := hby b (by simp)
    have c0 : w.cell? x = some (.int .u8 b) := hc 0 (by simp)
    obtain ⟨F, hF⟩ : ∃ F, fOf b false = F := ⟨_, rfl⟩
    have hF2 : decOf b = F := hF
    have HF := hid hF
    have hz : (hex8Of b).size = 2 := rfl
    have bo := bytes_of b b0 b1
    rw [hF2] at bo
    cases h6 : (F.kind == 6)
    · have h6p : ¬ (decOf b).kind = 6 := by rw [hF2]; simpa using h6
      obtain ⟨LN, hLN⟩ : ∃ n : Nat, l.length = n := ⟨_, rfl⟩
      have lmx : LN + 1 ≤ maxLen := by rw [← hLN]; simpa using hm
      have ln0 : (((LN + 1 : Nat) : Int) == 0) = false := by simp; omega
      rw [show (b :: l).length = LN + 1 by simp [hLN]]
      by_cases hlt : (LN : Int) + 1 < F.bytes
      · have ES := hid (show oneS (b :: l) = dbS b by simp only [oneS]; rw [if_neg h6p, if_pos (by rw [hLN, hF2]; exact hlt)])
        have EN := hid (show oneN (b :: l) = 1 by simp only [oneN]; rw [if_neg h6p, if_pos (by rw [hLN, hF2]; exact hlt)])
        clear hc hby hF hF2 hm h6p bo hLN
        go_enter Tryz.func15, Tryz.ntmps15
        go_wp2_with fail
        refine (form6_any b false _ b0 b1).mono ?_
        rintro e u1 ⟨rfl, g1⟩
        rw [HF.out]
        have G1 := hid g1
        have zx : x.block < u1.heap.size := Nat.lt_of_lt_of_le hxb g1.2.2
        have nx : x.block ≠ u1.heap.size := by omega
        have zx1 : x.block < u1.heap.size + 1 := by omega
        have d0 := (cell_grown g1 (x := x) hxb).trans c0
        clear g1
        go_wp2_with fail
        refine (rhex8_any b _ b0 b1).mono ?_
        rintro e w' ⟨rfl, rfl⟩
        go_wp2
        go_ret2
        exact ⟨by rw [ES.out, EN.out]; rfl, G1.out.alloc _ _⟩
      · rcases bo with bo | bo | bo
        · have ES := hid (show oneS (b :: l) = lineOf b false 0 0 by simp only [oneS]; rw [if_neg h6p, if_neg (by rw [hLN, hF2]; exact hlt), hF2, bo, if_neg (by decide), if_neg (by decide)])
          have EN := hid (show oneN (b :: l) = 1 by simp only [oneN]; rw [if_neg h6p, if_neg (by rw [hLN, hF2]; exact hlt), hF2, bo])
          have e2 : (F.bytes == 2) = false := by simp [bo]
          have e3 : (F.bytes == 3) = false := by simp [bo]
          clear hc hby hF hF2 hm h6p bo hLN
          go_enter Tryz.func15, Tryz.ntmps15
          go_wp2_with fail
          refine (form6_any b false _ b0 b1).mono ?_
          rintro e u1 ⟨rfl, g1⟩
          rw [HF.out]
          have G1 := hid g1
          have zx : x.block < u1.heap.size := Nat.lt_of_lt_of_le hxb g1.2.2
          have nx : x.block ≠ u1.heap.size := by omega
          have zx1 : x.block < u1.heap.size + 1 := by omega
          have d0 := (cell_grown g1 (x := x) hxb).trans c0
          clear g1
          go_wp2_with fail
          refine (rtext6_any b false 0 0 _ b0 b1 (by decide) (by decide) (by decide) (by decide)).mono ?_
          rintro e u2 ⟨rfl, g2⟩
          go_wp2
          go_ret2
          exact ⟨by rw [ES.out, EN.out]; rfl, grown_trans (G1.out.alloc _ _) g2⟩
        · obtain ⟨c, l2, rfl⟩ : ∃ c l2, l = c :: l2 := by
            cases l with
            | nil => simp at hLN; omega
            | cons c l2 => exact ⟨c, l2, rfl⟩
          have ES := hid (show oneS (b :: c :: l2) = lineOf b false c 0 by simp only [oneS]; rw [if_neg h6p, if_neg (by rw [hLN, hF2]; exact hlt), hF2, bo, if_pos rfl]; rfl)
          have EN := hid (show oneN (b :: c :: l2) = 2 by simp only [oneN]; rw [if_neg h6p, if_neg (by rw [hLN, hF2]; exact hlt), hF2, bo])
          have c1 : w.cell? ⟨x.block, x.off + 1, none⟩ = some (.int .u8 c) := hc 1 (by simp)
          obtain ⟨m0, m1⟩ := hby c (by simp)
          have e2 : (F.bytes == 2) = true := by simp [bo]
          have hl1 : (1 : Int) < (LN : Int) + 1 := by omega
          clear hc hby hF hF2 hm h6p bo hLN
          go_enter Tryz.func15, Tryz.ntmps15
          go_wp2_with fail
          refine (form6_any b false _ b0 b1).mono ?_
          rintro e u1 ⟨rfl, g1⟩
          rw [HF.out]
          have G1 := hid g1
          have zx : x.block < u1.heap.size := Nat.lt_of_lt_of_le hxb g1.2.2
          have nx : x.block ≠ u1.heap.size := by omega
          have zx1 : x.block < u1.heap.size + 1 := by omega
          have d0 := (cell_grown g1 (x := x) hxb).trans c0
          have d1 := (cell_grown g1 (x := ⟨x.block, x.off + 1, none⟩) hxb).trans c1
          clear g1
          go_wp2
          go_region_held3 (fun w' => x.block < w'.heap.size ∧ w'.cell? x = some (.int .u8 b) ∧ w'.cell? ⟨x.block, x.off + 1, none⟩ = some (.int .u8 c)) (go_keep) (first | (go_at_call 21; refine (rtext6_any b false c 0 _ b0 b1 m0 m1 (by decide) (by decide)).mono ?_; rintro e u2 ⟨rfl, g2⟩; have zy : x.block < u2.heap.size := (by have := g2.2.2; simp at this; omega); have f0 := (cell_grown g2 (x := x) (by simp; omega)); have f1 := (cell_grown g2 (x := ⟨x.block, x.off + 1, none⟩) (by simp; omega))))
          go_wp2
          go_ret2
          exact ⟨by rw [ES.out, EN.out]; rfl, grown_trans (G1.out.alloc _ _).drew g2⟩
        · obtain ⟨c, d, l2, rfl⟩ : ∃ c d l2, l = c :: d :: l2 := by
            cases l with
            | nil => simp at hLN; omega
            | cons c l2 =>
              cases l2 with
              | nil => simp at hLN; omega
              | cons d l3 => exact ⟨c, d, l3, rfl⟩
          have ES := hid (show oneS (b :: c :: d :: l2) = lineOf b false c d by simp only [oneS]; rw [if_neg h6p, if_neg (by rw [hLN, hF2]; exact hlt), hF2, bo, if_neg (by decide), if_pos rfl]; rfl)
          have EN := hid (show oneN (b :: c :: d :: l2) = 3 by simp only [oneN]; rw [if_neg h6p, if_neg (by rw [hLN, hF2]; exact hlt), hF2, bo])
          have c1 : w.cell? ⟨x.block, x.off + 1, none⟩ = some (.int .u8 c) := hc 1 (by simp)
          have c2 : w.cell? ⟨x.block, x.off + 2, none⟩ = some (.int .u8 d) := hc 2 (by simp)
          obtain ⟨m0, m1⟩ := hby c (by simp)
          obtain ⟨n0, n1⟩ := hby d (by simp)
          have e2 : (F.bytes == 2) = false := by simp [bo]
          have e3 : (F.bytes == 3) = true := by simp [bo]
          have hl1 : (1 : Int) < (LN : Int) + 1 := by omega
          have hl2 : (2 : Int) < (LN : Int) + 1 := by omega
          clear hc hby hF hF2 hm h6p bo hLN
          go_enter Tryz.func15, Tryz.ntmps15
          go_wp2_with fail
          refine (form6_any b false _ b0 b1).mono ?_
          rintro e u1 ⟨rfl, g1⟩
          rw [HF.out]
          have G1 := hid g1
          have zx : x.block < u1.heap.size := Nat.lt_of_lt_of_le hxb g1.2.2
          have nx : x.block ≠ u1.heap.size := by omega
          have zx1 : x.block < u1.heap.size + 1 := by omega
          have d0 := (cell_grown g1 (x := x) hxb).trans c0
          have d1 := (cell_grown g1 (x := ⟨x.block, x.off + 1, none⟩) hxb).trans c1
          have d2 := (cell_grown g1 (x := ⟨x.block, x.off + 2, none⟩) hxb).trans c2
          clear g1
          go_wp2
          go_region_held3 (fun w' => x.block < w'.heap.size ∧ w'.cell? x = some (.int .u8 b) ∧ w'.cell? ⟨x.block, x.off + 1, none⟩ = some (.int .u8 c) ∧ w'.cell? ⟨x.block, x.off + 2, none⟩ = some (.int .u8 d)) (go_keep) (first | (go_at_call 21; refine (rtext6_any b false c d _ b0 b1 m0 m1 n0 n1).mono ?_; rintro e u2 ⟨rfl, g2⟩; have zy : x.block < u2.heap.size := (by have := g2.2.2; simp at this; omega); have f0 := (cell_grown g2 (x := x) (by simp; omega)); have f1 := (cell_grown g2 (x := ⟨x.block, x.off + 1, none⟩) (by simp; omega)); have f2 := (cell_grown g2 (x := ⟨x.block, x.off + 2, none⟩) (by simp; omega))))
          go_wp2
          go_ret2
          exact ⟨by rw [ES.out, EN.out]; rfl, grown_trans (G1.out.alloc _ _).drew g2⟩
    · have h6p : (decOf b).kind = 6 := by rw [hF2]; simpa using h6
      cases l with
      | nil =>
        have ES := hid (show oneS [b] = dbS b by simp only [oneS]; rw [if_pos h6p])
        have EN := hid (show oneN [b] = 1 by simp only [oneN]; rw [if_pos h6p])
        have h1n : F.bytes ≤ 1 ∨ ¬ F.bytes ≤ 1 := by omega
        rw [show ([b] : List Int).length = 1 from rfl]
        clear hc hby hF hF2 hm h6p bo
        rcases h1n with h1n | h1n
        · skip
          go_enter Tryz.func15, Tryz.ntmps15
          go_wp2_with fail
          refine (form6_any b false _ b0 b1).mono ?_
          rintro e u1 ⟨rfl, g1⟩
          rw [HF.out]
          have G1 := hid g1
          have zx : x.block < u1.heap.size := Nat.lt_of_lt_of_le hxb g1.2.2
          have nx : x.block ≠ u1.heap.size := by omega
          have zx1 : x.block < u1.heap.size + 1 := by omega
          have d0 := (cell_grown g1 (x := x) hxb).trans c0
          clear g1
          go_wp2_with fail
          refine (rhex8_any b _ b0 b1).mono ?_
          rintro e w' ⟨rfl, rfl⟩
          go_wp2
          go_ret2
          exact ⟨by rw [ES.out, EN.out]; rfl, G1.out.alloc _ _⟩
        · skip
          go_enter Tryz.func15, Tryz.ntmps15
          go_wp2_with fail
          refine (form6_any b false _ b0 b1).mono ?_
          rintro e u1 ⟨rfl, g1⟩
          rw [HF.out]
          have G1 := hid g1
          have zx : x.block < u1.heap.size := Nat.lt_of_lt_of_le hxb g1.2.2
          have nx : x.block ≠ u1.heap.size := by omega
          have zx1 : x.block < u1.heap.size + 1 := by omega
          have d0 := (cell_grown g1 (x := x) hxb).trans c0
          clear g1
          go_wp2_with fail
          refine (rhex8_any b _ b0 b1).mono ?_
          rintro e w' ⟨rfl, rfl⟩
          go_wp2
          go_ret2
          exact ⟨by rw [ES.out, EN.out]; rfl, G1.out.alloc _ _⟩
      | cons c l2 =>
        obtain ⟨LN, hLN⟩ : ∃ n : Nat, l2.length = n := ⟨_, rfl⟩
        have lmx : LN + 2 ≤ maxLen := by rw [← hLN]; simpa using hm
        have ln0 : (((LN + 2 : Nat) : Int) == 0) = false := by simp; omega
        have ln1 : (1 : Int) < (LN : Int) + 2 := by omega
        rw [show (b :: c :: l2).length = LN + 2 by simp [hLN]]
        have ES := hid (show oneS (b :: c :: l2) = lineOf c true 0 0 by simp only [oneS]; rw [if_pos h6p])
        have EN := hid (show oneN (b :: c :: l2) = 2 by simp only [oneN]; rw [if_pos h6p])
        have c1 : w.cell? ⟨x.block, x.off + 1, none⟩ = some (.int .u8 c) := hc 1 (by simp)
        obtain ⟨m0, m1⟩ := hby c (by simp)
        clear hc hby hF hF2 hm h6p bo hLN
        go_enter Tryz.func15, Tryz.ntmps15
        go_wp2_with fail
        refine (form6_any b false _ b0 b1).mono ?_
        rintro e u1 ⟨rfl, g1⟩
        rw [HF.out]
        have G1 := hid g1
        have zx : x.block < u1.heap.size := Nat.lt_of_lt_of_le hxb g1.2.2
        have nx : x.block ≠ u1.heap.size := by omega
        have zx1 : x.block < u1.heap.size + 1 := by omega
        have d0 := (cell_grown g1 (x := x) hxb).trans c0
        have d1 := (cell_grown g1 (x := ⟨x.block, x.off + 1, none⟩) hxb).trans c1
        clear g1
        go_wp2_with fail
        refine (rtext6_any c true 0 0 _ m0 m1 (by decide) (by decide) (by decide) (by decide)).mono ?_
        rintro e u2 ⟨rfl, g2⟩
        go_wp2
        go_ret2
        exact ⟨by rw [ES.out, EN.out]; rfl, grown_trans (G1.out.alloc _ _) g2⟩
end Go.Proofs.YtlchkflpaehgcaaGreatDoor
namespace Go.Proofs.YtlchkflpaehgcaaGreatDoor
open Go.RowKit
set_option linter.unusedVariables false
set_option linter.unusedSimpArgs false

theorem info_string : (Tryz.prog.info? 9).map (fun i => (i.zero, i.size, i.bytes)) = some (some (.string ByteArray.empty), 1, 16) := by kernel_rfl
set_option maxRecDepth 100000 in
set_option maxHeartbeats 4000000 in
theorem rlines_any (zs : List Int) (a : Option Addr) (cap : Nat) (w : World) (row : Row w a zs) (hcap : zs.length ≤ cap) (hmax : cap ≤ maxLen) (hbig : zs.length ≤ 8796093022000) :
    Calls Tryz.prog 9 #[.slice a zs.length cap] w fun e w' => ∃ v, e = .returned v ∧ w'.ownsRow w.heap.size 9 1 v (linesOf zs).length ((linesOf zs).map Value.string) ∧ Kept w w' := by
  obtain ⟨i0, hi, hz0, hz1, hz2⟩ := info_parts info_string
  obtain ⟨LN, hLN⟩ : ∃ n : Nat, zs.length = n := ⟨_, rfl⟩
  have LNb : LN ≤ 8796093022000 := by omega
  have LNc : LN ≤ cap := by omega
  have hmax2 : (cap : Int) ≤ 9223372036854775807 := by unfold maxLen at hmax; omega
  have HLN := hid hLN
  have HR := hid row
  rw [hLN]
  clear hLN hcap hbig row
  go_enter Tryz.func9, Tryz.ntmps9
  go_wp2
  go_loopw [3, 4] (fun v i wr => ∃ (k : Nat) (L : List ByteArray), k ≤ LN ∧ i = .int .i64 (k : Int) ∧ L ++ linesOf (zs.drop k) = linesOf zs ∧ L.length ≤ k ∧ wr.ownsRow w.heap.size 9 1 v L.length (L.map Value.string) ∧ Kept w wr) (fun _ i _ => LN - (intOf i).toNat)
  case atStart => exact ⟨0, [], Nat.zero_le _, rfl, rfl, Nat.le_refl _, World.ownsRow_nil _ _ _ _, Kept.refl _⟩
  case round =>
    obtain ⟨k, L, hk, rfl, hL, hLk, hown, hkp⟩ := hrel
    have HL := hid hL
    have HO := hid hown
    have HK := hid hkp
    clear hL hown hkp
    by_cases hlt : k < LN
    · have hlt2 : (k : Int) < (LN : Int) := by omega
      have hk2 : (k : Int) ≤ (cap : Int) := by omega
      have hne : zs.drop k ≠ [] := by intro h; have := congrArg List.length h; simp [HLN.out] at this; omega
      obtain ⟨hm0, hby0, hx0⟩ := HR.out
      obtain ⟨x, hx⟩ : ∃ x, a = some x := by
        rcases hx0 with h | ⟨x, h, _⟩
        · rw [h] at hne; simp at hne
        · exact ⟨x, h⟩
      subst hx
      clear hm0 hx0
      have RD := hid (row_drop k (row_kept HK.out HR.out) (by rw [HLN.out]; omega))
      have hdl : (zs.drop k).length = LN - k := by simp [HLN.out]
      have hby1 : ∀ z ∈ zs.drop k, InByte z := fun z hz => hby0 z (List.mem_of_mem_drop hz)
      have OB := hid (oneN_bd (zs.drop k) hby1 hne)
      have ST := hid (lines_step (zs.drop k) hby1 hne)
      clear hby0 hby1 hne
      obtain ⟨n, hn⟩ : ∃ n : Nat, oneN (zs.drop k) = (n : Int) := ⟨(oneN (zs.drop k)).toNat, by have := OB.out.1; omega⟩
      obtain ⟨S, hS⟩ : ∃ S, oneS (zs.drop k) = S := ⟨_, rfl⟩
      obtain ⟨n1, n3, nk⟩ : 1 ≤ n ∧ n ≤ 3 ∧ k + n ≤ LN := by have := OB.out; rw [hdl, hn] at this; omega
      have STP := hid (show (L ++ [S]) ++ linesOf (zs.drop (k + n)) = linesOf zs by
        rw [← HL.out, ST.out, hn, hS, List.drop_drop]
        simp [Nat.add_comm])
      have C := rone_any (zs.drop k) (some (x.add k)) (cap - k) wr RD.out
      rw [hdl, hn, hS] at C
      have CC := hid C
      clear C hn hS OB ST HL hdl RD
      go_wp2_with fail
      refine CC.out.mono ?_
      rintro e u1 ⟨rfl, g1⟩
      have HO1 := hid (owns_kept (Kept.of g1) HO.out)
      have HK1 := hid (HK.out.trans (Kept.of g1))
      have z1 : w.heap.size ≤ u1.heap.size := HK1.out.size
      clear g1 CC
      go_wp2_with (at_builtin; refine wpList_append_own _ rfl _ _ 25 rfl w.heap.size 9 i0 (.string ByteArray.empty) 1 16 Tryz.underlying25 hi hz0 hz1 hz2 rfl (by decide) _ _ _ rfl (HO1.out.alloc _) ⟨u1.heap.size, 0, none⟩ 1 1 [.string S] rfl rfl ?c1 ?c2 ?c3 ?c4 ?c5 ?_)
      case c1 =>
        intro j u hj
        match j, hj with
        | 0, hj => simp at hj; subst hj; simp [Addr.add]
      case c2 => intro u hu; simp at hu; subst hu; rfl
      case c3 => unfold maxLen; omega
      case c4 => omega
      case c5 => simp; omega
      intro v' w1 hown' hgrow _
      have KB := hid ((HK1.out.alloc _).by hgrow (owns_row HO1.out))
      have HW := hid hown'
      clear hown' hgrow
      go_wp2
      go_roundw
      case rel => exact ⟨k + n, L ++ [S], nk, by go_num, STP.out, by simp; omega, by simpa using HW.out, KB.out⟩
      case measure => first | omega | (simp; omega) | (simp [intOf]; omega)
    · obtain rfl : k = LN := by omega
      have EE := hid (show L = linesOf zs by rw [← HL.out, ← HLN.out, List.drop_length]; simp [linesOf, linesF])
      go_wp2
      go_ret
      exact ⟨_, rfl, by rw [← EE.out]; exact HO.out, HK.out⟩
end Go.Proofs.YtlchkflpaehgcaaGreatDoor
