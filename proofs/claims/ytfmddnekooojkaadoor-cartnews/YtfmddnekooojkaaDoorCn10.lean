/- CartNews, as a walk. -/
import Derived.Test.YtfmddnekooojkaaDoorG40
import Derived.Test.YtfmddnekooojkaaDoorG41
namespace Go.Proofs.YtfmddnekooojkaaDoor
open Go.RowKit
set_option linter.unusedVariables false
set_option linter.unusedSimpArgs false

theorem own_at {w : World} {base n c : Nat} {a : Option Addr} {L : List Int} (hl : L.length = n) (o : w.ownsRow base 5 1 (.slice a n c) n (L.map (Value.int .u8))) (hn : 0 < n) :
    ∃ g, a = some ⟨g, 0, none⟩ ∧ g < w.heap.size ∧ (∀ j, j < n → w.cell? ⟨g, j, none⟩ = some (.int .u8 (L.getD j 0)) ∧ w.frozen? ⟨g, j, none⟩ = false) ∧ (∀ j x, (w.setCell ⟨g, j, none⟩ (.int .u8 x)).ownsRow base 5 1 (.slice a n c) n ((L.set j x).map (Value.int .u8))) := by
  subst hl
  obtain ⟨g, cap, e, hg⟩ := own_slice o hn
  injection e with e1 e2 e3
  subst e1 e3
  have ob : OwnB w base g c L := o
  refine ⟨g, rfl, (ownB_lt ob).2, fun j hj => ⟨ownB_cell ob j hj, ownB_frz ob j⟩, fun j x => ?_⟩
  have q := ownB_set ob j x
  unfold OwnB at q
  rw [List.length_set] at q
  exact q
set_option maxRecDepth 100000 in
set_option maxHeartbeats 8000000 in
theorem news_any (a0 : Option Addr) (cap0 : Nat) (z0 : List Int) (a1 : Int) (w : World) (lay : Lay7 w) (r0 : Row w a0 z0) (l0 : z0.length ≤ cap0) (m0 : cap0 ≤ maxLen) (b0 : z0.length ≤ 140737488355328) (n0 : a0 = none → cap0 = 0) (p0 : 0 ≤ a1) (p1 : a1 ≤ 65535) :
    Calls Tryd.prog 3 #[.slice a0 z0.length cap0, .int .u16 a1] w fun e w' => e = .returned (.bool true) ∧ Kept w w' := by
  have SH := hid (kshown_any w lay)
  have SB : Sl w a0 cap0 z0 := ⟨r0, l0, m0, n0⟩
  have SB := hid SB
  have ZB := hid r0.2.1
  have LY := hid (fun u (k : Kept w u) => lay.kept k)
  have C1 := hid (fun u (g : Kept w u) a c (s : Sl u a c z0) => knew_any z0 a c u (lay.kept g) s)
  have C2 := hid (fun u (g : Kept w u) => rcnew_any z0 a0 cap0 u (sl_kept g SB.out))
  have OKS := hid (new_ok z0 r0.2.1)
  have IM := hid (new_img z0)
  clear lay r0
  obtain ⟨n, hn⟩ : ∃ n : Nat, z0.length = n := ⟨_, rfl⟩
  have HN := hid hn
  have n64 : n ≤ 140737488355328 := by omega
  generalize newC z0 = S0 at *
  generalize parseE z0 = P at *
  rw [hn] at l0 b0 C1 C2 ⊢
  clear hn
  go_enter Tryd.func3, Tryd.ntmps3
  go_wp2_with fail
  refine SH.out.mono ?_
  rintro e u1 ⟨rfl, k1⟩
  have K1 := hid k1
  have O1 := hid (own_empty u1 (Nat.le_refl _))
  have S1 := hid (sl_kept (k1.alloc (.cells #[] 5)) SB.out)
  have KA := hid (k1.alloc (.cells #[] 5))
  clear k1
  go_wp2_with (at_builtin; refine wl_append O1.out S1.out rfl rfl rfl rfl HN.out.symm (by simp) (by rw [HN.out]; simp; omega) (fun v2 u2 o2 g2 => ?_); rw [List.nil_append] at o2; have K2 := hid (KA.out.by g2 (fun j h => by simp [Value.ownBlock] at h; subst h; exact K1.out.size)); have O2 := hid o2; clear g2 o2; refine Hid.out ?_)
  refine hid ?_
  obtain ⟨a2, c2, rfl, s2, nw2⟩ := own_sl O2.out ZB.out
  rw [HN.out] at O2
  have S2 := hid s2
  have NW := hid nw2
  clear s2 nw2 O1 S1 KA
  try rw [HN.out]
  go_wp2_with fail
  refine (C1.out _ K2.out _ _ S2.out).mono ?_
  rintro e u3 ⟨v3, F3, rfl, hv, hc, hF, k3⟩
  have HV := hid hv
  have CA := hid hc
  have LF := hid hF
  have K3 := hid k3
  clear hv hc hF k3
  go_wp2_with fail
  refine (C2.out _ (K2.out.trans K3.out)).mono ?_
  rintro e u4 ⟨xi, ci, xr, cr, rfl, hxi, si, sr, nr, k4⟩
  have R4 := blk_new u4 rc0 36
  have PS := hid (fun u5 (p : Put (u4.alloc (.cells rc0.toArray 36)) u4.heap.size 36 (rcL S0 xi ci xr cr) u5) => pl_start SB.out.row IM.out K2.out K3.out k4 CA.out LF.out hxi si sr nr p)
  have FOlow : ∀ k, a2 = some ⟨k, 0, none⟩ → w.heap.size ≤ k := fun k e => Nat.le_trans K1.out.size (NW.out _ e)
  have FOhi : ∀ k, a2 = some ⟨k, 0, none⟩ → k < u2.heap.size := fun k e => (O2.out.lt k (by rw [e]; rfl)).2
  have Z3 := K3.out.size
  have Z4 := k4.size
  have OI : Off (fun k => a2 = some ⟨k, 0, none⟩) xi S0.img := by
    rcases hxi with e | e
    · rcases IM.out with q | q
      · rw [q, e]; exact off_of SB.out.row FOlow
      · exact .inl q
    · exact .inr fun x hx => by rw [e] at hx; cases hx
  have OR : Off (fun k => a2 = some ⟨k, 0, none⟩) xr S0.ram := .inr fun x hx q => by
    have := FOhi _ q
    have := nr x hx
    omega
  have GO := hid (fun u5 (I : PlI w u5 v3 u4.heap.size S0 S0 F3 xi ci xr cr) wr (k : KeptX (fun k => a2 = some ⟨k, 0, none⟩) u5 wr) =>
    (show CartAt wr S0 v3 F3 ∧ Blk wr u4.heap.size 36 (rcL S0 xi ci xr cr) ∧ Sl wr xi ci S0.img ∧ Sl wr xr cr S0.ram ∧ Kept w wr from
      ⟨cart_keep I.cart k (fun j f q => by have := FOhi j q; have := LF.out j f; omega), blkX k I.blk (fun q => by have := FOhi _ q; omega), slX k I.si OI, slX k I.sr OR, k.kept I.kept FOlow⟩))
  have OW := hid (fun u5 (p : Put (u4.alloc (.cells rc0.toArray 36)) u4.heap.size 36 (rcL S0 xi ci xr cr) u5) => own_put p (owns_kept ((K3.out.trans k4).alloc _) O2.out) (fun q => by have := (O2.out.lt _ q).2; omega))
  clear hxi si sr nr k4 OI OR FOlow Z3
  go_wp2_with (((with_reducible refine at_st 36 ?_); refine wl_store rfl rfl rfl rfl R4 (by kernel_rfl) rfl (Nat.le_of_ble_eq_true rfl) (fun u5 p5 => ?_); have I5 := hid (PS.out u5 p5); have O5 := hid (OW.out u5 p5); clear p5 R4 PS OW; refine Hid.out ?_))
  refine hid ?_
  have FOhi5 : ∀ k, a2 = some ⟨k, 0, none⟩ → k < u5.heap.size := fun k e => (O5.out.lt k (by rw [e]; rfl)).2
  generalize u4.heap.size = bD at *
  clear SH C1 C2 LY IM K1 K2 K3 SB ZB S2 NW O2 CA LF FOhi Z4
  go_wp2_with fail
  go_loopw [11] (fun iv wr => ∃ (j : Nat) (L : List Int), j ≤ n ∧ iv = .int .i64 (j : Int) ∧ L.length = n ∧ wr.ownsRow u1.heap.size 5 1 (.slice a2 n c2) n (L.map (Value.int .u8)) ∧ KeptX (fun k => a2 = some ⟨k, 0, none⟩) u5 wr) (fun iv _ => n - (intOf iv).toNat)
  case atStart => exact ⟨0, z0, Nat.zero_le _, rfl, HN.out, O5.out, KeptX.refl _⟩
  case round =>
    obtain ⟨j, L, hj, rfl, hL, ho, hk⟩ := hrel
    have KX := hid hk
    have OO := hid ho
    have HL := hid hL
    clear hk ho hL
    by_cases hlt : j < n
    · obtain ⟨g, rfl, gl, gc, gs⟩ := own_at HL.out OO.out (by omega)
      obtain ⟨cc, cf⟩ := gc j hlt
      have ca := ownB_add g j
      have GS := hid gs
      generalize L.getD j 0 = V at *
      have g1 : decide ((j : Int) < (n : Int)) = true := decide_eq_true (by omega)
      have g3 : (j : Int) < (n : Int) := by omega
      clear gc gs
      go_wp2
      go_roundw
      case rel => exact ⟨j + 1, L.set j _, by omega, by go_num, by rw [List.length_set]; exact HL.out, GS.out j _, KX.out.setCell (.inl rfl) j _⟩
      case measure => first | omega | (simp; omega) | (simp [intOf]; omega)
    · obtain ⟨CC, BB, SI, SR, KK⟩ := GO.out _ I5.out _ KX.out
      have BD := hid BB
      have KW := hid KK
      have CV := hid (fun u (g : Kept wr u) => conv_sl (sl_kept g SR))
      have CH := hid (fun u (g : Kept wr u) => khead_any S0 v3 F3 u (cart_kept CC g))
      have CR := hid (fun u (g : Kept wr u) => kread_any S0 v3 F3 a1 u (cart_kept CC g) p0 p1)
      have CF := hid (fun u (g : Kept wr u) => rcread_any S0 xi ci xr cr a1 u p0 p1 OKS.out (sl_kept g SI).row SI.len SI.max (sl_kept g SR).row SR.len SR.max)
      have CM := hid (fun u (g : Kept wr u) => kram_any S0 v3 F3 u (cart_kept CC g))
      simp only [hdVc] at CH
      generalize readS S0 a1 = RV at *
      have g1 : decide ((j : Int) < (n : Int)) = false := decide_eq_false (by omega)
      have hq1 : ∀ u, (eqGuard .eql 25 (.tmp 47) (.const (.pointer none)) v3 (.pointer none)).run Tryd.prog u = .ok () u := by
        rcases HV.out with ⟨hP, rfl⟩ | ⟨hP, p, rfl⟩
        · intro u; kernel_rfl
        · intro u; kernel_rfl
      have hq2 : ∀ u, (binOp .eql 25 v3 (.pointer none)).run Tryd.prog u = .ok (.bool (P != 0)) u := by
        rcases HV.out with ⟨hP, rfl⟩ | ⟨hP, p, rfl⟩
        · intro u; rw [show (P != 0) = true by simpa using hP]; kernel_rfl
        · intro u; rw [hP]; kernel_rfl
      have cv0 := CV.out _ (Kept.refl wr).drew
      clear CC BB SI SR KK HV GO I5 O5 OO KX HL
      go_wp2_with fail
      refine wp_region_held_drew (S := (fun w' => w'.rangeAt bD 0 (rcL S0 xi ci xr cr) ∧ (convert 22 9 (.slice xr S0.ram.length cr)).run Tryd.prog w' = .ok (.string (strB S0.ram)) w' ∧ w'.cell? ⟨bD, 12, none⟩ = some (.slice xr S0.ram.length cr) ∧ w'.cell? ⟨bD, 1, none⟩ = some (.string S0.h.title) ∧ w'.cell? ⟨bD, 2, none⟩ = some (.int .u8 S0.h.kind) ∧ w'.cell? ⟨bD, 3, none⟩ = some (.int .i64 S0.h.map) ∧ w'.cell? ⟨bD, 4, none⟩ = some (.bool S0.h.ram) ∧ w'.cell? ⟨bD, 5, none⟩ = some (.bool S0.h.bat) ∧ w'.cell? ⟨bD, 6, none⟩ = some (.bool S0.h.clk) ∧ w'.cell? ⟨bD, 7, none⟩ = some (.int .i64 S0.h.banks) ∧ w'.cell? ⟨bD, 8, none⟩ = some (.int .i64 S0.h.size) ∧ w'.cell? ⟨bD, 9, none⟩ = some (.int .u8 S0.h.sum) ∧ w'.cell? ⟨bD, 10, none⟩ = some (.int .u16 S0.h.whole))) (by kernel_rfl) ⟨(fun i u hu => by rw [blk_cell (blk_drew BD.out), Nat.zero_add]; exact hu), cv0, by have qq := blk_cell (blk_drew BD.out); simp [qq]⟩ (fun hHeld => ?_)
      refine wpAnyH_take (i := 0) (v := ?_) rfl (by kernel_rfl) (by kernel_rfl) (by kernel_rfl) (fun _ _ _ h => h) (Or.inl ⟨by rfl, ?_⟩) (by assumption) ?_
      rotate_left
      · intro w hSw
        (try dsimp only at hSw)
        go_simp
        try with_reducible rfl
      simp only [Act.put, List.getElem_toArray, List.getElem_cons_succ, List.getElem_cons_zero, List.setIfInBounds_toArray, List.set_cons_zero, List.set_cons_succ]
      refine wpAnyH_take (i := 1) (v := ?_) rfl (by kernel_rfl) (by kernel_rfl) (by kernel_rfl) (fun _ _ _ h => h) (Or.inl ⟨by rfl, ?_⟩) (by assumption) ?_
      rotate_left
      · intro w hSw
        (try dsimp only at hSw)
        go_simp
        try with_reducible rfl
      simp only [Act.put, List.getElem_toArray, List.getElem_cons_succ, List.getElem_cons_zero, List.setIfInBounds_toArray, List.set_cons_zero, List.set_cons_succ]
      refine wpAnyH_take (i := 2) (v := ?_) rfl (by kernel_rfl) (by kernel_rfl) (by kernel_rfl) (fun _ _ _ h => h) (Or.inl ⟨by rfl, ?_⟩) (by assumption) ?_
      rotate_left
      · intro w hSw
        (try dsimp only at hSw)
        go_simp
        try with_reducible rfl
      simp only [Act.put, List.getElem_toArray, List.getElem_cons_succ, List.getElem_cons_zero, List.setIfInBounds_toArray, List.set_cons_zero, List.set_cons_succ]
      refine wpAnyH_take (i := 3) (v := ?_) rfl (by kernel_rfl) (by kernel_rfl) (by kernel_rfl) (fun _ _ _ h => h) (Or.inl ⟨by rfl, ?_⟩) (by assumption) ?_
      rotate_left
      · intro w hSw
        (try dsimp only at hSw)
        go_simp
        try with_reducible rfl
      simp only [Act.put, List.getElem_toArray, List.getElem_cons_succ, List.getElem_cons_zero, List.setIfInBounds_toArray, List.set_cons_zero, List.set_cons_succ]
      refine wpAnyH_take (i := 4) (v := ?_) rfl (by kernel_rfl) (by kernel_rfl) (by kernel_rfl) (fun _ _ _ h => h) (Or.inl ⟨by rfl, ?_⟩) (by assumption) ?_
      rotate_left
      · intro w hSw
        (try dsimp only at hSw)
        go_simp
        try with_reducible rfl
      simp only [Act.put, List.getElem_toArray, List.getElem_cons_succ, List.getElem_cons_zero, List.setIfInBounds_toArray, List.set_cons_zero, List.set_cons_succ]
      refine wpAnyH_take (i := 5) (v := ?_) rfl (by kernel_rfl) (by kernel_rfl) (by kernel_rfl) (fun _ _ _ h => h) (Or.inl ⟨by rfl, ?_⟩) (by assumption) ?_
      rotate_left
      · intro w hSw
        (try dsimp only at hSw)
        go_simp
        try with_reducible rfl
      simp only [Act.put, List.getElem_toArray, List.getElem_cons_succ, List.getElem_cons_zero, List.setIfInBounds_toArray, List.set_cons_zero, List.set_cons_succ]
      refine wpAnyH_take (i := 6) (v := ?_) rfl (by kernel_rfl) (by kernel_rfl) (by kernel_rfl) (fun _ _ _ h => h) (Or.inl ⟨by rfl, ?_⟩) (by assumption) ?_
      rotate_left
      · intro w hSw
        (try dsimp only at hSw)
        go_simp
        try with_reducible rfl
      simp only [Act.put, List.getElem_toArray, List.getElem_cons_succ, List.getElem_cons_zero, List.setIfInBounds_toArray, List.set_cons_zero, List.set_cons_succ]
      refine wpAnyH_take (i := 7) (v := ?_) rfl (by kernel_rfl) (by kernel_rfl) (by kernel_rfl) (fun _ _ _ h => h) (Or.inl ⟨by rfl, ?_⟩) (by assumption) ?_
      rotate_left
      · intro w hSw
        (try dsimp only at hSw)
        go_simp
        try with_reducible rfl
      simp only [Act.put, List.getElem_toArray, List.getElem_cons_succ, List.getElem_cons_zero, List.setIfInBounds_toArray, List.set_cons_zero, List.set_cons_succ]
      refine wpAnyH_take (i := 8) (v := ?_) rfl (by kernel_rfl) (by kernel_rfl) (by kernel_rfl) (fun _ _ _ h => h) (Or.inl ⟨by rfl, ?_⟩) (by assumption) ?_
      rotate_left
      · intro w hSw
        (try dsimp only at hSw)
        go_simp
        try with_reducible rfl
      simp only [Act.put, List.getElem_toArray, List.getElem_cons_succ, List.getElem_cons_zero, List.setIfInBounds_toArray, List.set_cons_zero, List.set_cons_succ]
      refine wpAnyH_take (i := 9) (v := ?_) rfl (by kernel_rfl) (by kernel_rfl) (by kernel_rfl) (fun _ _ _ h => h) (Or.inl ⟨by rfl, ?_⟩) (by assumption) ?_
      rotate_left
      · intro w hSw
        (try dsimp only at hSw)
        go_simp
        try with_reducible rfl
      simp only [Act.put, List.getElem_toArray, List.getElem_cons_succ, List.getElem_cons_zero, List.setIfInBounds_toArray, List.set_cons_zero, List.set_cons_succ]
      refine wpAnyH_take (i := 10) (v := ?_) rfl (by kernel_rfl) (by kernel_rfl) (by kernel_rfl) (fun _ _ _ h => h) (Or.inl ⟨by rfl, ?_⟩) (by assumption) ?_
      rotate_left
      · intro w hSw
        (try dsimp only at hSw)
        go_simp
        try with_reducible rfl
      simp only [Act.put, List.getElem_toArray, List.getElem_cons_succ, List.getElem_cons_zero, List.setIfInBounds_toArray, List.set_cons_zero, List.set_cons_succ]
      refine wpAnyH_take (i := 11) (v := ?_) rfl (by kernel_rfl) (by kernel_rfl) (by kernel_rfl) (fun _ _ _ h => h) (Or.inl ⟨by rfl, ?_⟩) (by assumption) ?_
      rotate_left
      · intro w hSw
        (try dsimp only at hSw)
        go_simp
        try with_reducible rfl
      simp only [Act.put, List.getElem_toArray, List.getElem_cons_succ, List.getElem_cons_zero, List.setIfInBounds_toArray, List.set_cons_zero, List.set_cons_succ]
      refine wpAnyH_take (i := 12) (v := ?_) rfl (by kernel_rfl) (by kernel_rfl) (by kernel_rfl) (fun _ _ _ h => h) (Or.inl ⟨by rfl, ?_⟩) (by assumption) ?_
      rotate_left
      · intro w hSw
        (try dsimp only at hSw)
        go_simp
        try with_reducible rfl
      simp only [Act.put, List.getElem_toArray, List.getElem_cons_succ, List.getElem_cons_zero, List.setIfInBounds_toArray, List.set_cons_zero, List.set_cons_succ]
      refine wpAnyH_take (i := 13) (v := ?_) rfl (by kernel_rfl) (by kernel_rfl) (by kernel_rfl) (fun _ _ _ h => h) (Or.inl ⟨by rfl, ?_⟩) (by assumption) ?_
      rotate_left
      · intro w hSw
        (try dsimp only at hSw)
        go_simp
        try with_reducible rfl
      simp only [Act.put, List.getElem_toArray, List.getElem_cons_succ, List.getElem_cons_zero, List.setIfInBounds_toArray, List.set_cons_zero, List.set_cons_succ]
      refine wpAnyH_take (i := 14) (v := ?_) rfl (by kernel_rfl) (by kernel_rfl) (by kernel_rfl) (fun _ _ _ h => h) (Or.inl ⟨by rfl, ?_⟩) (by assumption) ?_
      rotate_left
      · intro w hSw
        (try dsimp only at hSw)
        go_simp
        try with_reducible rfl
      simp only [Act.put, List.getElem_toArray, List.getElem_cons_succ, List.getElem_cons_zero, List.setIfInBounds_toArray, List.set_cons_zero, List.set_cons_succ]
      refine wpAnyH_take (i := 16) (v := ?_) rfl (by kernel_rfl) (by kernel_rfl) (by kernel_rfl) (fun _ _ _ h => h) (Or.inl ⟨by rfl, ?_⟩) (by assumption) ?_
      rotate_left
      · intro w hSw
        (try dsimp only at hSw)
        go_simp
        try with_reducible rfl
      simp only [Act.put, List.getElem_toArray, List.getElem_cons_succ, List.getElem_cons_zero, List.setIfInBounds_toArray, List.set_cons_zero, List.set_cons_succ]
      refine wpAnyH_take (i := 17) (v := ?_) rfl (by kernel_rfl) (by kernel_rfl) (by kernel_rfl) (fun _ _ _ h => h) (Or.inl ⟨by rfl, ?_⟩) (by assumption) ?_
      rotate_left
      · intro w hSw
        (try dsimp only at hSw)
        go_simp
        try with_reducible rfl
      simp only [Act.put, List.getElem_toArray, List.getElem_cons_succ, List.getElem_cons_zero, List.setIfInBounds_toArray, List.set_cons_zero, List.set_cons_succ]
      refine wpAnyH_ready (rs := [15]) (by kernel_rfl) (by simp) ?_
      refine AllReadyH.cons rfl (fun K hK => ?_) AllReadyH.nil
      go_simp
      refine (CH.out _ ((Kept.refl wr).drew)).mono ?_
      rintro e v1 ⟨rfl, t1⟩
      have KZ1 := ((Kept.refl wr).drew).trans t1
      have cv1 := CV.out _ KZ1
      refine hK.out _ _ ⟨(fun i u hu => by rw [blk_cell (blk_kept KZ1 BD.out), Nat.zero_add]; exact hu), cv1, by have qq := blk_cell (blk_kept KZ1 BD.out); simp [qq]⟩ (fun hHeld => ?_)
      clear hK K
      try simp only [Act.put, List.getElem_toArray, List.getElem_cons_succ, List.getElem_cons_zero, List.setIfInBounds_toArray, List.set_cons_zero, List.set_cons_succ]
      refine wpAnyH_take (i := 18) (v := ?_) rfl (by kernel_rfl) (by kernel_rfl) (by kernel_rfl) (fun _ _ _ h => h) (Or.inl ⟨by rfl, ?_⟩) (by assumption) ?_
      rotate_left
      · intro w hSw
        (try dsimp only at hSw)
        go_simp
        try with_reducible rfl
      simp only [Act.put, List.getElem_toArray, List.getElem_cons_succ, List.getElem_cons_zero, List.setIfInBounds_toArray, List.set_cons_zero, List.set_cons_succ]
      refine wpAnyH_take (i := 19) (v := ?_) rfl (by kernel_rfl) (by kernel_rfl) (by kernel_rfl) (fun _ _ _ h => h) (Or.inl ⟨by rfl, ?_⟩) (by assumption) ?_
      rotate_left
      · intro w hSw
        (try dsimp only at hSw)
        go_simp
        try with_reducible rfl
      simp only [Act.put, List.getElem_toArray, List.getElem_cons_succ, List.getElem_cons_zero, List.setIfInBounds_toArray, List.set_cons_zero, List.set_cons_succ]
      refine wpAnyH_take (i := 20) (v := ?_) rfl (by kernel_rfl) (by kernel_rfl) (by kernel_rfl) (fun _ _ _ h => h) (Or.inl ⟨by rfl, ?_⟩) (by assumption) ?_
      rotate_left
      · intro w hSw
        (try dsimp only at hSw)
        go_simp
        try with_reducible rfl
      simp only [Act.put, List.getElem_toArray, List.getElem_cons_succ, List.getElem_cons_zero, List.setIfInBounds_toArray, List.set_cons_zero, List.set_cons_succ]
      refine wpAnyH_take (i := 21) (v := ?_) rfl (by kernel_rfl) (by kernel_rfl) (by kernel_rfl) (fun _ _ _ h => h) (Or.inl ⟨by rfl, ?_⟩) (by assumption) ?_
      rotate_left
      · intro w hSw
        (try dsimp only at hSw)
        go_simp
        try with_reducible rfl
      simp only [Act.put, List.getElem_toArray, List.getElem_cons_succ, List.getElem_cons_zero, List.setIfInBounds_toArray, List.set_cons_zero, List.set_cons_succ]
      refine wpAnyH_take (i := 22) (v := ?_) rfl (by kernel_rfl) (by kernel_rfl) (by kernel_rfl) (fun _ _ _ h => h) (Or.inl ⟨by rfl, ?_⟩) (by assumption) ?_
      rotate_left
      · intro w hSw
        (try dsimp only at hSw)
        go_simp
        try with_reducible rfl
      simp only [Act.put, List.getElem_toArray, List.getElem_cons_succ, List.getElem_cons_zero, List.setIfInBounds_toArray, List.set_cons_zero, List.set_cons_succ]
      refine' wpAnyH_take (i := 24) (v := _) rfl (by kernel_rfl) (by kernel_rfl) (by kernel_rfl) (fun _ _ _ h => h) (yieldsIf_load_mid (by rfl) _ _ rfl _ _ rfl (rcL S0 xi ci xr cr) _ (fun w' hSw => hSw.1) Tryd.underlying36 rfl (by kernel_rfl)) (by assumption) ?_
      simp only [Act.put, List.getElem_toArray, List.getElem_cons_succ, List.getElem_cons_zero, List.setIfInBounds_toArray, List.set_cons_zero, List.set_cons_succ]
      refine wpAnyH_take (i := 25) (v := ?_) rfl (by kernel_rfl) (by kernel_rfl) (by kernel_rfl) (fun _ _ _ h => h) (Or.inl ⟨by rfl, ?_⟩) (by assumption) ?_
      rotate_left
      · intro w hSw
        (try dsimp only at hSw)
        go_simp
        try with_reducible rfl
      simp only [Act.put, List.getElem_toArray, List.getElem_cons_succ, List.getElem_cons_zero, List.setIfInBounds_toArray, List.set_cons_zero, List.set_cons_succ]
      refine wpAnyH_ready (rs := [23]) (by kernel_rfl) (by simp) ?_
      refine AllReadyH.cons rfl (fun K hK => ?_) AllReadyH.nil
      go_simp
      refine (CR.out _ (KZ1)).mono ?_
      rintro e v2 ⟨rfl, t2⟩
      have KZ2 := (KZ1).trans t2
      have cv2 := CV.out _ KZ2
      refine hK.out _ _ ⟨(fun i u hu => by rw [blk_cell (blk_kept KZ2 BD.out), Nat.zero_add]; exact hu), cv2, by have qq := blk_cell (blk_kept KZ2 BD.out); simp [qq]⟩ (fun hHeld => ?_)
      clear hK K
      try simp only [Act.put, List.getElem_toArray, List.getElem_cons_succ, List.getElem_cons_zero, List.setIfInBounds_toArray, List.set_cons_zero, List.set_cons_succ]
      refine wpAnyH_ready (rs := [26]) (by kernel_rfl) (by simp) ?_
      refine AllReadyH.cons rfl (fun K hK => ?_) AllReadyH.nil
      go_simp
      refine (CF.out _ (KZ2)).mono ?_
      rintro e v3 ⟨rfl, t3⟩
      have KZ3 := (KZ2).trans t3
      have cv3 := CV.out _ KZ3
      refine hK.out _ _ ⟨(fun i u hu => by rw [blk_cell (blk_kept KZ3 BD.out), Nat.zero_add]; exact hu), cv3, by have qq := blk_cell (blk_kept KZ3 BD.out); simp [qq]⟩ (fun hHeld => ?_)
      clear hK K
      try simp only [Act.put, List.getElem_toArray, List.getElem_cons_succ, List.getElem_cons_zero, List.setIfInBounds_toArray, List.set_cons_zero, List.set_cons_succ]
      refine wpAnyH_take (i := 27) (v := ?_) rfl (by kernel_rfl) (by kernel_rfl) (by kernel_rfl) (fun _ _ _ h => h) (Or.inl ⟨by rfl, ?_⟩) (by assumption) ?_
      rotate_left
      · intro w hSw
        (try dsimp only at hSw)
        go_simp
        try with_reducible rfl
      simp only [Act.put, List.getElem_toArray, List.getElem_cons_succ, List.getElem_cons_zero, List.setIfInBounds_toArray, List.set_cons_zero, List.set_cons_succ]
      refine wpAnyH_take (i := 28) (v := ?_) rfl (by kernel_rfl) (by kernel_rfl) (by kernel_rfl) (fun _ _ _ h => h) (Or.inl ⟨by rfl, ?_⟩) (by assumption) ?_
      rotate_left
      · intro w hSw
        (try dsimp only at hSw)
        go_simp
        try with_reducible rfl
      simp only [Act.put, List.getElem_toArray, List.getElem_cons_succ, List.getElem_cons_zero, List.setIfInBounds_toArray, List.set_cons_zero, List.set_cons_succ]
      refine wpAnyH_take (i := 29) (v := ?_) rfl (by kernel_rfl) (by kernel_rfl) (by kernel_rfl) (fun _ _ _ h => h) (Or.inl ⟨by rfl, ?_⟩) (by assumption) ?_
      rotate_left
      · intro w hSw
        (try dsimp only at hSw)
        go_simp
        try with_reducible rfl
      simp only [Act.put, List.getElem_toArray, List.getElem_cons_succ, List.getElem_cons_zero, List.setIfInBounds_toArray, List.set_cons_zero, List.set_cons_succ]
      refine wpAnyH_take (i := 30) (v := ?_) rfl (by kernel_rfl) (by kernel_rfl) (by kernel_rfl) (fun _ _ _ h => h) (Or.inl ⟨by rfl, ?_⟩) (by assumption) ?_
      rotate_left
      · intro w hSw
        (try dsimp only at hSw)
        go_simp
        try with_reducible rfl
      simp only [Act.put, List.getElem_toArray, List.getElem_cons_succ, List.getElem_cons_zero, List.setIfInBounds_toArray, List.set_cons_zero, List.set_cons_succ]
      refine wpAnyH_take (i := 33) (v := ?_) rfl (by kernel_rfl) (by kernel_rfl) (by kernel_rfl) (fun _ _ _ h => h) (Or.inl ⟨by rfl, ?_⟩) (by assumption) ?_
      rotate_left
      · intro w hSw
        (try dsimp only at hSw)
        go_simp
        try with_reducible rfl
      simp only [Act.put, List.getElem_toArray, List.getElem_cons_succ, List.getElem_cons_zero, List.setIfInBounds_toArray, List.set_cons_zero, List.set_cons_succ]
      refine wpAnyH_take (i := 34) (v := ?_) rfl (by kernel_rfl) (by kernel_rfl) (by kernel_rfl) (fun _ _ _ h => h) (Or.inl ⟨by rfl, ?_⟩) (by assumption) ?_
      rotate_left
      · intro w hSw
        (try dsimp only at hSw)
        go_simp
        try with_reducible rfl
      simp only [Act.put, List.getElem_toArray, List.getElem_cons_succ, List.getElem_cons_zero, List.setIfInBounds_toArray, List.set_cons_zero, List.set_cons_succ]
      refine wpAnyH_take (i := 35) (v := ?_) rfl (by kernel_rfl) (by kernel_rfl) (by kernel_rfl) (fun _ _ _ h => h) (Or.inl ⟨by rfl, ?_⟩) (by assumption) ?_
      rotate_left
      · intro w hSw
        (try dsimp only at hSw)
        go_simp
        try with_reducible rfl
      simp only [Act.put, List.getElem_toArray, List.getElem_cons_succ, List.getElem_cons_zero, List.setIfInBounds_toArray, List.set_cons_zero, List.set_cons_succ]
      refine wpAnyH_ready (rs := [31]) (by kernel_rfl) (by simp) ?_
      refine AllReadyH.cons rfl (fun K hK => ?_) AllReadyH.nil
      go_simp
      refine (CM.out _ (KZ3)).mono ?_
      rintro e v4 ⟨r4, rfl, o4, t4⟩
      have KZ4 := (KZ3).trans t4
      have cv4 := CV.out _ KZ4
      have c4 := conv_own10 o4
      refine hK.out _ _ ⟨(fun i u hu => by rw [blk_cell (blk_kept KZ4 BD.out), Nat.zero_add]; exact hu), cv4, by have qq := blk_cell (blk_kept KZ4 BD.out); simp [qq]⟩ (fun hHeld => ?_)
      clear hK K
      try simp only [Act.put, List.getElem_toArray, List.getElem_cons_succ, List.getElem_cons_zero, List.setIfInBounds_toArray, List.set_cons_zero, List.set_cons_succ]
      refine wpAnyH_ready (rs := [32]) (by kernel_rfl) (by simp) ?_
      refine AllReadyH.cons rfl (fun K hK => ?_) AllReadyH.nil
      go_simp
      refine hK.out _ _ ⟨(fun i u hu => by rw [blk_cell (blk_kept KZ4 BD.out), Nat.zero_add]; exact hu), cv4, by have qq := blk_cell (blk_kept KZ4 BD.out); simp [qq]⟩ (fun hHeld => ?_)
      clear hK K
      try simp only [Act.put, List.getElem_toArray, List.getElem_cons_succ, List.getElem_cons_zero, List.setIfInBounds_toArray, List.set_cons_zero, List.set_cons_succ]
      refine wpAnyH_take (i := 36) (v := ?_) rfl (by kernel_rfl) (by kernel_rfl) (by kernel_rfl) (fun _ _ _ h => h) (Or.inl ⟨by rfl, ?_⟩) (by assumption) ?_
      rotate_left
      · intro w hSw
        (try dsimp only at hSw)
        go_simp
        try with_reducible rfl
      simp only [Act.put, List.getElem_toArray, List.getElem_cons_succ, List.getElem_cons_zero, List.setIfInBounds_toArray, List.set_cons_zero, List.set_cons_succ]
      refine wpAnyH_take (i := 37) (v := ?_) rfl (by kernel_rfl) (by kernel_rfl) (by kernel_rfl) (fun _ _ _ h => h) (Or.inl ⟨by rfl, ?_⟩) (by assumption) ?_
      rotate_left
      · intro w hSw
        (try dsimp only at hSw)
        go_simp
        try with_reducible rfl
      simp only [Act.put, List.getElem_toArray, List.getElem_cons_succ, List.getElem_cons_zero, List.setIfInBounds_toArray, List.set_cons_zero, List.set_cons_succ]
      refine wpAnyH_take (i := 38) (v := ?_) rfl (by kernel_rfl) (by kernel_rfl) (by kernel_rfl) (fun _ _ _ h => h) (Or.inl ⟨by rfl, ?_⟩) (by assumption) ?_
      rotate_left
      · intro w hSw
        (try dsimp only at hSw)
        go_simp
        try with_reducible rfl
      simp only [Act.put, List.getElem_toArray, List.getElem_cons_succ, List.getElem_cons_zero, List.setIfInBounds_toArray, List.set_cons_zero, List.set_cons_succ]
      refine wpAnyH_done (by kernel_rfl) ?_ _
      go_wp2
      go_ret
      exact ⟨rfl, KW.out.trans KZ4⟩
end Go.Proofs.YtfmddnekooojkaaDoor
