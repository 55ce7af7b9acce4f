/- The last part of a line; the three parts, laid over it. -/
import Derived.Test.YtecgpdjgbdobbabPs18d
namespace Go.Proofs.Ytecgpdjgbdobbab
open Go.RowKit
set_option linter.unusedVariables false
set_option linter.unusedSimpArgs false

theorem frowX {F : Nat → Prop} {W u : World} (k : KeptX F W u) {a : Option Addr} {c : Nat} {els : List (List Value)} (h : FRow W a c els) (hf : ∀ x, a = some x → x.block < W.heap.size → ¬ F x.block) : FRow u a c els := by
  refine ⟨h.1, ?_⟩
  rcases h.2 with h | ⟨x, e, hx, hc⟩
  · exact .inl h
  · exact .inr ⟨x, e, Nat.lt_of_lt_of_le hx k.size, fun i cs hi j hj => (cellX k (x := x.add (i * c + j)) (by rw [addFB]; exact hx) (by rw [addFB]; exact hf x e hx)).trans (hc i cs hi j hj)⟩
theorem slS_X {F : Nat → Prop} {W u : World} (k : KeptX F W u) {a : Option Addr} {cap : Nat} {L : List Sp} (h : SlS W a cap L) (hf : ∀ x, a = some x → x.block < W.heap.size → ¬ F x.block) : SlS u a cap L := ⟨frowX k h.row hf, h.len, h.max, h.nil⟩
theorem ord_len {L M : List Ob} (h : Stab key16 L M) (hm : M.length = L.length) : (ordP L).length = L.length := by rw [ord_eq h, hm]
def papP (v : Vd) : Int := if bitOf v.ctl 0 then v.bgp else 0
theorem pap_bd {w : World} {v : Vd} (h : VdIn w v) : 0 ≤ papP v ∧ papP v ≤ 255 := by
  have := h.b0; have := h.b1
  unfold papP; split <;> omega
theorem shade_0 (c : Int) : shadeP 0 c = 0 := by unfold shadeP; simp
theorem tone_dot (v : Vd) (L : List Ob) (x y win : Int) : toneP v L (papP v) x y (groP v x y win) = dotP v L x y win := by
  unfold toneP dotP papP
  split
  · rfl
  · cases bitOf v.ctl 0
    · simp [shade_0]
    · rfl
set_option maxRecDepth 100000 in
set_option maxHeartbeats 4000000 in
theorem pshd18 (v : Vd) (y : Int) (w : World) (hv : VdIn w v) (y0 : 0 ≤ y) (y1 : y ≤ 255) :
    Calls Try.prog 13 #[vdV v, .int .u8 y] w fun e w' => (∃ bs bp bv a cap, e = .returned (.func (.func 21) #[] #[.pointer (some ⟨bs, 0, none⟩), .pointer (some ⟨bp, 0, none⟩), .pointer (some ⟨bv, 0, none⟩)]) ∧ w.heap.size ≤ bs ∧ w.heap.size ≤ bp ∧ w.heap.size ≤ bv ∧ Newer w.heap.size a ∧ Blk w' bs 49 [.slice a (objsP v y).length cap] ∧ Blk w' bp 5 [.int .u8 (papP v)] ∧ Blk w' bv 24 (vdC v) ∧ SlS w' a cap ((objsP v y).map (spG v y))) ∧ Kept w w' := by
  have B0 := hid (fun u => bit_any v.ctl 0 u hv.c0 hv.c1)
  have ST := hid (fun u k => pstrips18 v y u (vdIn_kept k hv) y0 y1)
  generalize objsP v y = L at *
  obtain ⟨n, hn⟩ : ∃ n, L.length = n := ⟨_, rfl⟩
  rw [hn] at ST ⊢
  unfold papP
  have VB : Hid (Blk (w.alloc (.cells (vdC v).toArray 24)) w.heap.size 24 (vdC v)) := blk_new w _ _
  generalize L.map (spG v y) = M at *
  clear hn hv
  obtain ⟨ctl, scy, scx, wy, wx, bgp, o0, o1, va, vc, vz, oa, oc, oz⟩ := v
  simp only [vdV, vdC] at *
  obtain ⟨vn, hvn⟩ : ∃ n, vz.length = n := ⟨_, rfl⟩
  obtain ⟨on, hon⟩ : ∃ n, oz.length = n := ⟨_, rfl⟩
  rw [hvn, hon] at ST VB
  rw [hvn, hon]
  clear hvn hon
  cases q0 : bitOf ctl 0
  · rw [q0] at B0
    simp only [Bool.false_eq_true, if_false]
    clear q0
    go_enter Try.func13, Try.ntmps13
    go_wp2_with fail
    refine (ST.out _ ((Kept.refl w).alloc _)).mono ?_
    rintro e u1 ⟨⟨a, cap, rfl, nw, s1⟩, k1⟩
    have K1 := hid (((Kept.refl w).alloc _).trans k1)
    have V1 := hid (blk_kept k1 VB.out)
    have z1 : w.heap.size + 1 ≤ u1.heap.size := by have := k1.size; rw [World.size_alloc] at this; exact this
    have S1 := hid s1
    have NW : Hid (Newer w.heap.size a) := fun x hx => by have q := nw x hx; rw [World.size_alloc] at q; omega
    clear k1 s1 nw VB
    have X1 : Hid (Blk (u1.alloc (.cells #[.slice none 0 0] 49)) u1.heap.size 49 [.slice none 0 0]) := blk_new u1 _ _
    go_wp2_with ((with_reducible refine at_st 49 ?_); refine wl_store rfl rfl rfl rfl X1.out (by kernel_rfl) rfl (Nat.le_refl 1) (fun u2 p2 => ?_); have B2 := hid (show Blk u2 u1.heap.size 49 [.slice a n cap] from p2.blk); have Y2 := hid (p2.kept _ ((Kept.refl u1).alloc _) (Nat.le_refl _)); have Z2 := hid (show u2.heap.size = u1.heap.size + 1 from p2.size.trans (World.size_alloc _ _)); clear p2; refine Hid.out ?_)
    refine hid ?_
    have V2 := hid (blk_kept Y2.out V1.out)
    obtain ⟨d0, d1, d2, d3, d4, d5, d6, d7, d8, d9⟩ := ten18 V2.out
    have B3 : Hid (Blk (u2.alloc (.cells #[.int .u8 bgp] 5)) u2.heap.size 5 [.int .u8 bgp]) := blk_new u2 _ _
    have Y3 := hid ((Kept.refl u2).alloc (.cells #[.int .u8 bgp] 5))
    have V3 := hid (blk_kept Y3.out V2.out)
    have C3 := hid (blk_kept Y3.out B2.out)
    have S3 := hid (slS_kept Y3.out (slS_kept Y2.out S1.out))
    have K3 := hid ((K1.out.trans Y2.out).trans Y3.out)
    have Q3 := hid (Y2.out.trans Y3.out)
    obtain ⟨f0, f1, f2, f3, f4, f5, f6, f7, f8, f9⟩ := ten18 V3.out
    clear Y2 Y3 V1 V2 B2 K1 X1
    go_wp2_with fail
    refine (B0.out _).mono ?_
    rintro e u4 ⟨rfl, rfl⟩
    go_wp2_with ((with_reducible refine at_st 5 ?_); refine wl_store rfl rfl rfl rfl B3.out (by kernel_rfl) rfl (Nat.le_refl 1) (fun u5 p5 => ?_); have B5 := hid (show Blk u5 u2.heap.size 5 [.int .u8 0] from p5.blk); have z2 := Z2.out; have V5 := hid (p5.other _ _ _ (by omega) V3.out); have C5 := hid (p5.other _ _ _ (by omega) C3.out); have K5 := hid (p5.kept _ K3.out (by omega)); have S5 := hid (slS_X (p5.keptX (fun k => k = u2.heap.size) u1 (KeptX.of Q3.out) (.inl rfl)) S1.out (fun x hx hlt e => by omega)); clear p5 z2)
    go_ret
    have z2 := Z2.out
    exact ⟨⟨u1.heap.size, u2.heap.size, w.heap.size, a, cap, rfl, by omega, by omega, by omega, NW.out, C5.out, B5.out, V5.out, S5.out⟩, K5.out⟩
  · rw [q0] at B0
    simp only [if_true]
    clear q0
    go_enter Try.func13, Try.ntmps13
    go_wp2_with fail
    refine (ST.out _ ((Kept.refl w).alloc _)).mono ?_
    rintro e u1 ⟨⟨a, cap, rfl, nw, s1⟩, k1⟩
    have K1 := hid (((Kept.refl w).alloc _).trans k1)
    have V1 := hid (blk_kept k1 VB.out)
    have z1 : w.heap.size + 1 ≤ u1.heap.size := by have := k1.size; rw [World.size_alloc] at this; exact this
    have S1 := hid s1
    have NW : Hid (Newer w.heap.size a) := fun x hx => by have q := nw x hx; rw [World.size_alloc] at q; omega
    clear k1 s1 nw VB
    have X1 : Hid (Blk (u1.alloc (.cells #[.slice none 0 0] 49)) u1.heap.size 49 [.slice none 0 0]) := blk_new u1 _ _
    go_wp2_with ((with_reducible refine at_st 49 ?_); refine wl_store rfl rfl rfl rfl X1.out (by kernel_rfl) rfl (Nat.le_refl 1) (fun u2 p2 => ?_); have B2 := hid (show Blk u2 u1.heap.size 49 [.slice a n cap] from p2.blk); have Y2 := hid (p2.kept _ ((Kept.refl u1).alloc _) (Nat.le_refl _)); have Z2 := hid (show u2.heap.size = u1.heap.size + 1 from p2.size.trans (World.size_alloc _ _)); clear p2; refine Hid.out ?_)
    refine hid ?_
    have V2 := hid (blk_kept Y2.out V1.out)
    obtain ⟨d0, d1, d2, d3, d4, d5, d6, d7, d8, d9⟩ := ten18 V2.out
    have B3 : Hid (Blk (u2.alloc (.cells #[.int .u8 bgp] 5)) u2.heap.size 5 [.int .u8 bgp]) := blk_new u2 _ _
    have Y3 := hid ((Kept.refl u2).alloc (.cells #[.int .u8 bgp] 5))
    have V3 := hid (blk_kept Y3.out V2.out)
    have C3 := hid (blk_kept Y3.out B2.out)
    have S3 := hid (slS_kept Y3.out (slS_kept Y2.out S1.out))
    have K3 := hid ((K1.out.trans Y2.out).trans Y3.out)
    have Q3 := hid (Y2.out.trans Y3.out)
    obtain ⟨f0, f1, f2, f3, f4, f5, f6, f7, f8, f9⟩ := ten18 V3.out
    clear Y2 Y3 V1 V2 B2 K1 X1
    go_wp2_with fail
    refine (B0.out _).mono ?_
    rintro e u4 ⟨rfl, rfl⟩
    go_wp2
    go_ret
    have z2 := Z2.out
    exact ⟨⟨u1.heap.size, u2.heap.size, w.heap.size, a, cap, rfl, by omega, by omega, by omega, NW.out, C3.out, B3.out, V3.out, S3.out⟩, K3.out⟩
theorem layg18 (v : Vd) (h : Bool) (y : Int) (W u : World) (b bv bh by_ : Nat) (g0 : Nat → Int) (hv : VdIn W v) (kW : Kept W u) (hb : W.heap.size ≤ b) (y0 : 0 ≤ y) (y1 : y ≤ 255) (nv : bv ≠ b) (nh : bh ≠ b) (ny : by_ ≠ b)
    (B : Blk u b 32 (colsL g0)) (hV : Blk u bv 24 (vdC v)) (hH : Blk u bh 4 [.bool h]) (hY : Blk u by_ 5 [.int .u8 y]) :
    Calls Try.prog 9 #[.pointer (some ⟨b, 0, none⟩), .func (.func 17) #[] #[.pointer (some ⟨bv, 0, none⟩), .pointer (some ⟨bh, 0, none⟩), .pointer (some ⟨by_, 0, none⟩)]] u fun e w' => e = .returned (.tuple #[]) ∧ Blk w' b 32 (colsL (fun x => celP v h (((x : Int) + v.scx) % 256) ((y + v.scy) % 256))) ∧ KeptX (fun k => k = b) u w' :=
  lay18 17 _ _ _ b g0 _ u B (fun _ _ => rfl) fun x t hx k => pgrc18 v h y x (g0 x) bv bh by_ t (vdIn_kept (k.kept kW (fun q e => by rw [e]; exact hb)) hv) hx y0 y1 (blkX k hV nv) (blkX k hH nh) (blkX k hY ny)
theorem layw18 (v : Vd) (h : Bool) (y : Int) (W u : World) (b bv bh by_ : Nat) (g0 : Nat → Int) (hv : VdIn W v) (kW : Kept W u) (hb : W.heap.size ≤ b) (y0 : 0 ≤ y) (y1 : y ≤ 255) (nv : bv ≠ b) (nh : bh ≠ b) (ny : by_ ≠ b)
    (B : Blk u b 32 (colsL g0)) (hV : Blk u bv 24 (vdC v)) (hH : Blk u bh 4 [.bool h]) (hY : Blk u by_ 5 [.int .u8 y]) :
    Calls Try.prog 9 #[.pointer (some ⟨b, 0, none⟩), .func (.func 19) #[] #[.pointer (some ⟨bv, 0, none⟩), .pointer (some ⟨bh, 0, none⟩), .pointer (some ⟨by_, 0, none⟩)]] u fun e w' => e = .returned (.tuple #[]) ∧ Blk w' b 32 (colsL (fun x => if v.wx ≤ (x : Int) + 7 then celP v h ((x : Int) + 7 - v.wx) y else g0 x)) ∧ KeptX (fun k => k = b) u w' :=
  lay18 19 _ _ _ b g0 _ u B (fun _ _ => rfl) fun x t hx k => pwic18 v h y x (g0 x) bv bh by_ t (vdIn_kept (k.kept kW (fun q e => by rw [e]; exact hb)) hv) hx y0 y1 (blkX k hV nv) (blkX k hH nh) (blkX k hY ny)
theorem lays18 (v : Vd) (y : Int) (L : List Ob) (a : Option Addr) (cap : Nat) (paper : Int) (W u : World) (b bs bp bv : Nat) (g0 : Nat → Int) (hv : VdIn W v) (kW : Kept W u) (hb : W.heap.size ≤ b) (hl : L.length ≤ 1000) (p0 : 0 ≤ paper) (p1 : paper ≤ 255) (g0b : ∀ x, x < 160 → 0 ≤ g0 x ∧ g0 x ≤ 3)
    (ns : bs ≠ b) (np : bp ≠ b) (nv : bv ≠ b) (na : ∀ x, a = some x → x.block ≠ b) (B : Blk u b 32 (colsL g0)) (hS : Blk u bs 49 [.slice a L.length cap]) (hP : Blk u bp 5 [.int .u8 paper]) (hV : Blk u bv 24 (vdC v)) (h : SlS u a cap (L.map (spG v y))) :
    Calls Try.prog 9 #[.pointer (some ⟨b, 0, none⟩), .func (.func 21) #[] #[.pointer (some ⟨bs, 0, none⟩), .pointer (some ⟨bp, 0, none⟩), .pointer (some ⟨bv, 0, none⟩)]] u fun e w' => e = .returned (.tuple #[]) ∧ Blk w' b 32 (colsL (fun x => toneP v L paper (x : Int) y (g0 x))) ∧ KeptX (fun k => k = b) u w' :=
  lay18 21 _ _ _ b g0 _ u B (fun _ _ => rfl) fun x t hx k => pshc18 v y L a cap paper x (g0 x) bs bp bv t (vdIn_kept (k.kept kW (fun q e => by rw [e]; exact hb)) hv) hl hx (slS_X k h (fun x hx _ e => na x hx e)) p0 p1 (g0b x hx).1 (g0b x hx).2 (blkX k hS ns) (blkX k hP np) (blkX k hV nv)
end Go.Proofs.Ytecgpdjgbdobbab
