/- Layer 20's law Plays. -/
import Derived.Test.YtfndpikcodjajaaDoorSw20
import Derived.Test.YtfndpikcodjajaaDoorRb20c
import Derived.Test.YtfndpikcodjajaaDoorFlats
import Derived.Deep.RegionHeld
import Derived.Deep.RegionHeld3
namespace Go.Proofs.YtfndpikcodjajaaDoor
open Go.RowKit
set_option linter.unusedVariables false
set_option linter.unusedSimpArgs false

def elA20 (x : Int × Int × Int) : List Value := [.int .i64 x.1, .int .u16 x.2.1, .int .u8 x.2.2]
/-- The program's memories (M) and the document's (N), in its variable. -/
structure Pl20 (w0 w : World) (b bD : Nat) (M N : List Int) (m : Rm) : Prop where
  mem : MemAt w b M
  ref : RmIn w m N
  blk : Blk w bD 35 (rmL m)
  off : RmOff (fun k => k = b ∨ k = bD) m
  kept : Kept w0 w
  lb : w0.heap.size ≤ b
  lD : w0.heap.size ≤ bD
  ne : b ≠ bD
section
variable {w0 w u : World} {b bD : Nat} {M N : List Int} {m : Rm}
theorem Pl20.go (h : Pl20 w0 w b bD M N m) (k : Kept w u) : Pl20 w0 u b bD M N m := ⟨mem_kept h.mem k, rm_kept k h.ref, blk_kept k h.blk, h.off, h.kept.trans k, h.lb, h.lD, h.ne⟩
theorem Pl20.put (h : Pl20 w0 w b bD M N m) {M' : List Int} (m' : MemAt u b M') (k : KeptX (fun j => j = b) w u) : Pl20 w0 u b bD M' N m :=
  ⟨m', rm_X k h.ref ⟨fun x hx q => h.off.sv x hx (.inl q), fun x hx q => h.off.sw x hx (.inl q), fun x hx q => h.off.so x hx (.inl q), fun x hx q => h.off.sh x hx (.inl q)⟩, blkX k h.blk (fun e => h.ne e.symm), h.off, k.kept h.kept (fun j q => by rw [q]; exact h.lb), h.lb, h.lD, h.ne⟩
theorem Pl20.ref' (h : Pl20 w0 w b bD M N m) {m' : Rm} {N' : List Int} {w2 : World} (k : Kept w u) (r : RmIn u m' N') (f : ∀ F : Nat → Prop, RmOff F m → (∀ k, F k → k < w.heap.size) → RmOff F m') (p : Put u bD 35 (rmL m') w2) : Pl20 w0 w2 b bD M N' m' := by
  have lb := blk_lt h.mem.blk
  have lD := blk_lt h.blk
  have o := f _ h.off (fun k q => by rcases q with q | q <;> omega)
  have kx := p.keptX (fun j => j = bD) u (KeptX.refl u) (.inl rfl)
  have g := h.go k
  exact ⟨mem_X g.mem kx h.ne, rm_X kx r ⟨fun x hx q => o.sv x hx (.inr q), fun x hx q => o.sw x hx (.inr q), fun x hx q => o.so x hx (.inr q), fun x hx q => o.sh x hx (.inr q)⟩, p.blk, o, kx.kept g.kept (fun j q => by rw [q]; exact h.lD), h.lb, h.lD, h.ne⟩
theorem row_lt20 {W : World} {a : Option Addr} {z : List Int} (h : Row W a z) (h0 : 0 < z.length) : ∀ x, a = some x → x.block < W.heap.size := fun x hx => by
  obtain ⟨y, e, hy, _⟩ := row_get h h0
  rw [hx] at e
  cases e
  exact hy
/-- Blocks that are newer than both are written to. -/
theorem Pl20.X (h : Pl20 w0 w b bD M N m) {F : Nat → Prop} (k : KeptX F w u) {n : Nat} (hF : ∀ j, F j → n ≤ j) (hn : n ≤ w.heap.size) (hb : b < n) (hD : bD < n) (hr : RmOff F m) : Pl20 w0 u b bD M N m :=
  ⟨mem_X h.mem k (fun q => by have := hF _ q; omega), rm_X k h.ref hr, blkX k h.blk (fun q => by have := hF _ q; omega), h.off, k.kept h.kept (fun j q => by have := hF _ q; have := h.lb; omega), h.lb, h.lD, h.ne⟩
theorem rm_new (h : RmIn w m N) {F : Nat → Prop} (hF : ∀ j, F j → w.heap.size ≤ j) : RmOff F m :=
  ⟨fun x hx q => by have := row_lt20 h.sv.row (by rw [sg_len h.len (by decide)]; decide) x hx; have := hF _ q; omega, fun x hx q => by have := row_lt20 h.sw.row (by rw [sg_len h.len (by decide)]; decide) x hx; have := hF _ q; omega,
   fun x hx q => by have := row_lt20 h.so.row (by rw [sg_len h.len (by decide)]; decide) x hx; have := hF _ q; omega, fun x hx q => by have := row_lt20 h.sh.row (by rw [sg_len h.len (by decide)]; decide) x hx; have := hF _ q; omega⟩
theorem conv_nil20 (w : World) : (convert 33 9 (.slice none 0 0)).run Tryd.prog w = .ok (.string (strB [])) w := by kernel_rfl
theorem conv_sl20 {w : World} {a : Option Addr} {cap : Nat} {z : List Int} (h : Sl w a cap z) : (convert 33 9 (.slice a z.length cap)).run Tryd.prog w = .ok (.string (strB z)) w := by
  cases a with
  | none =>
    obtain rfl : cap = 0 := h.nil rfl
    have z0 := h.len
    obtain rfl : z = [] := List.eq_nil_of_length_eq_zero (by omega)
    exact conv_nil20 w
  | some x => exact conv_cells w x cap z (row_news10 h.row)
theorem conv_v (h : RmIn w m N) : (convert 33 9 (.slice m.xv 8192 m.cv)).run Tryd.prog w = .ok (.string (strB (sg N 0 8192))) w := by
  have q := conv_sl20 h.sv
  rw [sg_len h.len (by decide)] at q
  exact q
theorem conv_o (h : RmIn w m N) : (convert 33 9 (.slice m.xo 160 m.co)).run Tryd.prog w = .ok (.string (strB (sg N 16384 160))) w := by
  have q := conv_sl20 h.so
  rw [sg_len h.len (by decide)] at q
  exact q
theorem conv_bb {g : Nat} {z : List Int} (h : BB20 w g z) : (convert 33 9 (.slice (some ⟨g, 0, none⟩) z.length z.length)).run Tryd.prog w = .ok (.string (strB z)) w := by
  refine conv_cells w ⟨g, 0, none⟩ z.length z (fun j u hj => ?_)
  rw [ownB_add, blk_cell h]
  exact hj
theorem conv_cv {g : Nat} (h : BB20 w g ((N.drop 0).take 8192)) (hl : N.length = 16671) : (convert 33 9 (.slice (some ⟨g, 0, none⟩) 8192 8192)).run Tryd.prog w = .ok (.string (strB (sg N 0 8192))) w := by
  have q := conv_bb h
  rw [seg_vram hl] at q
  exact q
theorem conv_co {g : Nat} (h : BB20 w g ((N.drop 16384).take 160)) (hl : N.length = 16671) : (convert 33 9 (.slice (some ⟨g, 0, none⟩) 160 160)).run Tryd.prog w = .ok (.string (strB (sg N 16384 160))) w := by
  have q := conv_bb h
  rw [seg_oam hl] at q
  exact q
end
theorem byte_in (x : Int) : InByte (x % 256) := ⟨by omega, by omega⟩
theorem set_at20 {L : List Value} {i : Nat} (v : Value) (h : i < L.length) : L.take i ++ [v] ++ L.drop (i + 1) = L.set i v := by
  rw [List.set_eq_take_append_cons_drop, if_pos h, List.append_assoc]; rfl
set_option maxRecDepth 100000 in
set_option maxHeartbeats 8000000 in
theorem plays20 (a0 : Option Addr) (cap0 : Nat) (s0 : List (Int × Int × Int)) (w : World) (lay : Lay20 w) (r0 : FRow w a0 3 (s0.map elA20)) (q0 : ∀ x ∈ s0, (0 ≤ x.2.1 ∧ x.2.1 ≤ 65535) ∧ InByte x.2.2) (l0 : s0.length ≤ cap0) (m0 : cap0 ≤ maxLen) :
    Calls Tryd.prog 6 #[.slice a0 s0.length cap0] w fun e w' => e = .returned (.bool true) ∧ Kept w w' := by
  have LY : Hid (∀ u, Kept w u → Lay20 u) := fun u k => lay20_kept lay k
  have SH := hid (kshown20 w lay)
  have FG := hid (frow_getD (0, 0, 0) r0)
  have QQ := hid (fun i h => getD_mem (0, 0, 0) q0 i h)
  obtain ⟨n, hn⟩ : ∃ n, s0.length = n := ⟨_, rfl⟩
  rw [hn] at FG QQ l0 ⊢
  have NM : Hid ((n : Int) ≤ 9223372036854775807) := by show _ ≤ _; have := m0; unfold maxLen at this; omega
  clear lay r0 q0 hn
  go_enter Tryd.func6, Tryd.ntmps6
  go_wp2_with fail
  refine SH.out.mono ?_
  rintro e u0 ⟨rfl, k0⟩
  have K0 := hid k0
  clear k0 SH
  go_wp2_with fail
  refine (pnew20 _ (LY.out _ K0.out)).mono ?_
  rintro e u1 ⟨rfl, m1, k1⟩
  obtain ⟨b, hb⟩ : ∃ b, u0.heap.size = b := ⟨_, rfl⟩
  have LB : Hid (w.heap.size ≤ b) := by rw [← hb]; exact K0.out.size
  rw [hb] at m1 ⊢
  have K1 := hid (K0.out.trans k1)
  have M1 := hid m1
  clear k1 m1 hb K0
  go_wp2_with fail
  refine (rnew20 u1).mono ?_
  rintro e u2 ⟨m, rfl, r2, f2, k2⟩
  obtain ⟨bD, hD⟩ : ∃ b, u2.heap.size = b := ⟨_, rfl⟩
  have bl := blk_lt M1.out.blk
  have ks := k2.size
  have P4 : Hid (Pl20 w (u2.alloc (.cells #[.slice m.xv 8192 m.cv, .slice m.xw 8192 m.cw, .slice m.xo 160 m.co, .slice m.xh 127 m.ch] 35)) b bD M0 M0 m) := by
    have ka := (Kept.refl u2).alloc (.cells #[.slice m.xv 8192 m.cv, .slice m.xw 8192 m.cw, .slice m.xo 160 m.co, .slice m.xh 127 m.ch] 35)
    have rl := rm_new (F := fun j => j = bD) r2 (fun j q => by omega)
    have rb := f2 (fun j => j = b) (fun j q => by omega)
    have bn := blk_new u2 (rmL m) 35
    rw [hD] at bn
    exact ⟨mem_kept M1.out (k2.trans ka), rm_kept ka r2, bn, ⟨fun x hx q => q.elim (rb.sv x hx) (rl.sv x hx), fun x hx q => q.elim (rb.sw x hx) (rl.sw x hx), fun x hx q => q.elim (rb.so x hx) (rl.so x hx), fun x hx q => q.elim (rb.sh x hx) (rl.sh x hx)⟩, (K1.out.trans k2).trans ka, LB.out, by have := K1.out.size; omega, by omega⟩
  have HD := hid hD
  clear k2 r2 f2 bl ks M1 K1 LB hD
  go_wp2_with fail
  try rw [HD.out]
  clear HD
  go_loopw [6] (fun iv wr => ∃ (j : Nat) (M : List Int) (m : Rm), j ≤ n ∧ iv = .int .i64 (j : Int) ∧ Pl20 w wr b bD M M m) (fun iv _ => n - (intOf iv).toNat)
  case atStart => exact ⟨0, M0, m, Nat.zero_le _, rfl, P4.out⟩
  case round =>
    clear P4
    obtain ⟨j, M, m, hj, rfl, hP⟩ := hrel
    have PW := hid hP
    clear hP
    by_cases hlt : j < n ∧ j < 80
    · obtain ⟨h1, h2⟩ := hlt
      have g1 : decide ((j : Int) < (n : Int)) = true := decide_eq_true (by omega)
      have g2 : decide ((j : Int) < 80) = true := decide_eq_true (by omega)
      have g3 : (j : Int) < (n : Int) := by omega
      have g30 : (0 : Int) ≤ (j : Int) := by omega
      have g31 : decide (j < n) = true := decide_eq_true h1
      have e1 : IntKind.i64.wrap ((j : Int) + 1) = (j : Int) + 1 := by rw [IntKind.wrap_i64]; omega
      obtain ⟨x, rfl, hx, hc⟩ := FG.out (by omega)
      have f0 := (PW.out.kept.cell (x := x.add (j * 3)) (by rw [addFB]; exact hx)).trans (hc j h1 0 (by decide))
      have f1 := (PW.out.kept.cell (x := x.add (j * 3 + 1)) (by rw [addFB]; exact hx)).trans (hc j h1 1 (by decide))
      have f2 := (PW.out.kept.cell (x := x.add (j * 3 + 2)) (by rw [addFB]; exact hx)).trans (hc j h1 2 (by decide))
      obtain ⟨hA, hV⟩ := QQ.out j h1
      generalize s0.getD j (0, 0, 0) = tt at *
      obtain ⟨T, A, V⟩ := tt
      simp only at hA hV
      have HAV := hid (And.intro hA hV)
      have f0' : wr.cell? (x.add (j * 3)) = some (.int .i64 T) := f0
      have f1' : wr.cell? ⟨(x.add (j * 3)).block, (x.add (j * 3)).off + 1, none⟩ = some (.int .u16 A) := (by rw [show (⟨(x.add (j * 3)).block, (x.add (j * 3)).off + 1, none⟩ : Addr) = (x.add (j * 3)).add 1 by simp [Addr.add], addF]; exact f1)
      have f2' : wr.cell? ⟨(x.add (j * 3)).block, (x.add (j * 3)).off + 2, none⟩ = some (.int .u8 V) := (by rw [show (⟨(x.add (j * 3)).block, (x.add (j * 3)).off + 2, none⟩ : Addr) = (x.add (j * 3)).add 2 by simp [Addr.add], addF]; exact f2)
      have zx : x.block < wr.heap.size := Nat.lt_of_lt_of_le hx PW.out.kept.size
      have NEA : Hid (¬ wr.heap.size = b) := fun e => by have := blk_lt PW.out.mem.blk; omega
      clear f0 f1 f2 hc hA hV
      obtain ⟨hA, hV⟩ := HAV.out
      clear HAV
      by_cases t1 : T = 1
      · subst t1
        have KA := hid ((Kept.refl wr).alloc (.cells #[.int .i64 1, .int .u16 A, .int .u8 V] 38))
        have BA := hid (blk_new wr [.int .i64 1, .int .u16 A, .int .u8 V] 38)
        have PA := hid (PW.out.go KA.out)
        have pb : ∀ (u : World), Kept wr u → u.cell? ⟨bD, 0, none⟩ = some (.slice m.xv 8192 m.cv) ∧ u.cell? ⟨bD, 1, none⟩ = some (.slice m.xw 8192 m.cw) ∧ u.cell? ⟨bD, 2, none⟩ = some (.slice m.xo 160 m.co) ∧ u.cell? ⟨bD, 3, none⟩ = some (.slice m.xh 127 m.ch) := fun u k => by have q := blk_cell (PW.out.go k).blk; exact ⟨q 0, q 1, q 2, q 3⟩
        have PBF := hid pb
        obtain ⟨e0, e1, e2, e3⟩ := PBF.out _ KA.out.drew
        have GP := hid (fun u (k : Kept wr u) => pget20 b M A u (PW.out.go k).mem (LY.out _ (PW.out.go k).kept) hA.1 hA.2)
        have GR := hid (fun u (k : Kept wr u) => rget20 m M A u (PW.out.go k).ref hA.1 hA.2)
        have FA : Hid (∀ u, Kept (wr.alloc (.cells #[.int .i64 1, .int .u16 A, .int .u8 V] 38)) u → u.cell? ⟨wr.heap.size, 1, none⟩ = some (.int .u16 A)) := fun u k => (blk_cell (blk_kept k BA.out) 1)
        have PWK := PW
        generalize getP M A = G at *
        have zb := blk_lt PA.out.blk
        clear pb
        go_wp2_with fail
        go_region_held3 (fun w' => w'.cell? ⟨wr.heap.size, 1, none⟩ = some (.int .u16 A) ∧ w'.cell? ⟨bD, 0, none⟩ = some (.slice m.xv 8192 m.cv) ∧ w'.cell? ⟨bD, 1, none⟩ = some (.slice m.xw 8192 m.cw) ∧ w'.cell? ⟨bD, 2, none⟩ = some (.slice m.xo 160 m.co) ∧ w'.cell? ⟨bD, 3, none⟩ = some (.slice m.xh 127 m.ch)) (go_keep) (first | (go_at_call 20; refine (GP.out _ KA.out.drew).mono ?_; rintro e v1 ⟨rfl, k1⟩; have K1X := hid ((Kept.refl (wr.alloc (.cells #[.int .i64 1, .int .u16 A, .int .u8 V] 38))).drew.trans k1); have K1 := hid (KA.out.drew.trans k1); have f1 := FA.out _ K1X.out; obtain ⟨d0, d1, d2, d3⟩ := PBF.out _ K1.out; clear k1) | (go_at_call 21; refine (GR.out _ K1.out).mono ?_; rintro e v2 ⟨rfl, k2⟩; have K2 := hid (K1.out.trans k2); have f2 := FA.out _ (K1X.out.trans k2); obtain ⟨h0, h1, h2, h3⟩ := PBF.out _ K2.out; clear k2))
        all_goals
          go_wp2_with fail
          go_roundw
          case rel => exact ⟨j + 1, M, m, by omega, by first | go_num | rfl, PW.out.go K2.out⟩
          case measure => first | omega | (simp; omega) | (simp [intOf]; omega)
      by_cases t2 : T = 2
      · subst t2
        have KA := hid ((Kept.refl wr).alloc (.cells #[.int .i64 2, .int .u16 A, .int .u8 V] 38))
        have BA := hid (blk_new wr [.int .i64 2, .int .u16 A, .int .u8 V] 38)
        have PA := hid (PW.out.go KA.out)
        go_wp2_with fail
        refine (pput20 b M A V _ PA.out.mem (LY.out _ PA.out.kept) hA.1 hA.2 hV).mono ?_
        rintro e u1 ⟨rfl, m1, k1⟩
        have P1 := hid (PA.out.put m1 k1)
        have BA1 := hid (blkX k1 BA.out NEA.out)
        have ba := blk_cell BA1.out
        have za := blk_lt BA1.out
        have PB := P1.out.blk
        clear m1 k1 PA BA
        go_wp2_with ((with_reducible refine at_ld 35 ?_); refine wl_load0 rfl rfl rfl PB Tryd.underlying35 rfl (by kernel_rfl) ?_)
        refine (rput20 m M A V _ P1.out.ref hV hA.1 hA.2).mono ?_
        rintro e u2 ⟨m2, rfl, r2, f2, k2⟩
        have PU := hid (fun u3 p => P1.out.ref' k2 r2 f2 (w2 := u3) p)
        have PB2 := blk_kept k2 PB
        clear PB ba za r2 f2
        go_wp2_with ((with_reducible refine at_st 35 ?_); refine wl_store rfl rfl rfl rfl PB2 (by kernel_rfl) rfl (Nat.le_of_ble_eq_true rfl) (fun u3 p3 => ?_); have P3 := hid (PU.out u3 p3); clear p3 PU)
        go_roundw
        case rel => exact ⟨j + 1, putP M A V, m2, by omega, by first | go_num | rfl, P3.out⟩
        case measure => first | omega | (simp; omega) | (simp [intOf]; omega)
      by_cases t3 : T = 3
      · subst t3
        have KA := hid ((Kept.refl wr).alloc (.cells #[.int .i64 3, .int .u16 A, .int .u8 V] 38))
        have BA := hid (blk_new wr [.int .i64 3, .int .u16 A, .int .u8 V] 38)
        have PA := hid (PW.out.go KA.out)
        have w8 : IntKind.u8.wrap A = A % 256 := by rw [IntKind.wrap_u8]
        go_wp2_with fail
        refine (pobj20 b M (A % 256) V _ PA.out.mem (byte_in A).1 (byte_in A).2 hV).mono ?_
        rintro e u1 ⟨rfl, m1, k1⟩
        have P1 := hid (PA.out.put m1 k1)
        have BA1 := hid (blkX k1 BA.out NEA.out)
        have ba := blk_cell BA1.out
        have za := blk_lt BA1.out
        have PB := P1.out.blk
        clear m1 k1 PA BA
        go_wp2_with ((with_reducible refine at_ld 35 ?_); refine wl_load0 rfl rfl rfl PB Tryd.underlying35 rfl (by kernel_rfl) ?_)
        refine (robj20 m M (A % 256) V _ P1.out.ref hV (byte_in A).1).mono ?_
        rintro e u2 ⟨m2, rfl, r2, f2, k2⟩
        have PU := hid (fun u3 p => P1.out.ref' k2 r2 f2 (w2 := u3) p)
        have PB2 := blk_kept k2 PB
        clear PB ba za r2 f2
        go_wp2_with ((with_reducible refine at_st 35 ?_); refine wl_store rfl rfl rfl rfl PB2 (by kernel_rfl) rfl (Nat.le_of_ble_eq_true rfl) (fun u3 p3 => ?_); have P3 := hid (PU.out u3 p3); clear p3 PU)
        go_roundw
        case rel => exact ⟨j + 1, objP20 M (A % 256) V, m2, by omega, by first | go_num | rfl, P3.out⟩
        case measure => first | omega | (simp; omega) | (simp [intOf]; omega)
      by_cases t4 : T = 4
      · subst t4
        have KA := hid ((Kept.refl wr).alloc (.cells #[.int .i64 4, .int .u16 A, .int .u8 V] 38))
        have BA := hid (blk_new wr [.int .i64 4, .int .u16 A, .int .u8 V] 38)
        have PA := hid (PW.out.go KA.out)
        have VR := hid (fun u (k : Kept wr u) => pvram20 b M u (PW.out.go k).mem)
        have OR := hid (fun u (k : Kept wr u) => poam20 b M u (PW.out.go k).mem)
        have ML := hid PW.out.mem.len
        go_wp2_with fail
        refine (VR.out _ KA.out).mono ?_
        rintro e u1 ⟨rfl, v1, k1⟩
        obtain ⟨g, hg⟩ : ∃ g, (wr.alloc (.cells #[.int .i64 4, .int .u16 A, .int .u8 V] 38)).heap.size = g := ⟨_, rfl⟩
        have K1 := hid (KA.out.trans k1)
        have gN : wr.heap.size < g := by rw [← hg, World.size_alloc]; omega
        rw [hg] at v1 ⊢
        have V1 := hid v1
        clear k1 v1 hg
        go_wp2_with fail
        refine (OR.out _ K1.out).mono ?_
        rintro e u2 ⟨rfl, o2, k2⟩
        obtain ⟨h, hh⟩ : ∃ h, u1.heap.size = h := ⟨_, rfl⟩
        have K2 := hid (K1.out.trans k2)
        have gh : g < h := by rw [← hh]; exact blk_lt V1.out
        rw [hh] at o2 ⊢
        have O2 := hid o2
        have V2 := hid (blk_kept k2 V1.out)
        have P2 := hid (PW.out.go K2.out)
        have c1 := conv_cv V2.out ML.out
        have c2 := conv_co O2.out ML.out
        have c3 := conv_v P2.out.ref
        have c4 := conv_o P2.out.ref
        have pb0 : u2.cell? ⟨bD, 0, none⟩ = some (.slice m.xv 8192 m.cv) := blk_cell P2.out.blk 0
        have pb2 : u2.cell? ⟨bD, 2, none⟩ = some (.slice m.xo 160 m.co) := blk_cell P2.out.blk 2
        have zb := blk_lt P2.out.blk
        obtain ⟨NW, hNW⟩ : ∃ n, wr.heap.size = n := ⟨_, rfl⟩
        have BL : Hid ((b < NW ∧ bD < NW) ∧ NW ≤ u2.heap.size ∧ NW < g) := by show _ ∧ _; rw [← hNW]; exact ⟨⟨blk_lt PW.out.mem.blk, blk_lt PW.out.blk⟩, K2.out.size, gN⟩
        clear hNW
        have OF : Hid (RmOff (fun q => q = g ∨ q = h) m) := rm_new PW.out.ref (fun q hq => by rcases hq with hq | hq <;> omega)
        clear o2 k2 V1 hh VR OR K1
        generalize strB (sg M 0 8192) = SV at *
        generalize strB (sg M 16384 160) = SO at *
        go_wp2_with fail
        clear c1 c2 c3 c4 pb0 pb2 zb
        go_loopw [10] (fun kv wr => ∃ (k : Nat) (l : List Int), k ≤ 8192 ∧ kv = .int .i64 (k : Int) ∧ l.length = 8192 ∧ BB20 wr g l ∧ BB20 wr h ((M.drop 16384).take 160) ∧ KeptX (fun q => q = g ∨ q = h) u2 wr) (fun kv _ => 8192 - (intOf kv).toNat)
        case atStart => exact ⟨0, _, Nat.zero_le _, rfl, seg_vram ML.out, V2.out, O2.out, KeptX.refl _⟩
        case round =>
          obtain ⟨k, l, hk, rfl, hl, hb, ho, hx⟩ := hrel
          have HB := hid hb
          have HO := hid ho
          have HX := hid hx
          have HL := hid hl
          clear hb ho hx hl
          by_cases hlt : k < 8192
          · have c0 : wr.cell? ⟨g, k, none⟩ = some (.int .u8 (l.getD k 0)) := by
              rw [blk_cell HB.out, List.getElem?_map, List.getElem?_eq_getElem (by rw [HL.out]; exact hlt), List.getD_eq_getElem?_getD, List.getElem?_eq_getElem (by rw [HL.out]; exact hlt)]
              rfl
            have ca := ownB_add g k
            have zg := blk_lt HB.out
            have HQ := HB.out
            have g4 : decide ((k : Int) < 8192) = true := decide_eq_true (by omega)
            have g5 : (0 : Int) ≤ (k : Int) := by omega
            have g6 : (k : Int) < 8192 := by omega
            have e4 : IntKind.i64.wrap ((k : Int) + 1) = (k : Int) + 1 := by rw [IntKind.wrap_i64]; omega
            generalize l.getD k 0 = X at *
            have NX : Hid ((l.map (Value.int .u8)).take k ++ [Value.int .u8 ((X + 1) % 256)] ++ (l.map (Value.int .u8)).drop (k + 1) = (l.set k ((X + 1) % 256)).map (Value.int .u8)) := by
              show _ = _
              rw [set_at20 _ (by rw [List.length_map, HL.out]; exact hlt), List.map_set]
            go_wp2_with ((with_reducible refine at_st 5 ?_); refine wl_store (o := k) rfl rfl rfl rfl HQ (by kernel_rfl) rfl (by rw [List.length_map, HL.out]; show k + 1 ≤ 8192; omega) (fun v3 p3 => ?_); have B3 := hid (show BB20 v3 g (l.set k ((X + 1) % 256)) by (show Blk _ _ _ _; rw [← NX.out]; exact p3.blk)); have O3 := hid (p3.other _ _ _ (by omega) HO.out); have X3 := hid (p3.keptX (fun q => q = g ∨ q = h) _ HX.out (.inl (.inl rfl))); clear p3)
            go_roundw
            case rel => exact ⟨k + 1, l.set k _, by omega, by first | go_num | rfl, by rw [List.length_set]; exact HL.out, B3.out, O3.out, X3.out⟩
            case measure => first | omega | (simp; omega) | (simp [intOf]; omega)
          · have g4 : decide ((k : Int) < 8192) = false := decide_eq_false (by omega)
            have g7 : decide (k < 8192) = false := decide_eq_false hlt
            clear HB HL V2 O2
            go_wp2_with fail
            go_loopw [11] (fun kv wr => ∃ (k : Nat) (l : List Int), k ≤ 160 ∧ kv = .int .i64 (k : Int) ∧ l.length = 160 ∧ BB20 wr h l ∧ KeptX (fun q => q = g ∨ q = h) u2 wr) (fun kv _ => 160 - (intOf kv).toNat)
            case atStart => exact ⟨0, _, Nat.zero_le _, rfl, seg_oam ML.out, HO.out, HX.out⟩
            case round =>
              obtain ⟨k, l, hk, rfl, hl, hb, hx⟩ := hrel
              have HB := hid hb
              have HX := hid hx
              have HL := hid hl
              clear hb hx hl HO
              by_cases hlt : k < 160
              · have c0 : wr.cell? ⟨h, k, none⟩ = some (.int .u8 (l.getD k 0)) := by
                  rw [blk_cell HB.out, List.getElem?_map, List.getElem?_eq_getElem (by rw [HL.out]; exact hlt), List.getD_eq_getElem?_getD, List.getElem?_eq_getElem (by rw [HL.out]; exact hlt)]
                  rfl
                have ca := ownB_add h k
                have zg := blk_lt HB.out
                have HQ := HB.out
                have g4 : decide ((k : Int) < 160) = true := decide_eq_true (by omega)
                have g5 : (0 : Int) ≤ (k : Int) := by omega
                have g6 : (k : Int) < 160 := by omega
                have e4 : IntKind.i64.wrap ((k : Int) + 1) = (k : Int) + 1 := by rw [IntKind.wrap_i64]; omega
                generalize l.getD k 0 = X at *
                have NX : Hid ((l.map (Value.int .u8)).take k ++ [Value.int .u8 ((X + 1) % 256)] ++ (l.map (Value.int .u8)).drop (k + 1) = (l.set k ((X + 1) % 256)).map (Value.int .u8)) := by
                  show _ = _
                  rw [set_at20 _ (by rw [List.length_map, HL.out]; exact hlt), List.map_set]
                go_wp2_with ((with_reducible refine at_st 5 ?_); refine wl_store (o := k) rfl rfl rfl rfl HQ (by kernel_rfl) rfl (by rw [List.length_map, HL.out]; show k + 1 ≤ 160; omega) (fun v3 p3 => ?_); have B3 := hid (show BB20 v3 h (l.set k ((X + 1) % 256)) by (show Blk _ _ _ _; rw [← NX.out]; exact p3.blk)); have X3 := hid (p3.keptX (fun q => q = g ∨ q = h) _ HX.out (.inl (.inr rfl))); clear p3)
                go_roundw
                case rel => exact ⟨k + 1, l.set k _, by omega, by first | go_num | rfl, by rw [List.length_set]; exact HL.out, B3.out, X3.out⟩
                case measure => first | omega | (simp; omega) | (simp [intOf]; omega)
              · have g4 : decide ((k : Int) < 160) = false := decide_eq_false (by omega)
                have g8 : decide (k < 160) = false := decide_eq_false hlt
                have P5 := hid (P2.out.X HX.out (n := NW) (fun q hq => by have z := BL.out.2.2; rcases hq with hq | hq <;> omega) BL.out.2.1 BL.out.1.1 BL.out.1.2 OF.out)
                clear HB HL
                go_wp2_with fail
                go_roundw
                case rel => exact ⟨j + 1, M, m, by omega, by first | go_num | rfl, P5.out⟩
                case measure => first | omega | (simp; omega) | (simp [intOf]; omega)
      have KA := hid ((Kept.refl wr).alloc (.cells #[.int .i64 T, .int .u16 A, .int .u8 V] 38))
      have PA := hid (PW.out.go KA.out)
      have n1 : (T == 1) = false := beq_false_of_ne t1
      have n2 : (T == 2) = false := beq_false_of_ne t2
      have n3 : (T == 3) = false := beq_false_of_ne t3
      have n4 : (T == 4) = false := beq_false_of_ne t4
      clear t1 t2 t3 t4
      go_wp2_with fail
      go_roundw
      case rel => exact ⟨j + 1, M, m, by omega, by first | go_num | rfl, PA.out⟩
      case measure => first | omega | (simp; omega) | (simp [intOf]; omega)
    · by_cases h1 : j < n
      · have g1 : decide ((j : Int) < (n : Int)) = true := decide_eq_true (by omega)
        have g31 : decide (j < n) = true := decide_eq_true h1
        have g2 : decide ((j : Int) < 80) = false := decide_eq_false (by omega)
        have VR := hid (fun u (k : Kept wr u) => pvram20 b M u (PW.out.go k).mem)
        have OR := hid (fun u (k : Kept wr u) => poam20 b M u (PW.out.go k).mem)
        have ML := hid PW.out.mem.len
        have KR := hid (Kept.refl wr)
        have CC : Hid (∀ u, Kept wr u → u.cell? ⟨bD, 0, none⟩ = some (.slice m.xv 8192 m.cv) ∧ u.cell? ⟨bD, 2, none⟩ = some (.slice m.xo 160 m.co) ∧ (convert 33 9 (.slice m.xv 8192 m.cv)).run Tryd.prog u = .ok (.string (strB (sg M 0 8192))) u ∧ (convert 33 9 (.slice m.xo 160 m.co)).run Tryd.prog u = .ok (.string (strB (sg M 16384 160))) u) := fun u k => ⟨blk_cell (PW.out.go k).blk 0, blk_cell (PW.out.go k).blk 2, conv_v (PW.out.go k).ref, conv_o (PW.out.go k).ref⟩
        have CV := hid (fun (u : World) (g : Nat) (q : BB20 u g ((M.drop 0).take 8192)) => conv_cv q ML.out)
        have CO := hid (fun (u : World) (g : Nat) (q : BB20 u g ((M.drop 16384).take 160)) => conv_co q ML.out)
        generalize strB (sg M 0 8192) = SV at *
        generalize strB (sg M 16384 160) = SO at *
        obtain ⟨e0, e1, e2, e3⟩ := CC.out _ KR.out.drew
        have zb := blk_lt PW.out.blk
        go_wp2_with fail
        go_region_held (fun w' => w'.cell? ⟨bD, 0, none⟩ = some (.slice m.xv 8192 m.cv) ∧ w'.cell? ⟨bD, 2, none⟩ = some (.slice m.xo 160 m.co) ∧ (convert 33 9 (.slice m.xv 8192 m.cv)).run Tryd.prog w' = .ok (.string SV) w' ∧ (convert 33 9 (.slice m.xo 160 m.co)).run Tryd.prog w' = .ok (.string SO) w') (go_keep) (first | (go_at_call 26; refine (VR.out _ KR.out.drew).mono ?_; rintro e v1 ⟨rfl, b1, k1⟩; have K1 := hid (KR.out.drew.trans k1); have x1 : (convert 33 9 (.slice (some ⟨wr.heap.size, 0, none⟩) 8192 8192)).run Tryd.prog v1 = .ok (.string SV) v1 := CV.out _ _ b1; obtain ⟨d0, d1, d2, d3⟩ := CC.out _ K1.out; clear k1 b1) | (go_at_call 27; refine (OR.out _ K1.out).mono ?_; rintro e v2 ⟨rfl, b2, k2⟩; have K2 := hid (K1.out.trans k2); have x2 := CO.out _ _ b2; obtain ⟨h0, h1, h2, h3⟩ := CC.out _ K2.out; clear k2 b2))
        all_goals
          go_wp2
          go_ret
          exact ⟨rfl, (PW.out.go K2.out).kept⟩
      · have g1 : decide ((j : Int) < (n : Int)) = false := decide_eq_false (by omega)
        have g31 : decide (j < n) = false := decide_eq_false h1
        have VR := hid (fun u (k : Kept wr u) => pvram20 b M u (PW.out.go k).mem)
        have OR := hid (fun u (k : Kept wr u) => poam20 b M u (PW.out.go k).mem)
        have ML := hid PW.out.mem.len
        have KR := hid (Kept.refl wr)
        have CC : Hid (∀ u, Kept wr u → u.cell? ⟨bD, 0, none⟩ = some (.slice m.xv 8192 m.cv) ∧ u.cell? ⟨bD, 2, none⟩ = some (.slice m.xo 160 m.co) ∧ (convert 33 9 (.slice m.xv 8192 m.cv)).run Tryd.prog u = .ok (.string (strB (sg M 0 8192))) u ∧ (convert 33 9 (.slice m.xo 160 m.co)).run Tryd.prog u = .ok (.string (strB (sg M 16384 160))) u) := fun u k => ⟨blk_cell (PW.out.go k).blk 0, blk_cell (PW.out.go k).blk 2, conv_v (PW.out.go k).ref, conv_o (PW.out.go k).ref⟩
        have CV := hid (fun (u : World) (g : Nat) (q : BB20 u g ((M.drop 0).take 8192)) => conv_cv q ML.out)
        have CO := hid (fun (u : World) (g : Nat) (q : BB20 u g ((M.drop 16384).take 160)) => conv_co q ML.out)
        generalize strB (sg M 0 8192) = SV at *
        generalize strB (sg M 16384 160) = SO at *
        obtain ⟨e0, e1, e2, e3⟩ := CC.out _ KR.out.drew
        have zb := blk_lt PW.out.blk
        go_wp2_with fail
        go_region_held (fun w' => w'.cell? ⟨bD, 0, none⟩ = some (.slice m.xv 8192 m.cv) ∧ w'.cell? ⟨bD, 2, none⟩ = some (.slice m.xo 160 m.co) ∧ (convert 33 9 (.slice m.xv 8192 m.cv)).run Tryd.prog w' = .ok (.string SV) w' ∧ (convert 33 9 (.slice m.xo 160 m.co)).run Tryd.prog w' = .ok (.string SO) w') (go_keep) (first | (go_at_call 26; refine (VR.out _ KR.out.drew).mono ?_; rintro e v1 ⟨rfl, b1, k1⟩; have K1 := hid (KR.out.drew.trans k1); have x1 : (convert 33 9 (.slice (some ⟨wr.heap.size, 0, none⟩) 8192 8192)).run Tryd.prog v1 = .ok (.string SV) v1 := CV.out _ _ b1; obtain ⟨d0, d1, d2, d3⟩ := CC.out _ K1.out; clear k1 b1) | (go_at_call 27; refine (OR.out _ K1.out).mono ?_; rintro e v2 ⟨rfl, b2, k2⟩; have K2 := hid (K1.out.trans k2); have x2 := CO.out _ _ b2; obtain ⟨h0, h1, h2, h3⟩ := CC.out _ K2.out; clear k2 b2))
        all_goals
          go_wp2
          go_ret
          exact ⟨rfl, (PW.out.go K2.out).kept⟩
end Go.Proofs.YtfndpikcodjajaaDoor
