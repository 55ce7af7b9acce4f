/- Layer 17: TilesSheet. -/
import Derived.Test.YtdimkeknjhdjfabSh17g
import Derived.Test.YtdimkeknjhdjfabFlats
namespace Go.Proofs.Ytdimkeknjhdjfab
open Go.RowKit
set_option linter.unusedVariables false
set_option linter.unusedSimpArgs false

def elA17 (x : Int × Int × Int) : List Value := [.int .i64 x.1, .int .i64 x.2.1, .int .i64 x.2.2]
theorem sheet_low {w : World} {m b : Nat} {z : List Int} {n : Int} (h : SheetAt w m b z n) : m ≤ b := by
  rcases h with ⟨_, _, _, _, _, hm⟩ | ⟨_, hm⟩ <;> exact hm
theorem own_at17 {w : World} {base n c : Nat} {a : Option Addr} {L : List Int} (hl : L.length = n) (o : w.ownsRow base 5 1 (.slice a n c) n (L.map (Value.int .u8))) (hn : 0 < n) :
    ∃ g, a = some ⟨g, 0, none⟩ ∧ g < w.heap.size ∧ (∀ j, j < n → w.cell? ⟨g, j, none⟩ = some (.int .u8 (L.getD j 0)) ∧ w.frozen? ⟨g, j, none⟩ = false) ∧ (∀ j x, (w.setCell ⟨g, j, none⟩ (.int .u8 x)).ownsRow base 5 1 (.slice a n c) n ((L.set j x).map (Value.int .u8))) := by
  subst hl
  obtain ⟨g, cap, e, hg⟩ := own_slice o hn
  injection e with e1 e2 e3
  subst e1 e3
  have ob : OwnB w base g c L := o
  refine ⟨g, rfl, (ownB_lt ob).2, fun j hj => ⟨ownB_cell ob j hj, ownB_frz ob j⟩, fun j x => ?_⟩
  have q := ownB_set ob j x
  unfold OwnB at q
  rw [List.length_set] at q
  exact q
theorem col17_end : colP (([] : List Int).take 6144) 383 7 7 = 3 := by rfl
set_option maxRecDepth 100000 in
set_option maxHeartbeats 8000000 in
theorem sheet_any (a0 : Option Addr) (cap0 : Nat) (z0 : List Int) (a1 : Option Addr) (cap1 : Nat) (s1 : List (Int × Int × Int)) (w : World) (r0 : Row w a0 z0) (l0 : z0.length ≤ cap0) (m0 : cap0 ≤ maxLen) (b0 : z0.length ≤ 140737488355328) (n0 : a0 = none → cap0 = 0) (r1 : FRow w a1 3 (s1.map elA17)) (l1 : s1.length ≤ cap1) (m1 : cap1 ≤ maxLen) :
    Calls Try.prog 3 #[.slice a0 z0.length cap0, .slice a1 s1.length cap1] w fun e w' => e = .returned (.bool true) ∧ Kept w w' := by
  have SB : Sl w a0 cap0 z0 := ⟨r0, l0, m0, n0⟩
  have R0 := hid r0
  have ZB := hid r0.2.1
  have FG := hid (frow_getD (0, 0, 0) r1)
  have O1 := hid (own_empty w (Nat.le_refl _))
  have KA := hid ((Kept.refl w).alloc (.cells #[] 5))
  have S0 := hid (sl_kept KA.out SB)
  obtain ⟨Z, hZ⟩ : ∃ Z, (shL false (.slice none 0 0) 0 0 0 pix0 0).toArray = Z := ⟨_, rfl⟩
  have hz0 : ∀ u, (zeroValue 50).run Try.prog u = .ok (.agg Z) u := fun u => by rw [← hZ]; exact zero17 u
  have hz1 : ¬ Z = #[] := by rw [← hZ]; intro q; have := congrArg Array.size q; rw [List.size_toArray, shL_len pix0_len] at this; simp at this
  have BZ0 : Hid (∀ u : World, Blk (u.alloc (.cells Z 50)) u.heap.size 50 (shL false (.slice none 0 0) 0 0 0 pix0 0)) := fun u => by rw [← hZ]; exact blk_new u _ _
  clear hZ r0 r1 SB
  obtain ⟨n, hn⟩ : ∃ n : Nat, z0.length = n := ⟨_, rfl⟩
  have HN := hid hn
  have n64 : n ≤ 140737488355328 := by omega
  rw [hn] at l0 b0 ⊢
  clear hn
  by_cases hl : s1.length ≤ 200
  · have h1 : ¬ (200 : Int) < (s1.length : Int) := by omega
    have h2 : decide ((200 : Int) < (s1.length : Int)) = false := decide_eq_false h1
    go_enter Try.func3, Try.ntmps3
    go_wp2_with (at_builtin; refine wl_append O1.out S0.out rfl rfl rfl rfl HN.out.symm (by simp) (by rw [HN.out]; simp; omega) (fun v2 u2 o2 g2 => ?_); rw [List.nil_append] at o2; have K2 := hid (KA.out.by g2 (fun j h => by simp [Value.ownBlock] at h; subst h; exact Nat.le_refl _)); have O2 := hid o2; clear g2 o2; refine Hid.out ?_)
    refine hid ?_
    obtain ⟨a2, c2, rfl, s2, nw2⟩ := own_sl O2.out ZB.out
    rw [HN.out] at O2
    have C1 := hid (new17 a2 c2 z0 u2 s2)
    rw [HN.out] at C1
    clear s2 nw2 O1 S0 KA
    try rw [HN.out]
    go_wp2_with fail
    refine C1.out.mono ?_
    rintro e u3 ⟨b, rfl, s3, k3⟩
    have K3 := hid (K2.out.trans k3)
    have O3 := hid (owns_kept k3 O2.out)
    have S3 := hid s3
    have LOW := hid (Nat.le_trans K2.out.size (sheet_low s3))
    have FOhi : Hid (∀ k, a2 = some ⟨k, 0, none⟩ → k < u2.heap.size) := fun k e => (O2.out.lt k (by rw [e]; rfl)).2
    have FOlo : Hid (∀ k, a2 = some ⟨k, 0, none⟩ → w.heap.size ≤ k) := fun k e => (O2.out.lt k (by rw [e]; rfl)).1
    have A3 := hid (asked17 _ _ _ _ _ s3)
    clear s3 k3 C1 K2 O2
    go_wp2_with fail
    refine A3.out.mono ?_
    rintro e u4 ⟨rfl, hu⟩
    subst hu
    go_wp2_with fail
    go_loopw [7] (fun iv wr => ∃ (j : Nat) (L : List Int), j ≤ n ∧ iv = .int .i64 (j : Int) ∧ L.length = n ∧ wr.ownsRow w.heap.size 5 1 (.slice a2 n c2) n (L.map (Value.int .u8)) ∧ KeptX (fun k => a2 = some ⟨k, 0, none⟩) u4 wr) (fun iv _ => n - (intOf iv).toNat)
    case atStart => exact ⟨0, z0, Nat.zero_le _, rfl, HN.out, O3.out, KeptX.refl _⟩
    case round =>
      obtain ⟨j, L, hj, rfl, hL, ho, hk⟩ := hrel
      have KX := hid hk
      have OO := hid ho
      have HL := hid hL
      clear hk ho hL
      by_cases hlt : j < n
      · obtain ⟨g, rfl, gl, gc, gs⟩ := own_at17 HL.out OO.out (by omega)
        obtain ⟨cc, cf⟩ := gc j hlt
        have ca := ownB_add g j
        have GS := hid gs
        generalize L.getD j 0 = V at *
        have g1 : decide ((j : Int) < (n : Int)) = true := decide_eq_true (by omega)
        have g3 : (j : Int) < (n : Int) := by omega
        clear gc gs
        go_wp2
        go_roundw
        case rel => exact ⟨j + 1, L.set j _, by omega, by go_num, by rw [List.length_set]; exact HL.out, GS.out j _, KX.out.setCell (.inl rfl) j _⟩
        case measure => first | omega | (simp; omega) | (simp [intOf]; omega)
      · have S5 := hid (sheet_keptX S3.out KX.out FOhi.out)
        have K5 := hid (KX.out.kept K3.out FOlo.out)
        have g1 : decide ((j : Int) < (n : Int)) = false := decide_eq_false (by omega)
        clear S3 K3 KX OO HL FOhi FOlo A3 O3
        go_wp2_with fail
        go_loopw [8, 9] (fun iv av wr => ∃ j : Nat, j ≤ s1.length ∧ iv = .int .i64 (j : Int) ∧ SheetAt wr u2.heap.size b (z0.take 6144) (j : Int) ∧ Kept w wr) (fun iv _ _ => s1.length - (intOf iv).toNat)
        case atStart => exact ⟨0, Nat.zero_le _, rfl, S5.out, K5.out⟩
        case round =>
          obtain ⟨j, hj, rfl, hs, hk⟩ := hrel
          have KK := hid hk
          have HS := hid hs
          have BL := hid (sheet_cells hs).2.2.2
          clear hk hs S5 K5
          by_cases hlt : j < s1.length
          · obtain ⟨x, rfl, hx, hc⟩ := FG.out (by omega)
            have f0 := (KK.out.cell (x := x.add (j * 3)) (by rw [addFB]; exact hx)).trans (hc j (by omega) 0 (by decide))
            have f1 := (KK.out.cell (x := x.add (j * 3 + 1)) (by rw [addFB]; exact hx)).trans (hc j (by omega) 1 (by decide))
            have f2 := (KK.out.cell (x := x.add (j * 3 + 2)) (by rw [addFB]; exact hx)).trans (hc j (by omega) 2 (by decide))
            clear hc
            generalize s1.getD j (0, 0, 0) = tt at *
            obtain ⟨T, X, Y⟩ := tt
            have f0' : wr.cell? (x.add (j * 3)) = some (.int .i64 T) := f0
            have f1' : wr.cell? ⟨(x.add (j * 3)).block, (x.add (j * 3)).off + 1, none⟩ = some (.int .i64 X) := (by rw [show (⟨(x.add (j * 3)).block, (x.add (j * 3)).off + 1, none⟩ : Addr) = (x.add (j * 3)).add 1 by simp [Addr.add], addF]; exact f1)
            have f2' : wr.cell? ⟨(x.add (j * 3)).block, (x.add (j * 3)).off + 2, none⟩ = some (.int .i64 Y) := (by rw [show (⟨(x.add (j * 3)).block, (x.add (j * 3)).off + 2, none⟩ : Addr) = (x.add (j * 3)).add 2 by simp [Addr.add], addF]; exact f2)
            have zx : x.block < wr.heap.size := Nat.lt_of_lt_of_le hx KK.out.size
            have CO0 := fun u (k : Kept wr u) => color17 u2.heap.size b (z0.take 6144) (j : Int) T X Y u (sheet_kept HS.out k) (by omega) (by omega)
            simp only [col_take] at CO0
            have CO := hid CO0
            have RC0 := fun u h => rcolor17 a0 cap0 z0 T X Y u h
            rw [HN.out] at RC0
            have RC := hid RC0
            have AS := hid (fun u (h : SheetAt u u2.heap.size b (z0.take 6144) ((j : Int) + 1)) => asked17 u2.heap.size b (z0.take 6144) ((j : Int) + 1) u h)
            generalize colP z0 T X Y = V at *
            have BA := hid (blk_new wr [.int .i64 T, .int .i64 X, .int .i64 Y] 28)
            have ba := blk_cell BA.out
            have g2 : decide ((j : Int) < ((s1.length : Nat) : Int)) = true := decide_eq_true (by omega)
            have g3 : (j : Int) < ((s1.length : Nat) : Int) := by omega
            have g4 : decide (j < s1.length) = true := decide_eq_true hlt
            have e1 : IntKind.i64.wrap ((j : Int) + 1) = (j : Int) + 1 := by rw [IntKind.wrap_i64]; omega
            clear CO0 RC0 f0 f1 f2
            go_wp2_with fail
            refine wp_region_held_drew (S := (fun w' => w'.cell? ⟨wr.heap.size, 0, none⟩ = some (.int .i64 T) ∧ w'.cell? ⟨wr.heap.size, 1, none⟩ = some (.int .i64 X) ∧ w'.cell? ⟨wr.heap.size, 2, none⟩ = some (.int .i64 Y))) (by kernel_rfl) (by go_keep) (fun hHeld => ?_)
            refine wpAnyH_take (i := 0) (v := ?_) rfl (by kernel_rfl) (by kernel_rfl) (by kernel_rfl) (fun _ _ _ h => h) (Or.inl ⟨by rfl, ?_⟩) (by assumption) ?_
            rotate_left
            · intro w hSw
              (try dsimp only at hSw)
              go_simp
              try with_reducible rfl
            simp only [Act.put, List.getElem_toArray, List.getElem_cons_succ, List.getElem_cons_zero, List.setIfInBounds_toArray, List.set_cons_zero, List.set_cons_succ]
            refine wpAnyH_take (i := 1) (v := ?_) rfl (by kernel_rfl) (by kernel_rfl) (by kernel_rfl) (fun _ _ _ h => h) (Or.inl ⟨by rfl, ?_⟩) (by assumption) ?_
            rotate_left
            · intro w hSw
              (try dsimp only at hSw)
              go_simp
              try with_reducible rfl
            simp only [Act.put, List.getElem_toArray, List.getElem_cons_succ, List.getElem_cons_zero, List.setIfInBounds_toArray, List.set_cons_zero, List.set_cons_succ]
            refine wpAnyH_take (i := 2) (v := ?_) rfl (by kernel_rfl) (by kernel_rfl) (by kernel_rfl) (fun _ _ _ h => h) (Or.inl ⟨by rfl, ?_⟩) (by assumption) ?_
            rotate_left
            · intro w hSw
              (try dsimp only at hSw)
              go_simp
              try with_reducible rfl
            simp only [Act.put, List.getElem_toArray, List.getElem_cons_succ, List.getElem_cons_zero, List.setIfInBounds_toArray, List.set_cons_zero, List.set_cons_succ]
            refine wpAnyH_take (i := 3) (v := ?_) rfl (by kernel_rfl) (by kernel_rfl) (by kernel_rfl) (fun _ _ _ h => h) (Or.inl ⟨by rfl, ?_⟩) (by assumption) ?_
            rotate_left
            · intro w hSw
              (try dsimp only at hSw)
              go_simp
              try with_reducible rfl
            simp only [Act.put, List.getElem_toArray, List.getElem_cons_succ, List.getElem_cons_zero, List.setIfInBounds_toArray, List.set_cons_zero, List.set_cons_succ]
            refine wpAnyH_take (i := 4) (v := ?_) rfl (by kernel_rfl) (by kernel_rfl) (by kernel_rfl) (fun _ _ _ h => h) (Or.inl ⟨by rfl, ?_⟩) (by assumption) ?_
            rotate_left
            · intro w hSw
              (try dsimp only at hSw)
              go_simp
              try with_reducible rfl
            simp only [Act.put, List.getElem_toArray, List.getElem_cons_succ, List.getElem_cons_zero, List.setIfInBounds_toArray, List.set_cons_zero, List.set_cons_succ]
            refine wpAnyH_take (i := 5) (v := ?_) rfl (by kernel_rfl) (by kernel_rfl) (by kernel_rfl) (fun _ _ _ h => h) (Or.inl ⟨by rfl, ?_⟩) (by assumption) ?_
            rotate_left
            · intro w hSw
              (try dsimp only at hSw)
              go_simp
              try with_reducible rfl
            simp only [Act.put, List.getElem_toArray, List.getElem_cons_succ, List.getElem_cons_zero, List.setIfInBounds_toArray, List.set_cons_zero, List.set_cons_succ]
            refine wpAnyH_take (i := 6) (v := ?_) rfl (by kernel_rfl) (by kernel_rfl) (by kernel_rfl) (fun _ _ _ h => h) (Or.inl ⟨by rfl, ?_⟩) (by assumption) ?_
            rotate_left
            · intro w hSw
              (try dsimp only at hSw)
              go_simp
              try with_reducible rfl
            simp only [Act.put, List.getElem_toArray, List.getElem_cons_succ, List.getElem_cons_zero, List.setIfInBounds_toArray, List.set_cons_zero, List.set_cons_succ]
            refine wpAnyH_take (i := 8) (v := ?_) rfl (by kernel_rfl) (by kernel_rfl) (by kernel_rfl) (fun _ _ _ h => h) (Or.inl ⟨by rfl, ?_⟩) (by assumption) ?_
            rotate_left
            · intro w hSw
              (try dsimp only at hSw)
              go_simp
              try with_reducible rfl
            simp only [Act.put, List.getElem_toArray, List.getElem_cons_succ, List.getElem_cons_zero, List.setIfInBounds_toArray, List.set_cons_zero, List.set_cons_succ]
            refine wpAnyH_take (i := 9) (v := ?_) rfl (by kernel_rfl) (by kernel_rfl) (by kernel_rfl) (fun _ _ _ h => h) (Or.inl ⟨by rfl, ?_⟩) (by assumption) ?_
            rotate_left
            · intro w hSw
              (try dsimp only at hSw)
              go_simp
              try with_reducible rfl
            simp only [Act.put, List.getElem_toArray, List.getElem_cons_succ, List.getElem_cons_zero, List.setIfInBounds_toArray, List.set_cons_zero, List.set_cons_succ]
            refine wpAnyH_take (i := 10) (v := ?_) rfl (by kernel_rfl) (by kernel_rfl) (by kernel_rfl) (fun _ _ _ h => h) (Or.inl ⟨by rfl, ?_⟩) (by assumption) ?_
            rotate_left
            · intro w hSw
              (try dsimp only at hSw)
              go_simp
              try with_reducible rfl
            simp only [Act.put, List.getElem_toArray, List.getElem_cons_succ, List.getElem_cons_zero, List.setIfInBounds_toArray, List.set_cons_zero, List.set_cons_succ]
            refine wpAnyH_take (i := 11) (v := ?_) rfl (by kernel_rfl) (by kernel_rfl) (by kernel_rfl) (fun _ _ _ h => h) (Or.inl ⟨by rfl, ?_⟩) (by assumption) ?_
            rotate_left
            · intro w hSw
              (try dsimp only at hSw)
              go_simp
              try with_reducible rfl
            simp only [Act.put, List.getElem_toArray, List.getElem_cons_succ, List.getElem_cons_zero, List.setIfInBounds_toArray, List.set_cons_zero, List.set_cons_succ]
            refine wpAnyH_take (i := 12) (v := ?_) rfl (by kernel_rfl) (by kernel_rfl) (by kernel_rfl) (fun _ _ _ h => h) (Or.inl ⟨by rfl, ?_⟩) (by assumption) ?_
            rotate_left
            · intro w hSw
              (try dsimp only at hSw)
              go_simp
              try with_reducible rfl
            simp only [Act.put, List.getElem_toArray, List.getElem_cons_succ, List.getElem_cons_zero, List.setIfInBounds_toArray, List.set_cons_zero, List.set_cons_succ]
            refine wpAnyH_take (i := 13) (v := ?_) rfl (by kernel_rfl) (by kernel_rfl) (by kernel_rfl) (fun _ _ _ h => h) (Or.inl ⟨by rfl, ?_⟩) (by assumption) ?_
            rotate_left
            · intro w hSw
              (try dsimp only at hSw)
              go_simp
              try with_reducible rfl
            simp only [Act.put, List.getElem_toArray, List.getElem_cons_succ, List.getElem_cons_zero, List.setIfInBounds_toArray, List.set_cons_zero, List.set_cons_succ]
            refine wpAnyH_take (i := 14) (v := ?_) rfl (by kernel_rfl) (by kernel_rfl) (by kernel_rfl) (fun _ _ _ h => h) (Or.inl ⟨by rfl, ?_⟩) (by assumption) ?_
            rotate_left
            · intro w hSw
              (try dsimp only at hSw)
              go_simp
              try with_reducible rfl
            simp only [Act.put, List.getElem_toArray, List.getElem_cons_succ, List.getElem_cons_zero, List.setIfInBounds_toArray, List.set_cons_zero, List.set_cons_succ]
            refine wpAnyH_ready (rs := [7]) (by kernel_rfl) (by simp) ?_
            refine AllReadyH.cons rfl (fun K hK => ?_) AllReadyH.nil
            go_simp
            refine (CO.out _ ((Kept.refl wr).alloc (.cells ([.int .i64 T, .int .i64 X, .int .i64 Y] : List Value).toArray 28)).drew).mono ?_
            rintro e y1 ⟨rfl, s1, q1⟩
            have B1 := blkX q1 (blk_drew BA.out) (by show ¬ wr.heap.size = b; have := BL.out; omega)
            have K1 := hid (q1.kept (KK.out.alloc (.cells ([.int .i64 T, .int .i64 X, .int .i64 Y] : List Value).toArray 28)).drew (fun k h => by subst h; exact LOW.out))
            have S1 := hid s1
            have b1 := blk_cell B1
            clear q1 s1
            refine hK.out _ _ (by go_keep) (fun hHeld => ?_)
            clear hK K
            try simp only [Act.put, List.getElem_toArray, List.getElem_cons_succ, List.getElem_cons_zero, List.setIfInBounds_toArray, List.set_cons_zero, List.set_cons_succ]
            refine wpAnyH_ready (rs := [15]) (by kernel_rfl) (by simp) ?_
            refine AllReadyH.cons rfl (fun K hK => ?_) AllReadyH.nil
            go_simp
            refine (RC.out _ (row_kept K1.out R0.out)).mono ?_
            rintro e y2 ⟨rfl, q2⟩
            have B2 := blk_kept q2 B1
            have K2 := hid (K1.out.trans q2)
            have S2 := hid (sheet_kept S1.out q2)
            have b2 := blk_cell B2
            clear q2 b1
            refine hK.out _ _ (by go_keep) (fun hHeld => ?_)
            clear hK K
            try simp only [Act.put, List.getElem_toArray, List.getElem_cons_succ, List.getElem_cons_zero, List.setIfInBounds_toArray, List.set_cons_zero, List.set_cons_succ]
            refine wpAnyH_take (i := 16) (v := ?_) rfl (by kernel_rfl) (by kernel_rfl) (by kernel_rfl) (fun _ _ _ h => h) (Or.inl ⟨by rfl, ?_⟩) (by assumption) ?_
            rotate_left
            · intro w hSw
              (try dsimp only at hSw)
              go_simp
              try with_reducible rfl
            simp only [Act.put, List.getElem_toArray, List.getElem_cons_succ, List.getElem_cons_zero, List.setIfInBounds_toArray, List.set_cons_zero, List.set_cons_succ]
            refine wpAnyH_take (i := 17) (v := ?_) rfl (by kernel_rfl) (by kernel_rfl) (by kernel_rfl) (fun _ _ _ h => h) (Or.inl ⟨by rfl, ?_⟩) (by assumption) ?_
            rotate_left
            · intro w hSw
              (try dsimp only at hSw)
              go_simp
              try with_reducible rfl
            simp only [Act.put, List.getElem_toArray, List.getElem_cons_succ, List.getElem_cons_zero, List.setIfInBounds_toArray, List.set_cons_zero, List.set_cons_succ]
            refine wpAnyH_take (i := 18) (v := ?_) rfl (by kernel_rfl) (by kernel_rfl) (by kernel_rfl) (fun _ _ _ h => h) (Or.inl ⟨by rfl, ?_⟩) (by assumption) ?_
            rotate_left
            · intro w hSw
              (try dsimp only at hSw)
              go_simp
              try with_reducible rfl
            simp only [Act.put, List.getElem_toArray, List.getElem_cons_succ, List.getElem_cons_zero, List.setIfInBounds_toArray, List.set_cons_zero, List.set_cons_succ]
            refine wpAnyH_take (i := 20) (v := ?_) rfl (by kernel_rfl) (by kernel_rfl) (by kernel_rfl) (fun _ _ _ h => h) (Or.inl ⟨by rfl, ?_⟩) (by assumption) ?_
            rotate_left
            · intro w hSw
              (try dsimp only at hSw)
              go_simp
              try with_reducible rfl
            simp only [Act.put, List.getElem_toArray, List.getElem_cons_succ, List.getElem_cons_zero, List.setIfInBounds_toArray, List.set_cons_zero, List.set_cons_succ]
            refine wpAnyH_take (i := 21) (v := ?_) rfl (by kernel_rfl) (by kernel_rfl) (by kernel_rfl) (fun _ _ _ h => h) (Or.inl ⟨by rfl, ?_⟩) (by assumption) ?_
            rotate_left
            · intro w hSw
              (try dsimp only at hSw)
              go_simp
              try with_reducible rfl
            simp only [Act.put, List.getElem_toArray, List.getElem_cons_succ, List.getElem_cons_zero, List.setIfInBounds_toArray, List.set_cons_zero, List.set_cons_succ]
            refine wpAnyH_ready (rs := [19]) (by kernel_rfl) (by simp) ?_
            refine AllReadyH.cons rfl (fun K hK => ?_) AllReadyH.nil
            go_simp
            refine (AS.out _ S2.out).mono ?_
            rintro e y3 ⟨rfl, hy⟩
            subst hy
            refine hK.out _ _ (by go_keep) (fun hHeld => ?_)
            clear hK K
            try simp only [Act.put, List.getElem_toArray, List.getElem_cons_succ, List.getElem_cons_zero, List.setIfInBounds_toArray, List.set_cons_zero, List.set_cons_succ]
            refine wpAnyH_take (i := 22) (v := ?_) rfl (by kernel_rfl) (by kernel_rfl) (by kernel_rfl) (fun _ _ _ h => h) (Or.inl ⟨by rfl, ?_⟩) (by assumption) ?_
            rotate_left
            · intro w hSw
              (try dsimp only at hSw)
              go_simp
              try with_reducible rfl
            simp only [Act.put, List.getElem_toArray, List.getElem_cons_succ, List.getElem_cons_zero, List.setIfInBounds_toArray, List.set_cons_zero, List.set_cons_succ]
            refine wpAnyH_take (i := 23) (v := ?_) rfl (by kernel_rfl) (by kernel_rfl) (by kernel_rfl) (fun _ _ _ h => h) (Or.inl ⟨by rfl, ?_⟩) (by assumption) ?_
            rotate_left
            · intro w hSw
              (try dsimp only at hSw)
              go_simp
              try with_reducible rfl
            simp only [Act.put, List.getElem_toArray, List.getElem_cons_succ, List.getElem_cons_zero, List.setIfInBounds_toArray, List.set_cons_zero, List.set_cons_succ]
            refine wpAnyH_done (by kernel_rfl) ?_ _
            go_wp2_with fail
            go_roundw
            case rel => exact ⟨j + 1, by omega, by first | go_num | rfl, S2.out, K2.out⟩
            case measure => first | omega | (simp; omega) | (simp [intOf]; omega)
          · have je : j = s1.length := by omega
            clear FG
            have g1 : decide ((j : Int) < ((s1.length : Nat) : Int)) = false := decide_eq_false (by omega)
            have g2 : decide (j < s1.length) = false := decide_eq_false (by omega)
            have BZ := hid (BZ0.out wr)
            have K3 := hid (KK.out.alloc (.cells Z 50))
            go_wp2_with fail
            refine (color_nil 0 0 0 _).mono ?_
            rintro e y1 ⟨rfl, hy⟩
            subst hy
            go_wp2_with fail
            refine (asked_nil _).mono ?_
            rintro e y1 ⟨rfl, hy⟩
            subst hy
            go_wp2_with fail
            refine (color_zero _ 0 0 0 _ BZ.out).mono ?_
            rintro e y1 ⟨rfl, hy⟩
            subst hy
            go_wp2_with fail
            refine (asked_zero _ _ BZ.out).mono ?_
            rintro e y1 ⟨rfl, hy⟩
            subst hy
            go_wp2_with fail
            refine (new17 none 0 [] _ (sl_nil _)).mono ?_
            rintro e y1 ⟨bn, rfl, sn, k4⟩
            have K4 := hid (K3.out.trans k4)
            have SN := hid sn
            have LN := hid (sheet_low sn)
            clear sn k4
            have CE := hid (color17 _ bn _ 0 383 7 7 y1 SN.out (by decide) (by decide))
            rw [col17_end] at CE
            go_wp2_with fail
            refine CE.out.mono ?_
            rintro e y2 ⟨rfl, _, k5⟩
            have K5 := hid (k5.kept K4.out (fun k h => by subst h; exact Nat.le_trans K3.out.size LN.out))
            clear k5
            go_wp2
            go_ret
            exact ⟨rfl, K5.out⟩
  · have h1 : (200 : Int) < (s1.length : Int) := by omega
    have h2 : decide ((200 : Int) < (s1.length : Int)) = true := decide_eq_true h1
    have h3 : (200 : Int) ≤ (cap1 : Int) := by omega
    have h4 : ¬ (cap1 : Int) < 200 := by omega
    have h5 : ¬ cap1 < 200 := by omega
    go_enter Try.func3, Try.ntmps3
    go_wp2_with (at_builtin; refine wl_append O1.out S0.out rfl rfl rfl rfl HN.out.symm (by simp) (by rw [HN.out]; simp; omega) (fun v2 u2 o2 g2 => ?_); rw [List.nil_append] at o2; have K2 := hid (KA.out.by g2 (fun j h => by simp [Value.ownBlock] at h; subst h; exact Nat.le_refl _)); have O2 := hid o2; clear g2 o2; refine Hid.out ?_)
    refine hid ?_
    obtain ⟨a2, c2, rfl, s2, nw2⟩ := own_sl O2.out ZB.out
    rw [HN.out] at O2
    have C1 := hid (new17 a2 c2 z0 u2 s2)
    rw [HN.out] at C1
    clear s2 nw2 O1 S0 KA
    try rw [HN.out]
    go_wp2_with fail
    refine C1.out.mono ?_
    rintro e u3 ⟨b, rfl, s3, k3⟩
    have K3 := hid (K2.out.trans k3)
    have O3 := hid (owns_kept k3 O2.out)
    have S3 := hid s3
    have LOW := hid (Nat.le_trans K2.out.size (sheet_low s3))
    have FOhi : Hid (∀ k, a2 = some ⟨k, 0, none⟩ → k < u2.heap.size) := fun k e => (O2.out.lt k (by rw [e]; rfl)).2
    have FOlo : Hid (∀ k, a2 = some ⟨k, 0, none⟩ → w.heap.size ≤ k) := fun k e => (O2.out.lt k (by rw [e]; rfl)).1
    have A3 := hid (asked17 _ _ _ _ _ s3)
    clear s3 k3 C1 K2 O2
    go_wp2_with fail
    refine A3.out.mono ?_
    rintro e u4 ⟨rfl, hu⟩
    subst hu
    go_wp2_with fail
    go_loopw [7] (fun iv wr => ∃ (j : Nat) (L : List Int), j ≤ n ∧ iv = .int .i64 (j : Int) ∧ L.length = n ∧ wr.ownsRow w.heap.size 5 1 (.slice a2 n c2) n (L.map (Value.int .u8)) ∧ KeptX (fun k => a2 = some ⟨k, 0, none⟩) u4 wr) (fun iv _ => n - (intOf iv).toNat)
    case atStart => exact ⟨0, z0, Nat.zero_le _, rfl, HN.out, O3.out, KeptX.refl _⟩
    case round =>
      obtain ⟨j, L, hj, rfl, hL, ho, hk⟩ := hrel
      have KX := hid hk
      have OO := hid ho
      have HL := hid hL
      clear hk ho hL
      by_cases hlt : j < n
      · obtain ⟨g, rfl, gl, gc, gs⟩ := own_at17 HL.out OO.out (by omega)
        obtain ⟨cc, cf⟩ := gc j hlt
        have ca := ownB_add g j
        have GS := hid gs
        generalize L.getD j 0 = V at *
        have g1 : decide ((j : Int) < (n : Int)) = true := decide_eq_true (by omega)
        have g3 : (j : Int) < (n : Int) := by omega
        clear gc gs
        go_wp2
        go_roundw
        case rel => exact ⟨j + 1, L.set j _, by omega, by go_num, by rw [List.length_set]; exact HL.out, GS.out j _, KX.out.setCell (.inl rfl) j _⟩
        case measure => first | omega | (simp; omega) | (simp [intOf]; omega)
      · have S5 := hid (sheet_keptX S3.out KX.out FOhi.out)
        have K5 := hid (KX.out.kept K3.out FOlo.out)
        have g1 : decide ((j : Int) < (n : Int)) = false := decide_eq_false (by omega)
        clear S3 K3 KX OO HL FOhi FOlo A3 O3
        go_wp2_with fail
        go_loopw [8, 9] (fun iv av wr => ∃ j : Nat, j ≤ 200 ∧ iv = .int .i64 (j : Int) ∧ SheetAt wr u2.heap.size b (z0.take 6144) (j : Int) ∧ Kept w wr) (fun iv _ _ => 200 - (intOf iv).toNat)
        case atStart => exact ⟨0, Nat.zero_le _, rfl, S5.out, K5.out⟩
        case round =>
          obtain ⟨j, hj, rfl, hs, hk⟩ := hrel
          have KK := hid hk
          have HS := hid hs
          have BL := hid (sheet_cells hs).2.2.2
          clear hk hs S5 K5
          by_cases hlt : j < 200
          · obtain ⟨x, rfl, hx, hc⟩ := FG.out (by omega)
            have f0 := (KK.out.cell (x := x.add (j * 3)) (by rw [addFB]; exact hx)).trans (hc j (by omega) 0 (by decide))
            have f1 := (KK.out.cell (x := x.add (j * 3 + 1)) (by rw [addFB]; exact hx)).trans (hc j (by omega) 1 (by decide))
            have f2 := (KK.out.cell (x := x.add (j * 3 + 2)) (by rw [addFB]; exact hx)).trans (hc j (by omega) 2 (by decide))
            clear hc
            generalize s1.getD j (0, 0, 0) = tt at *
            obtain ⟨T, X, Y⟩ := tt
            have f0' : wr.cell? (x.add (j * 3)) = some (.int .i64 T) := f0
            have f1' : wr.cell? ⟨(x.add (j * 3)).block, (x.add (j * 3)).off + 1, none⟩ = some (.int .i64 X) := (by rw [show (⟨(x.add (j * 3)).block, (x.add (j * 3)).off + 1, none⟩ : Addr) = (x.add (j * 3)).add 1 by simp [Addr.add], addF]; exact f1)
            have f2' : wr.cell? ⟨(x.add (j * 3)).block, (x.add (j * 3)).off + 2, none⟩ = some (.int .i64 Y) := (by rw [show (⟨(x.add (j * 3)).block, (x.add (j * 3)).off + 2, none⟩ : Addr) = (x.add (j * 3)).add 2 by simp [Addr.add], addF]; exact f2)
            have zx : x.block < wr.heap.size := Nat.lt_of_lt_of_le hx KK.out.size
            have CO0 := fun u (k : Kept wr u) => color17 u2.heap.size b (z0.take 6144) (j : Int) T X Y u (sheet_kept HS.out k) (by omega) (by omega)
            simp only [col_take] at CO0
            have CO := hid CO0
            have RC0 := fun u h => rcolor17 a0 cap0 z0 T X Y u h
            rw [HN.out] at RC0
            have RC := hid RC0
            have AS := hid (fun u (h : SheetAt u u2.heap.size b (z0.take 6144) ((j : Int) + 1)) => asked17 u2.heap.size b (z0.take 6144) ((j : Int) + 1) u h)
            generalize colP z0 T X Y = V at *
            have BA := hid (blk_new wr [.int .i64 T, .int .i64 X, .int .i64 Y] 28)
            have ba := blk_cell BA.out
            have g2 : decide ((j : Int) < ((200 : Nat) : Int)) = true := decide_eq_true (by omega)
            have g3 : (j : Int) < ((200 : Nat) : Int) := by omega
            have g4 : decide (j < 200) = true := decide_eq_true hlt
            have e1 : IntKind.i64.wrap ((j : Int) + 1) = (j : Int) + 1 := by rw [IntKind.wrap_i64]; omega
            clear CO0 RC0 f0 f1 f2
            go_wp2_with fail
            refine wp_region_held_drew (S := (fun w' => w'.cell? ⟨wr.heap.size, 0, none⟩ = some (.int .i64 T) ∧ w'.cell? ⟨wr.heap.size, 1, none⟩ = some (.int .i64 X) ∧ w'.cell? ⟨wr.heap.size, 2, none⟩ = some (.int .i64 Y))) (by kernel_rfl) (by go_keep) (fun hHeld => ?_)
            refine wpAnyH_take (i := 0) (v := ?_) rfl (by kernel_rfl) (by kernel_rfl) (by kernel_rfl) (fun _ _ _ h => h) (Or.inl ⟨by rfl, ?_⟩) (by assumption) ?_
            rotate_left
            · intro w hSw
              (try dsimp only at hSw)
              go_simp
              try with_reducible rfl
            simp only [Act.put, List.getElem_toArray, List.getElem_cons_succ, List.getElem_cons_zero, List.setIfInBounds_toArray, List.set_cons_zero, List.set_cons_succ]
            refine wpAnyH_take (i := 1) (v := ?_) rfl (by kernel_rfl) (by kernel_rfl) (by kernel_rfl) (fun _ _ _ h => h) (Or.inl ⟨by rfl, ?_⟩) (by assumption) ?_
            rotate_left
            · intro w hSw
              (try dsimp only at hSw)
              go_simp
              try with_reducible rfl
            simp only [Act.put, List.getElem_toArray, List.getElem_cons_succ, List.getElem_cons_zero, List.setIfInBounds_toArray, List.set_cons_zero, List.set_cons_succ]
            refine wpAnyH_take (i := 2) (v := ?_) rfl (by kernel_rfl) (by kernel_rfl) (by kernel_rfl) (fun _ _ _ h => h) (Or.inl ⟨by rfl, ?_⟩) (by assumption) ?_
            rotate_left
            · intro w hSw
              (try dsimp only at hSw)
              go_simp
              try with_reducible rfl
            simp only [Act.put, List.getElem_toArray, List.getElem_cons_succ, List.getElem_cons_zero, List.setIfInBounds_toArray, List.set_cons_zero, List.set_cons_succ]
            refine wpAnyH_take (i := 3) (v := ?_) rfl (by kernel_rfl) (by kernel_rfl) (by kernel_rfl) (fun _ _ _ h => h) (Or.inl ⟨by rfl, ?_⟩) (by assumption) ?_
            rotate_left
            · intro w hSw
              (try dsimp only at hSw)
              go_simp
              try with_reducible rfl
            simp only [Act.put, List.getElem_toArray, List.getElem_cons_succ, List.getElem_cons_zero, List.setIfInBounds_toArray, List.set_cons_zero, List.set_cons_succ]
            refine wpAnyH_take (i := 4) (v := ?_) rfl (by kernel_rfl) (by kernel_rfl) (by kernel_rfl) (fun _ _ _ h => h) (Or.inl ⟨by rfl, ?_⟩) (by assumption) ?_
            rotate_left
            · intro w hSw
              (try dsimp only at hSw)
              go_simp
              try with_reducible rfl
            simp only [Act.put, List.getElem_toArray, List.getElem_cons_succ, List.getElem_cons_zero, List.setIfInBounds_toArray, List.set_cons_zero, List.set_cons_succ]
            refine wpAnyH_take (i := 5) (v := ?_) rfl (by kernel_rfl) (by kernel_rfl) (by kernel_rfl) (fun _ _ _ h => h) (Or.inl ⟨by rfl, ?_⟩) (by assumption) ?_
            rotate_left
            · intro w hSw
              (try dsimp only at hSw)
              go_simp
              try with_reducible rfl
            simp only [Act.put, List.getElem_toArray, List.getElem_cons_succ, List.getElem_cons_zero, List.setIfInBounds_toArray, List.set_cons_zero, List.set_cons_succ]
            refine wpAnyH_take (i := 6) (v := ?_) rfl (by kernel_rfl) (by kernel_rfl) (by kernel_rfl) (fun _ _ _ h => h) (Or.inl ⟨by rfl, ?_⟩) (by assumption) ?_
            rotate_left
            · intro w hSw
              (try dsimp only at hSw)
              go_simp
              try with_reducible rfl
            simp only [Act.put, List.getElem_toArray, List.getElem_cons_succ, List.getElem_cons_zero, List.setIfInBounds_toArray, List.set_cons_zero, List.set_cons_succ]
            refine wpAnyH_take (i := 8) (v := ?_) rfl (by kernel_rfl) (by kernel_rfl) (by kernel_rfl) (fun _ _ _ h => h) (Or.inl ⟨by rfl, ?_⟩) (by assumption) ?_
            rotate_left
            · intro w hSw
              (try dsimp only at hSw)
              go_simp
              try with_reducible rfl
            simp only [Act.put, List.getElem_toArray, List.getElem_cons_succ, List.getElem_cons_zero, List.setIfInBounds_toArray, List.set_cons_zero, List.set_cons_succ]
            refine wpAnyH_take (i := 9) (v := ?_) rfl (by kernel_rfl) (by kernel_rfl) (by kernel_rfl) (fun _ _ _ h => h) (Or.inl ⟨by rfl, ?_⟩) (by assumption) ?_
            rotate_left
            · intro w hSw
              (try dsimp only at hSw)
              go_simp
              try with_reducible rfl
            simp only [Act.put, List.getElem_toArray, List.getElem_cons_succ, List.getElem_cons_zero, List.setIfInBounds_toArray, List.set_cons_zero, List.set_cons_succ]
            refine wpAnyH_take (i := 10) (v := ?_) rfl (by kernel_rfl) (by kernel_rfl) (by kernel_rfl) (fun _ _ _ h => h) (Or.inl ⟨by rfl, ?_⟩) (by assumption) ?_
            rotate_left
            · intro w hSw
              (try dsimp only at hSw)
              go_simp
              try with_reducible rfl
            simp only [Act.put, List.getElem_toArray, List.getElem_cons_succ, List.getElem_cons_zero, List.setIfInBounds_toArray, List.set_cons_zero, List.set_cons_succ]
            refine wpAnyH_take (i := 11) (v := ?_) rfl (by kernel_rfl) (by kernel_rfl) (by kernel_rfl) (fun _ _ _ h => h) (Or.inl ⟨by rfl, ?_⟩) (by assumption) ?_
            rotate_left
            · intro w hSw
              (try dsimp only at hSw)
              go_simp
              try with_reducible rfl
            simp only [Act.put, List.getElem_toArray, List.getElem_cons_succ, List.getElem_cons_zero, List.setIfInBounds_toArray, List.set_cons_zero, List.set_cons_succ]
            refine wpAnyH_take (i := 12) (v := ?_) rfl (by kernel_rfl) (by kernel_rfl) (by kernel_rfl) (fun _ _ _ h => h) (Or.inl ⟨by rfl, ?_⟩) (by assumption) ?_
            rotate_left
            · intro w hSw
              (try dsimp only at hSw)
              go_simp
              try with_reducible rfl
            simp only [Act.put, List.getElem_toArray, List.getElem_cons_succ, List.getElem_cons_zero, List.setIfInBounds_toArray, List.set_cons_zero, List.set_cons_succ]
            refine wpAnyH_take (i := 13) (v := ?_) rfl (by kernel_rfl) (by kernel_rfl) (by kernel_rfl) (fun _ _ _ h => h) (Or.inl ⟨by rfl, ?_⟩) (by assumption) ?_
            rotate_left
            · intro w hSw
              (try dsimp only at hSw)
              go_simp
              try with_reducible rfl
            simp only [Act.put, List.getElem_toArray, List.getElem_cons_succ, List.getElem_cons_zero, List.setIfInBounds_toArray, List.set_cons_zero, List.set_cons_succ]
            refine wpAnyH_take (i := 14) (v := ?_) rfl (by kernel_rfl) (by kernel_rfl) (by kernel_rfl) (fun _ _ _ h => h) (Or.inl ⟨by rfl, ?_⟩) (by assumption) ?_
            rotate_left
            · intro w hSw
              (try dsimp only at hSw)
              go_simp
              try with_reducible rfl
            simp only [Act.put, List.getElem_toArray, List.getElem_cons_succ, List.getElem_cons_zero, List.setIfInBounds_toArray, List.set_cons_zero, List.set_cons_succ]
            refine wpAnyH_ready (rs := [7]) (by kernel_rfl) (by simp) ?_
            refine AllReadyH.cons rfl (fun K hK => ?_) AllReadyH.nil
            go_simp
            refine (CO.out _ ((Kept.refl wr).alloc (.cells ([.int .i64 T, .int .i64 X, .int .i64 Y] : List Value).toArray 28)).drew).mono ?_
            rintro e y1 ⟨rfl, s1, q1⟩
            have B1 := blkX q1 (blk_drew BA.out) (by show ¬ wr.heap.size = b; have := BL.out; omega)
            have K1 := hid (q1.kept (KK.out.alloc (.cells ([.int .i64 T, .int .i64 X, .int .i64 Y] : List Value).toArray 28)).drew (fun k h => by subst h; exact LOW.out))
            have S1 := hid s1
            have b1 := blk_cell B1
            clear q1 s1
            refine hK.out _ _ (by go_keep) (fun hHeld => ?_)
            clear hK K
            try simp only [Act.put, List.getElem_toArray, List.getElem_cons_succ, List.getElem_cons_zero, List.setIfInBounds_toArray, List.set_cons_zero, List.set_cons_succ]
            refine wpAnyH_ready (rs := [15]) (by kernel_rfl) (by simp) ?_
            refine AllReadyH.cons rfl (fun K hK => ?_) AllReadyH.nil
            go_simp
            refine (RC.out _ (row_kept K1.out R0.out)).mono ?_
            rintro e y2 ⟨rfl, q2⟩
            have B2 := blk_kept q2 B1
            have K2 := hid (K1.out.trans q2)
            have S2 := hid (sheet_kept S1.out q2)
            have b2 := blk_cell B2
            clear q2 b1
            refine hK.out _ _ (by go_keep) (fun hHeld => ?_)
            clear hK K
            try simp only [Act.put, List.getElem_toArray, List.getElem_cons_succ, List.getElem_cons_zero, List.setIfInBounds_toArray, List.set_cons_zero, List.set_cons_succ]
            refine wpAnyH_take (i := 16) (v := ?_) rfl (by kernel_rfl) (by kernel_rfl) (by kernel_rfl) (fun _ _ _ h => h) (Or.inl ⟨by rfl, ?_⟩) (by assumption) ?_
            rotate_left
            · intro w hSw
              (try dsimp only at hSw)
              go_simp
              try with_reducible rfl
            simp only [Act.put, List.getElem_toArray, List.getElem_cons_succ, List.getElem_cons_zero, List.setIfInBounds_toArray, List.set_cons_zero, List.set_cons_succ]
            refine wpAnyH_take (i := 17) (v := ?_) rfl (by kernel_rfl) (by kernel_rfl) (by kernel_rfl) (fun _ _ _ h => h) (Or.inl ⟨by rfl, ?_⟩) (by assumption) ?_
            rotate_left
            · intro w hSw
              (try dsimp only at hSw)
              go_simp
              try with_reducible rfl
            simp only [Act.put, List.getElem_toArray, List.getElem_cons_succ, List.getElem_cons_zero, List.setIfInBounds_toArray, List.set_cons_zero, List.set_cons_succ]
            refine wpAnyH_take (i := 18) (v := ?_) rfl (by kernel_rfl) (by kernel_rfl) (by kernel_rfl) (fun _ _ _ h => h) (Or.inl ⟨by rfl, ?_⟩) (by assumption) ?_
            rotate_left
            · intro w hSw
              (try dsimp only at hSw)
              go_simp
              try with_reducible rfl
            simp only [Act.put, List.getElem_toArray, List.getElem_cons_succ, List.getElem_cons_zero, List.setIfInBounds_toArray, List.set_cons_zero, List.set_cons_succ]
            refine wpAnyH_take (i := 20) (v := ?_) rfl (by kernel_rfl) (by kernel_rfl) (by kernel_rfl) (fun _ _ _ h => h) (Or.inl ⟨by rfl, ?_⟩) (by assumption) ?_
            rotate_left
            · intro w hSw
              (try dsimp only at hSw)
              go_simp
              try with_reducible rfl
            simp only [Act.put, List.getElem_toArray, List.getElem_cons_succ, List.getElem_cons_zero, List.setIfInBounds_toArray, List.set_cons_zero, List.set_cons_succ]
            refine wpAnyH_take (i := 21) (v := ?_) rfl (by kernel_rfl) (by kernel_rfl) (by kernel_rfl) (fun _ _ _ h => h) (Or.inl ⟨by rfl, ?_⟩) (by assumption) ?_
            rotate_left
            · intro w hSw
              (try dsimp only at hSw)
              go_simp
              try with_reducible rfl
            simp only [Act.put, List.getElem_toArray, List.getElem_cons_succ, List.getElem_cons_zero, List.setIfInBounds_toArray, List.set_cons_zero, List.set_cons_succ]
            refine wpAnyH_ready (rs := [19]) (by kernel_rfl) (by simp) ?_
            refine AllReadyH.cons rfl (fun K hK => ?_) AllReadyH.nil
            go_simp
            refine (AS.out _ S2.out).mono ?_
            rintro e y3 ⟨rfl, hy⟩
            subst hy
            refine hK.out _ _ (by go_keep) (fun hHeld => ?_)
            clear hK K
            try simp only [Act.put, List.getElem_toArray, List.getElem_cons_succ, List.getElem_cons_zero, List.setIfInBounds_toArray, List.set_cons_zero, List.set_cons_succ]
            refine wpAnyH_take (i := 22) (v := ?_) rfl (by kernel_rfl) (by kernel_rfl) (by kernel_rfl) (fun _ _ _ h => h) (Or.inl ⟨by rfl, ?_⟩) (by assumption) ?_
            rotate_left
            · intro w hSw
              (try dsimp only at hSw)
              go_simp
              try with_reducible rfl
            simp only [Act.put, List.getElem_toArray, List.getElem_cons_succ, List.getElem_cons_zero, List.setIfInBounds_toArray, List.set_cons_zero, List.set_cons_succ]
            refine wpAnyH_take (i := 23) (v := ?_) rfl (by kernel_rfl) (by kernel_rfl) (by kernel_rfl) (fun _ _ _ h => h) (Or.inl ⟨by rfl, ?_⟩) (by assumption) ?_
            rotate_left
            · intro w hSw
              (try dsimp only at hSw)
              go_simp
              try with_reducible rfl
            simp only [Act.put, List.getElem_toArray, List.getElem_cons_succ, List.getElem_cons_zero, List.setIfInBounds_toArray, List.set_cons_zero, List.set_cons_succ]
            refine wpAnyH_done (by kernel_rfl) ?_ _
            go_wp2_with fail
            go_roundw
            case rel => exact ⟨j + 1, by omega, by first | go_num | rfl, S2.out, K2.out⟩
            case measure => first | omega | (simp; omega) | (simp [intOf]; omega)
          · have je : j = 200 := by omega
            clear FG
            have g1 : decide ((j : Int) < ((200 : Nat) : Int)) = false := decide_eq_false (by omega)
            have g2 : decide (j < 200) = false := decide_eq_false (by omega)
            have BZ := hid (BZ0.out wr)
            have K3 := hid (KK.out.alloc (.cells Z 50))
            go_wp2_with fail
            refine (color_nil 0 0 0 _).mono ?_
            rintro e y1 ⟨rfl, hy⟩
            subst hy
            go_wp2_with fail
            refine (asked_nil _).mono ?_
            rintro e y1 ⟨rfl, hy⟩
            subst hy
            go_wp2_with fail
            refine (color_zero _ 0 0 0 _ BZ.out).mono ?_
            rintro e y1 ⟨rfl, hy⟩
            subst hy
            go_wp2_with fail
            refine (asked_zero _ _ BZ.out).mono ?_
            rintro e y1 ⟨rfl, hy⟩
            subst hy
            go_wp2_with fail
            refine (new17 none 0 [] _ (sl_nil _)).mono ?_
            rintro e y1 ⟨bn, rfl, sn, k4⟩
            have K4 := hid (K3.out.trans k4)
            have SN := hid sn
            have LN := hid (sheet_low sn)
            clear sn k4
            have CE := hid (color17 _ bn _ 0 383 7 7 y1 SN.out (by decide) (by decide))
            rw [col17_end] at CE
            go_wp2_with fail
            refine CE.out.mono ?_
            rintro e y2 ⟨rfl, _, k5⟩
            have K5 := hid (k5.kept K4.out (fun k h => by subst h; exact Nat.le_trans K3.out.size LN.out))
            clear k5
            go_wp2
            go_ret
            exact ⟨rfl, K5.out⟩
end Go.Proofs.Ytdimkeknjhdjfab
