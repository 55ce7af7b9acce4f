/- What the laws of layer 10 want of the program's cart, and of plain states. What does of the laws of layer 10 comes to. What follows for layer 10: the image stays, a RAM that isn't open keeps its bytes. What follows for layer 10: what is loaded is saved; what is refused changes nothing. What follows for layer 10: what is saved gives another cartridge just that. -/
import Derived.Test.YtfmddnekooojkaaDoorG39
import Derived.Test.YtfmddnekooojkaaDoorG25
import Derived.Test.YtfmddnekooojkaaDoorG06
import Derived.Deep.RegionHeld
namespace Go.Proofs.YtfmddnekooojkaaDoor
open Go.RowKit
set_option linter.unusedVariables false
set_option linter.unusedSimpArgs false

theorem conv_nil10 (w : World) : (convert 22 9 (.slice none 0 0)).run Tryd.prog w = .ok (.string (strB [])) w := by kernel_rfl
theorem conv_sl {w : World} {a : Option Addr} {cap : Nat} {z : List Int} (h : Sl w a cap z) : (convert 22 9 (.slice a z.length cap)).run Tryd.prog w = .ok (.string (strB z)) w := by
  cases a with
  | none =>
    obtain rfl : cap = 0 := h.nil rfl
    have z0 := h.len
    obtain rfl : z = [] := List.eq_nil_of_length_eq_zero (by omega)
    exact conv_nil10 w
  | some x => exact conv_cells w x cap z (row_news10 h.row)
theorem conv_own10 {w : World} {base : Nat} {v : Value} {L : List Int} (o : w.ownsRow base 5 1 v L.length (L.map (Value.int .u8))) : (convert 22 9 v).run Tryd.prog w = .ok (.string (strB L)) w := by
  rcases id o.2 with ⟨rfl, q⟩ | ⟨g, cap, cur, rfl, _⟩
  · obtain rfl := List.eq_nil_of_length_eq_zero q
    exact conv_nil10 w
  · exact conv_cells w _ cap L (o.cells rfl)
theorem write_img (s : Cs) (a v : Int) : (writeS s a v).img = s.img := by
  unfold writeS; repeat' split
  all_goals rfl
theorem write_rlen (s : Cs) (a v : Int) : (writeS s a v).ram.length = s.ram.length := by
  unfold writeS; repeat' split
  all_goals first | rfl | simp
theorem tick_img (s : Cs) : (tickS s).img = s.img := by unfold tickS; split <;> rfl
theorem tick_ram (s : Cs) : (tickS s).ram = s.ram := by unfold tickS; split <;> rfl
theorem load_img (s : Cs) (b : List Int) : (loadS s b).img = s.img := by unfold loadS; split <;> rfl
theorem load_rlen (s : Cs) (b : List Int) : (loadS s b).ram.length = s.ram.length := by
  unfold loadS
  split
  · rename_i h
    have hb : s.ram.length ≤ b.length := by
      unfold loadE at h
      split at h
      · omega
      split at h
      · omega
      · rename_i q1 q2
        have h1 : s.is = true := by cases hh : s.is <;> simp_all
        have h2 : s.h.bat = true := by cases hh : s.h.bat <;> simp_all
        have := save_len s ⟨h1, h2⟩
        omega
    show (b.take _).length = _
    rw [List.length_take]; omega
  · rfl
theorem new_img (z : List Int) : (newC z).img = z ∨ (newC z).img = [] := by
  unfold newC; split
  · exact .inl rfl
  · exact .inr rfl
end Go.Proofs.YtfmddnekooojkaaDoor
namespace Go.Proofs.YtfmddnekooojkaaDoor
open Go.RowKit
set_option linter.unusedVariables false
set_option linter.unusedSimpArgs false

def doA (s : Cs) (y : Ac) : Cs := if y.k = 2 then writeS s y.a y.v else if y.k = 3 then tickS s else if y.k = 5 then loadS s y.z else s
def doesN (l : List Ac) (s : Cs) : Nat → Cs
  | 0 => s
  | j + 1 => doA (doesN l s j) (l.getD j ⟨0, 0, 0, none, 0, []⟩)
def doesS (l : List Ac) (s : Cs) : Cs := doesN l s (min l.length 60)
theorem doesN_step (l : List Ac) (s : Cs) (j : Nat) (h : j < l.length) (y : Ac) (hy : l.getD j ⟨0, 0, 0, none, 0, []⟩ = y) : doesN l s (j + 1) = doA (doesN l s j) y := by rw [← hy]; rfl
set_option maxRecDepth 100000 in
set_option maxHeartbeats 8000000 in
theorem kdoes_any (s : Cs) (v : Value) (F : Nat → Prop) (a1 : Option Addr) (cap1 : Nat) (s1 : List Ac) (w0 w : World) (h : CartAt w s v F) (g0 : Kept w0 w) (lf : ∀ k, F k → w0.heap.size ≤ k) (r1 : FRow w0 a1 4 (s1.map elA)) (q1 : ∀ x ∈ s1, AcIn w0 x) (l1 : s1.length ≤ cap1) (m1 : cap1 ≤ maxLen) :
    Calls Tryd.prog 15 #[v, .slice a1 s1.length cap1] w fun e w' => e = .returned (.tuple #[]) ∧ ∃ F', CartAt w' (doesS s1 s) v F' ∧ KeptX F w w' ∧ (∀ k, F' k → F k ∨ w.heap.size ≤ k) := by
  obtain ⟨n, hn⟩ : ∃ n : Nat, s1.length = n := ⟨_, rfl⟩
  have HN := hid hn
  have FG := hid (frow_getD (⟨0, 0, 0, none, 0, []⟩ : Ac) r1)
  have WF := hid (fun j (h : j < n) => getD_mem (p := AcIn w0) (⟨0, 0, 0, none, 0, []⟩ : Ac) q1 j (by rw [hn]; exact h))
  have n64 : n ≤ 9223372036854775807 := by rw [← hn]; have := m1; unfold maxLen at this; omega
  have K0 := hid g0
  have LF := hid lf
  have H0 := hid h
  have DE := hid (show doesS s1 s = doesN s1 s (min n 60) by unfold doesS; rw [hn])
  rw [hn] at l1 ⊢
  clear hn r1 q1 g0 lf h
  go_enter Tryd.func15, Tryd.ntmps15
  go_wp2_with fail
  go_loopw [4] (fun iv wr => ∃ (j : Nat) (F' : Nat → Prop), j ≤ min n 60 ∧ iv = .int .i64 (j : Int) ∧ CartAt wr (doesN s1 s j) v F' ∧ KeptX F w wr ∧ (∀ k, F' k → F k ∨ w.heap.size ≤ k)) (fun iv _ => n - (intOf iv).toNat)
  case atStart => exact ⟨0, F, Nat.zero_le _, rfl, H0.out, KeptX.refl w, fun _ q => .inl q⟩
  case round =>
    obtain ⟨j, F', hj, rfl, hc, hk, hl⟩ := hrel
    have CT := hid hc
    have KX := hid hk
    have LW := hid hl
    have LOW : ∀ k, F' k → w0.heap.size ≤ k := fun k q => by
      rcases hl k q with q | q
      · exact LF.out k q
      · exact Nat.le_trans K0.out.size q
    clear hc hk hl
    by_cases hlt : j < n ∧ j < 60
    · obtain ⟨h1, h2⟩ := hlt
      have g1 : decide ((j : Int) < (n : Int)) = true := decide_eq_true (by omega)
      have g2 : decide ((j : Int) < 60) = true := decide_eq_true (by omega)
      have g3 : (j : Int) < (n : Int) := by omega
      obtain ⟨x, rfl, hx, hc⟩ := FG.out (by rw [HN.out]; omega)
      have c0 := hc j (by rw [HN.out]; exact h1) 0 (by decide)
      have c1 := hc j (by rw [HN.out]; exact h1) 1 (by decide)
      have c2 := hc j (by rw [HN.out]; exact h1) 2 (by decide)
      have c3 := hc j (by rw [HN.out]; exact h1) 3 (by decide)
      have Y := WF.out j h1
      obtain ⟨y, hy⟩ : ∃ y, s1.getD j ⟨0, 0, 0, none, 0, []⟩ = y := ⟨_, rfl⟩
      rw [hy] at c0 c1 c2 c3 Y
      obtain ⟨K, A, V, pb, cb, zb⟩ := y
      simp [elA] at c0 c1 c2 c3
      have nF : ¬ F' x.block := fun q => by have := LOW _ q; omega
      have xz : x.block < wr.heap.size := Nat.lt_of_lt_of_le (Nat.lt_of_lt_of_le hx K0.out.size) KX.out.size
      have cel : ∀ i, wr.cell? (x.add i) = w0.cell? (x.add i) := fun i => (cellX KX.out (by rw [addFB]; exact Nat.lt_of_lt_of_le hx K0.out.size) (by rw [addFB]; exact fun q => by have := LF.out _ q; omega)).trans (K0.out.cell (by rw [addFB]; exact hx))
      have off : ∀ i, 0 < i → x.add (j * 4 + i) = ⟨(x.add (j * 4)).block, (x.add (j * 4)).off + i, none⟩ := fun i hi => by rw [← addF]; unfold Addr.add; rw [if_neg (by omega)]
      have d0 := (cel (j * 4)).trans c0
      have d1 := (cel (j * 4 + 1)).trans c1
      have d2 := (cel (j * 4 + 2)).trans c2
      have d3 := (cel (j * 4 + 3)).trans c3
      rw [off _ (by decide)] at d1 d2 d3
      clear hc c0 c1 c2 c3 off cel
      have kk : K = 2 ∨ K = 3 ∨ K = 5 ∨ (K ≠ 2 ∧ K ≠ 3 ∧ K ≠ 5) := by omega
      rcases kk with rfl | rfl | rfl | ⟨e2, e3, e5⟩
      · have DN := doesN_step s1 s j (by rw [HN.out]; exact h1) (s1.getD j ⟨0, 0, 0, none, 0, []⟩) rfl
        rw [hy] at DN
        have DN : doesN s1 s (j + 1) = writeS (doesN s1 s j) A V := DN
        have CW := hid (fun u (g : Kept wr u) => kwrite_any (doesN s1 s j) v F' A V u (cart_kept CT.out g) Y.a0 Y.a1 Y.v0 Y.v1)
        generalize doesN s1 s j = sj at *
        go_wp2_with fail
        go_region_held3 (fun w' => w'.cell? ⟨(x.add (j * 4)).block, (x.add (j * 4)).off + 1, none⟩ = some (.int .u16 A) ∧ w'.cell? ⟨(x.add (j * 4)).block, (x.add (j * 4)).off + 2, none⟩ = some (.int .u8 V)) (go_keep) (first | (go_at_call 19; refine (CW.out _ (Kept.refl _).drew).mono ?_; rintro e u2 ⟨rfl, G, hc, kx0, hG⟩; have kx := KeptX.trans (F := F') (KeptX.of (Kept.refl wr).drew) kx0 (fun k q => .inl q); have e1 : u2.cell? ⟨(x.add (j * 4)).block, (x.add (j * 4)).off + 1, none⟩ = some (.int .u16 A) := (cellX kx (by show (x.add (j * 4)).block < _; rw [addFB]; exact xz) (by show ¬ F' (x.add (j * 4)).block; rw [addFB]; exact nF)).trans d1; have e2 : u2.cell? ⟨(x.add (j * 4)).block, (x.add (j * 4)).off + 2, none⟩ = some (.int .u8 V) := (cellX kx (by show (x.add (j * 4)).block < _; rw [addFB]; exact xz) (by show ¬ F' (x.add (j * 4)).block; rw [addFB]; exact nF)).trans d2; clear kx0))
        have LW2 : ∀ k, G k → F k ∨ w.heap.size ≤ k := fun k q => by
          rcases hG k q with q | q
          · exact LW.out k q
          · exact .inr (Nat.le_trans KX.out.size q)
        have KX2 := hid (KX.out.trans kx (fun k q => LW.out k q))
        clear kx hG
        go_wp2
        go_roundw
        case rel => exact ⟨j + 1, G, by omega, by go_num, by rw [DN]; exact hc, KX2.out, LW2⟩
        case measure => first | omega | (simp; omega) | (simp [intOf]; omega)
      · have DN := doesN_step s1 s j (by rw [HN.out]; exact h1) (s1.getD j ⟨0, 0, 0, none, 0, []⟩) rfl
        rw [hy] at DN
        have DN : doesN s1 s (j + 1) = tickS (doesN s1 s j) := DN
        generalize doesN s1 s j = sj at *
        go_wp2_with fail
        refine (ktick_any _ v F' _ CT.out).mono ?_
        rintro e u2 ⟨rfl, G, hc, kx, hG⟩
        have LW2 : ∀ k, G k → F k ∨ w.heap.size ≤ k := fun k q => by
          rcases hG k q with q | q
          · exact LW.out k q
          · exact .inr (Nat.le_trans KX.out.size q)
        have KX2 := hid (KX.out.trans kx (fun k q => LW.out k q))
        clear kx hG
        go_wp2
        go_roundw
        case rel => exact ⟨j + 1, G, by omega, by go_num, by rw [DN]; exact hc, KX2.out, LW2⟩
        case measure => first | omega | (simp; omega) | (simp [intOf]; omega)
      · have DN := doesN_step s1 s j (by rw [HN.out]; exact h1) (s1.getD j ⟨0, 0, 0, none, 0, []⟩) rfl
        rw [hy] at DN
        have DN : doesN s1 s (j + 1) = loadS (doesN s1 s j) zb := DN
        have OB : Off F' pb zb := off_of Y.row (fun k q => LOW k q)
        have SBw : Sl w0 pb cb zb := ⟨Y.row, Y.len, Y.max, Y.nil⟩
        have SB : Sl wr pb cb zb := slX KX.out (sl_kept K0.out SBw) (off_of Y.row (fun k q => LF.out k q))
        have CW := hid (fun u (g : Kept wr u) => kload_any (doesN s1 s j) v F' zb pb cb u (cart_kept CT.out g) (sl_kept g SB) OB)
        generalize doesN s1 s j = sj at *
        go_wp2_with fail
        refine (CW.out _ (Kept.refl _)).mono ?_
        rintro e u2 ⟨rfl, G, hc, kx, hG⟩
        have LW2 : ∀ k, G k → F k ∨ w.heap.size ≤ k := fun k q => by
          rcases hG k q with q | q
          · exact LW.out k q
          · exact .inr (Nat.le_trans KX.out.size q)
        have KX2 := hid (KX.out.trans kx (fun k q => LW.out k q))
        clear kx hG
        go_wp2
        go_roundw
        case rel => exact ⟨j + 1, G, by omega, by go_num, by rw [DN]; exact hc, KX2.out, LW2⟩
        case measure => first | omega | (simp; omega) | (simp [intOf]; omega)
      · have DN := doesN_step s1 s j (by rw [HN.out]; exact h1) (s1.getD j ⟨0, 0, 0, none, 0, []⟩) rfl
        rw [hy] at DN
        have DN : doesN s1 s (j + 1) = doesN s1 s j := by rw [DN]; unfold doA; rw [if_neg e2, if_neg e3, if_neg e5]
        have b2 : (K == 2) = false := by simpa using e2
        have b3 : (K == 3) = false := by simpa using e3
        have b5 : (K == 5) = false := by simpa using e5
        go_wp2
        go_roundw
        case rel => exact ⟨j + 1, F', by omega, by go_num, by rw [DN]; exact CT.out, KX.out, LW.out⟩
        case measure => first | omega | (simp; omega) | (simp [intOf]; omega)
    · have je : j = min n 60 := by omega
      have DE2 := hid (show doesS s1 s = doesN s1 s j by rw [DE.out, je])
      by_cases q : j < n
      · have q2 : ¬ j < 60 := by omega
        have q3 : (j : Int) < (n : Int) := by omega
        have q4 : ¬ (j : Int) < 60 := by omega
        have g1 : decide ((j : Int) < (n : Int)) = true := decide_eq_true q3
        have g2 : decide ((j : Int) < 60) = false := decide_eq_false q4
        go_wp2
        go_returns
        exact ⟨rfl, F', by rw [DE2.out]; exact CT.out, KX.out, LW.out⟩
      · have q3 : ¬ (j : Int) < (n : Int) := by omega
        have g1 : decide ((j : Int) < (n : Int)) = false := decide_eq_false q3
        go_wp2
        go_returns
        exact ⟨rfl, F', by rw [DE2.out]; exact CT.out, KX.out, LW.out⟩
end Go.Proofs.YtfmddnekooojkaaDoor
namespace Go.Proofs.YtfmddnekooojkaaDoor
open Go.RowKit
set_option linter.unusedVariables false
set_option linter.unusedSimpArgs false

def KindI (m : Mp) : Prop := m.kind = 0 ∨ m.kind = 1 ∨ m.kind = 3 ∨ m.kind = 5
theorem writeM_kind (m : Mp) (a v : Int) : (writeM m a v).kind = m.kind := by
  unfold writeM writeZ
  split
  · unfold write1; split <;> rfl
  split
  · unfold write3; split <;> rfl
  split
  · unfold write5; split <;> rfl
  · rfl
theorem newR_kind (k : Int) : KindI (newR k) := by
  unfold newR
  split
  · rename_i h
    unfold newOk at h
    simp at h
    show k = 0 ∨ k = 1 ∨ k = 3 ∨ k = 5
    omega
  · exact .inl rfl
theorem writeS_m (s : Cs) (a v : Int) : (writeS s a v).m = s.m ∨ (writeS s a v).m = writeM s.m a v := by
  unfold writeS; repeat' split
  all_goals first | exact .inl rfl | exact .inr rfl
theorem writeS_kind (s : Cs) (a v : Int) : (writeS s a v).m.kind = s.m.kind := by
  rcases writeS_m s a v with h | h <;> rw [h]
  exact writeM_kind _ _ _
theorem doA_kind (s : Cs) (y : Ac) : (doA s y).m.kind = s.m.kind := by
  unfold doA
  split
  · exact writeS_kind _ _ _
  split
  · unfold tickS; split <;> rfl
  split
  · unfold loadS; split <;> rfl
  · rfl
theorem doesN_kind (l : List Ac) (s : Cs) (j : Nat) : (doesN l s j).m.kind = s.m.kind := by
  induction j with
  | zero => rfl
  | succ j ih => show (doA _ _).m.kind = _; rw [doA_kind, ih]
theorem doA_img (s : Cs) (y : Ac) : (doA s y).img = s.img := by
  unfold doA
  split
  · exact write_img _ _ _
  split
  · exact tick_img _
  split
  · exact load_img _ _
  · rfl
theorem doesN_img (l : List Ac) (s : Cs) (j : Nat) : (doesN l s j).img = s.img := by
  induction j with
  | zero => rfl
  | succ j ih => show (doA _ _).img = _; rw [doA_img, ih]
theorem writeS_is (s : Cs) (a v : Int) : (writeS s a v).is = s.is := by
  unfold writeS; repeat' split
  all_goals rfl
theorem writeS_h (s : Cs) (a v : Int) : (writeS s a v).h = s.h := by
  unfold writeS; repeat' split
  all_goals rfl
theorem doA_is (s : Cs) (y : Ac) : (doA s y).is = s.is := by
  unfold doA
  split
  · exact writeS_is _ _ _
  split
  · unfold tickS; split <;> rfl
  split
  · unfold loadS; split <;> rfl
  · rfl
theorem doesN_is (l : List Ac) (s : Cs) (j : Nat) : (doesN l s j).is = s.is := by
  induction j with
  | zero => rfl
  | succ j ih => show (doA _ _).is = _; rw [doA_is, ih]
theorem bank_low (m : Mp) (a : Int) (h : m.kind = 1 → m.mode = false) (ha : a < 16384) : bankM m a = 0 := by
  unfold bankM bankLo
  rw [if_pos ha]
  split
  · rename_i q; rw [h q]; rfl
  · rfl
theorem read_low (s t : Cs) (a : Int) (hs : s.is = true) (ht : t.is = true) (hi : t.img = s.img) (h1 : s.m.kind = 1 → s.m.mode = false) (h2 : t.m.kind = 1 → t.m.mode = false) (ha : a < 16384) : readS t a = readS s a := by
  have e : romS t a = romS s a := by unfold romS romM; rw [hi, bank_low _ _ h1 ha, bank_low _ _ h2 ha]
  have R : ∀ u : Cs, u.is = true → readS u a = u.img.getD (romS u a).toNat 0 := fun u hu => by unfold readS; rw [if_neg (by rw [hu]; decide), if_pos (by omega)]
  rw [R t ht, R s hs, hi, e]
theorem write_mode (s : Cs) (hs : s.is = true) (hk : (writeS s 24576 0).m.kind = 1) : (writeS s 24576 0).m.mode = false := by
  rw [writeS_kind] at hk
  unfold writeS
  rw [if_neg (by rw [hs]; decide), if_pos (by decide)]
  show (writeM s.m 24576 0).mode = false
  unfold writeM writeZ
  rw [if_pos hk]
  rfl
theorem read_gap (s : Cs) (a : Int) (h0 : 32768 ≤ a) (h1 : a < 40960) : readS s a = 255 := by
  have w : inWin a = false := by unfold inWin; simp; omega
  have r : regS s a = 0 := by
    unfold regS
    split
    · unfold regM; rw [if_neg (by simp [w])]
    · rfl
  have m : ramS s a = -1 := by unfold ramS ramM; rw [if_pos (.inr (.inl w))]
  unfold readS
  split
  · rfl
  · rw [if_neg (by omega), if_neg (by rw [r]; simp), if_pos (by rw [m]; decide)]
theorem shut_ram (s : Cs) (a v : Int) (hk : KindI s.m) (k0 : s.m.kind ≠ 0) (ho : s.m.op = false) (ha : 32768 ≤ a) : (writeS s a v).ram = s.ram := by
  have m : ramS s a = -1 := by
    unfold ramS ramM
    rw [if_pos]
    right; right
    unfold ramNo
    rcases hk with h | h | h | h
    · exact absurd h k0
    · rw [if_pos h, ho]; rfl
    · rw [if_neg (by omega), if_pos h, ho]; rfl
    · rw [if_neg (by omega), if_neg (by omega), if_pos h, ho]; rfl
  unfold writeS
  split
  · rfl
  rw [if_neg (by omega)]
  split
  · rfl
  · rw [if_pos (by rw [m]; decide)]
theorem new_mode (z : List Int) : (newC z).m.kind = 1 → (newC z).m.mode = false := by
  intro _
  unfold newC
  split
  · show (newR _).mode = false
    unfold newR; split <;> rfl
  · rfl
theorem new_kind (z : List Int) : KindI (newC z).m := by
  unfold newC
  split
  · exact newR_kind _
  · exact .inl rfl
theorem new_is (z : List Int) (h : parseE z = 0) : (newC z).is = true := by unfold newC; rw [if_pos h]
end Go.Proofs.YtfmddnekooojkaaDoor
namespace Go.Proofs.YtfmddnekooojkaaDoor
open Go.RowKit
set_option linter.unusedVariables false
set_option linter.unusedSimpArgs false

theorem ownsX {F : Nat → Prop} {W w : World} (h : KeptX F W w) {base : Nat} {e : TypeId} {size : Nat} {v : Value} {n : Nat} {xs : List Value} (o : W.ownsRow base e size v n xs) (hf : ∀ g, v.ownBlock = some g → ¬ F g) : w.ownsRow base e size v n xs := by
  obtain ⟨o1, o2⟩ := o
  refine ⟨o1, ?_⟩
  rcases o2 with o2 | ⟨g, cap, cur, rfl, e2, e3, e4⟩
  · exact .inl o2
  · refine .inr ⟨g, cap, cur, rfl, e2, ?_, e4⟩
    rw [h.block g (Array.getElem?_eq_some_iff.1 e3).1 (hf g rfl)]; exact e3
theorem head_bat (t : ByteArray) (k m : Int) (r b c : Bool) (n s u h : Int) (w : World) : (Instr.field 30 (.agg #[.string t, .int .u8 k, .int .i64 m, .bool r, .bool b, .bool c, .int .i64 n, .int .i64 s, .int .u8 u, .int .u16 h]) 4).run Tryd.prog w = .ok (.bool b) w := by kernel_rfl
theorem flags_fin : ∀ b : Fin 256, (b.val : Int) % 64 ≤ 1 → ((b.val : Int) % 2 * 256 / 256 % 2 + bit ((b.val : Int) / 64 % 2 == 1) 64 + bit (decide (128 ≤ (b.val : Int))) 128 = (b.val : Int)) := by decide +kernel
theorem flags_any (b : Int) (h0 : 0 ≤ b) (h1 : b ≤ 255) (h : b % 64 ≤ 1) : b % 2 * 256 / 256 % 2 + bit (b / 64 % 2 == 1) 64 + bit (decide (128 ≤ b)) 128 = b :=
  fin8 (p := fun b => b % 64 ≤ 1 → b % 2 * 256 / 256 % 2 + bit (b / 64 % 2 == 1) 64 + bit (decide (128 ≤ b)) 128 = b) flags_fin b h0 h1 h
theorem one_read (b0 b1 b2 b3 b4 : Int) (h0 : InByte b0) (h1 : InByte b1) (h2 : InByte b2) (h3 : InByte b3) (h4 : InByte b4) (c0 : b0 ≤ 63) (c1 : b1 ≤ 63) (c2 : b2 ≤ 31) (c4 : b4 % 64 ≤ 1) :
    readC (oneC b0 b1 b2 b3 b4) 8 = b0 ∧ readC (oneC b0 b1 b2 b3 b4) 9 = b1 ∧ readC (oneC b0 b1 b2 b3 b4) 10 = b2 ∧ readC (oneC b0 b1 b2 b3 b4) 11 = b3 ∧ readC (oneC b0 b1 b2 b3 b4) 12 = b4 := by
  obtain ⟨a0, d0⟩ := h0
  obtain ⟨a1, d1⟩ := h1
  obtain ⟨a2, d2⟩ := h2
  obtain ⟨a3, d3⟩ := h3
  obtain ⟨a4, d4⟩ := h4
  refine ⟨?_, ?_, ?_, ?_, ?_⟩
  · show b0 % 64 = b0; omega
  · show b1 % 64 = b1; omega
  · show b2 % 32 = b2; omega
  · show (b4 % 2 * 256 + b3) % 512 % 256 = b3; omega
  · show (b4 % 2 * 256 + b3) % 512 / 256 + bit (b4 / 64 % 2 == 1) 64 + bit (decide (128 ≤ b4)) 128 = b4
    have := flags_any b4 a4 d4 c4
    rw [show (b4 % 2 * 256 + b3) % 512 / 256 = b4 % 2 * 256 / 256 % 2 by omega]
    exact this
theorem list10 (z : List Int) (h : z.length = 10) : z = [z.getD 0 0, z.getD 1 0, z.getD 2 0, z.getD 3 0, z.getD 4 0, z.getD 5 0, z.getD 6 0, z.getD 7 0, z.getD 8 0, z.getD 9 0] := by
  match z, h with
  | [_, _, _, _, _, _, _, _, _, _], _ => rfl
theorem of_bytes (z : List Int) (hz : ∀ x ∈ z, InByte x) (h : ofE z = 0) : bytesL (ofX z) (ofY z) = z := by
  have h2 := h
  unfold ofE at h2
  split at h2
  · omega
  split at h2
  · omega
  rename_i q1 q2
  have hl : z.length = 10 := by omega
  have g : ∀ i, i < 10 → InByte (z.getD i 0) := fun i hi => by
    rw [List.getD_eq_getElem?_getD, List.getElem?_eq_getElem (by omega)]; exact hz _ (List.getElem_mem _)
  have nb : ¬ badA z ∧ ¬ badB z := by
    constructor
    · exact fun q => q2 (.inl q)
    · exact fun q => q2 (.inr q)
  obtain ⟨n1, n2⟩ := nb
  simp only [badA, badB, not_or, Int.not_lt] at n1 n2
  obtain ⟨e0, e1, e2, e3, e4⟩ := one_read _ _ _ _ _ (g 0 (by decide)) (g 1 (by decide)) (g 2 (by decide)) (g 3 (by decide)) (g 4 (by decide)) n1.1 n1.2.1 n1.2.2.1 n1.2.2.2
  obtain ⟨f0, f1, f2, f3, f4⟩ := one_read _ _ _ _ _ (g 5 (by decide)) (g 6 (by decide)) (g 7 (by decide)) (g 8 (by decide)) (g 9 (by decide)) n2.1 n2.2.1 n2.2.2.1 n2.2.2.2
  have X : ofX z = oneC (z.getD 0 0) (z.getD 1 0) (z.getD 2 0) (z.getD 3 0) (z.getD 4 0) := by unfold ofX; rw [if_pos h]
  have Y : ofY z = oneC (z.getD 5 0) (z.getD 6 0) (z.getD 7 0) (z.getD 8 0) (z.getD 9 0) := by unfold ofY; rw [if_pos h]
  rw [bytesL_is, X, Y, e0, e1, e2, e3, e4, f0, f1, f2, f3, f4]
  exact (list10 z hl).symm
theorem load_parts (s : Cs) (z : List Int) (h : loadE s z = 0) : s.is = true ∧ s.h.bat = true ∧ z.length = (saveS s).length ∧ (s.h.clk = true → ofE (z.drop s.ram.length) = 0) := by
  unfold loadE at h
  split at h
  · omega
  split at h
  · omega
  rename_i q1 q2
  have h1 : s.is = true := by cases hh : s.is <;> simp_all
  have h2 : s.h.bat = true := by cases hh : s.h.bat <;> simp_all
  exact ⟨h1, h2, by omega, fun hc => by rw [if_pos hc] at h; exact h⟩
theorem load_save (s : Cs) (z : List Int) (hz : ∀ x ∈ z, InByte x) (h : loadE s z = 0) : saveS (loadS s z) = z := by
  obtain ⟨h1, h2, h3, h4⟩ := load_parts s z h
  have sl := save_len s ⟨h1, h2⟩
  have E : loadS s z = { s with ram := z.take s.ram.length, live := if s.h.clk = true then ofX (z.drop s.ram.length) else s.live, held := if s.h.clk = true then ofY (z.drop s.ram.length) else s.held } := by unfold loadS; rw [if_pos h]
  rw [E]
  unfold saveS
  rw [if_pos ⟨h1, h2⟩]
  cases hc : s.h.clk
  · rw [hc] at sl
    simp only [Bool.false_eq_true, if_false, List.append_nil]
    rw [List.take_of_length_le (by rw [if_neg (by decide)] at sl; omega)]
  · simp only [if_true]
    rw [of_bytes _ (fun x hx => hz x (List.mem_of_mem_drop hx)) (h4 hc), List.take_append_drop]
theorem load_same (s : Cs) (z : List Int) (h : loadE s z ≠ 0) : loadS s z = s := by unfold loadS; rw [if_neg h]
theorem load_7 (s : Cs) (z : List Int) (h1 : s.is = true) : (loadE s z = 7) ↔ (s.h.bat = false) := by
  constructor
  · intro h
    unfold loadE at h
    split at h
    · rename_i q; rcases q with q | q
      · rw [h1] at q; cases q
      · exact q
    split at h
    · omega
    split at h
    · unfold ofE at h; repeat' split at h
      all_goals omega
    · omega
  · intro h; unfold loadE; rw [if_pos (.inr h)]
theorem load_5 (s : Cs) (z : List Int) (h1 : s.is = true) (h2 : s.h.bat = true) : (loadE s z = 5) ↔ (z.length ≠ (saveS s).length) := by
  have sl := save_len s ⟨h1, h2⟩
  have e : loadE s z = if z.length ≠ (saveS s).length then 5 else if s.h.clk = true then ofE (z.drop s.ram.length) else 0 := by unfold loadE; rw [if_neg (by rw [h1, h2]; decide)]
  rw [e]
  constructor
  · intro h
    split at h
    · assumption
    · exfalso
      rename_i q
      have q : z.length = (saveS s).length := by omega
      split at h
      · rename_i hc
        rw [if_pos hc] at sl
        have : (z.drop s.ram.length).length = 10 := by rw [List.length_drop]; omega
        unfold ofE at h
        rw [if_neg (by omega)] at h
        split at h <;> omega
      · omega
  · intro h; rw [if_pos h]
theorem load_h (s : Cs) (z : List Int) : (loadS s z).h = s.h ∧ (loadS s z).m = s.m := by
  unfold loadS; split <;> exact ⟨rfl, rfl⟩
end Go.Proofs.YtfmddnekooojkaaDoor
namespace Go.Proofs.YtfmddnekooojkaaDoor
open Go.RowKit
set_option linter.unusedVariables false
set_option linter.unusedSimpArgs false

/-- What stays whatever is done to a cartridge. -/
structure Iv (s0 s : Cs) : Prop where
  yes : s.is = s0.is
  h : s.h = s0.h
  rl : s.ram.length = s0.ram.length
  live : CkOk s.live
  held : CkOk s.held
  dead : s0.h.clk = false → s.live = ck0 ∧ s.held = ck0
theorem ck0_ok : CkOk ck0 := ⟨by decide, by decide, by decide, by decide, by decide, by decide, by decide, by decide⟩
theorem iv_new (z : List Int) : Iv (newC z) (newC z) := by
  have e : (newC z).live = ck0 ∧ (newC z).held = ck0 := by unfold newC; split <;> exact ⟨rfl, rfl⟩
  exact ⟨rfl, rfl, rfl, by rw [e.1]; exact ck0_ok, by rw [e.2]; exact ck0_ok, fun _ => e⟩
theorem iv_write {s0 s : Cs} (I : Iv s0 s) (a v : Int) (v0 : 0 ≤ v) (v1 : v ≤ 255) : Iv s0 (writeS s a v) := by
  obtain ⟨i1, i2, i3, i4, i5, i6⟩ := I
  refine ⟨(writeS_is s a v).trans i1, (writeS_h s a v).trans i2, (write_rlen s a v).trans i3, ?_, ?_, fun hc => ?_⟩
  · unfold writeS
    split
    · exact i4
    split
    · exact i4
    split
    · rename_i q
      exact write_ok (normC s.live) _ v (norm_ok i4.inn) ((reg_in s a).resolve_left q) v0 v1
    split
    · exact i4
    · exact i4
  · unfold writeS
    split
    · exact i5
    split
    · unfold lowS
      dsimp only
      split
      · exact i4
      · exact i5
    split
    · exact i5
    split
    · exact i5
    · exact i5
  · have hc2 : s.h.clk = false := by rw [i2]; exact hc
    have r0 : regS s a = 0 := by unfold regS; rw [if_neg (by rw [hc2]; decide)]
    unfold writeS
    split
    · exact i6 hc
    split
    · unfold lowS
      dsimp only
      rw [if_neg (by rw [hc2]; simp)]
      exact i6 hc
    split
    · rename_i q; exact absurd r0 q
    split
    · exact i6 hc
    · exact i6 hc
theorem iv_tick {s0 s : Cs} (I : Iv s0 s) : Iv s0 (tickS s) := by
  obtain ⟨i1, i2, i3, i4, i5, i6⟩ := I
  unfold tickS
  split
  · rename_i q
    exact ⟨i1, i2, i3, tick_ok (norm_ok i4.inn), i5, fun hc => by rw [← i2, q.2] at hc; cases hc⟩
  · exact ⟨i1, i2, i3, i4, i5, i6⟩
theorem of_ok (z : List Int) (hz : ∀ x ∈ z, InByte x) : CkOk (ofX z) ∧ CkOk (ofY z) := by
  by_cases h : ofE z = 0
  · have h2 := h
    unfold ofE at h2
    split at h2
    · omega
    split at h2
    · omega
    rename_i q1 q2
    have hl : z.length = 10 := by omega
    have g : ∀ i, i < 10 → InByte (z.getD i 0) := fun i hi => by
      rw [List.getD_eq_getElem?_getD, List.getElem?_eq_getElem (by omega)]; exact hz _ (List.getElem_mem _)
    have n1 : ¬ badA z := fun q => q2 (.inl q)
    have n2 : ¬ badB z := fun q => q2 (.inr q)
    simp only [badA, badB, not_or, Int.not_lt] at n1 n2
    obtain ⟨a0, b0⟩ := g 0 (by decide)
    obtain ⟨a1, b1⟩ := g 1 (by decide)
    obtain ⟨a2, b2⟩ := g 2 (by decide)
    obtain ⟨a3, b3⟩ := g 3 (by decide)
    obtain ⟨a4, b4⟩ := g 4 (by decide)
    obtain ⟨a5, b5⟩ := g 5 (by decide)
    obtain ⟨a6, b6⟩ := g 6 (by decide)
    obtain ⟨a7, b7⟩ := g 7 (by decide)
    obtain ⟨a8, b8⟩ := g 8 (by decide)
    obtain ⟨a9, b9⟩ := g 9 (by decide)
    constructor
    · unfold ofX; rw [if_pos h]; exact ⟨a0, n1.1, a1, n1.2.1, a2, n1.2.2.1, by show 0 ≤ _ % 2 * 256 + _; omega, by show _ % 2 * 256 + _ ≤ 511; omega⟩
    · unfold ofY; rw [if_pos h]; exact ⟨a5, n2.1, a6, n2.2.1, a7, n2.2.2.1, by show 0 ≤ _ % 2 * 256 + _; omega, by show _ % 2 * 256 + _ ≤ 511; omega⟩
  · obtain ⟨e1, e2⟩ := of_no z _ rfl h
    rw [e1, e2]
    exact ⟨ck0_ok, ck0_ok⟩
theorem iv_load {s0 s : Cs} (I : Iv s0 s) (z : List Int) (hz : ∀ x ∈ z, InByte x) : Iv s0 (loadS s z) := by
  have hh := load_h s z
  have hl := load_rlen s z
  obtain ⟨i1, i2, i3, i4, i5, i6⟩ := I
  obtain ⟨o1, o2⟩ := of_ok (z.drop s.ram.length) (fun x hx => hz x (List.mem_of_mem_drop hx))
  refine ⟨?_, hh.1.trans i2, hl.trans i3, ?_, ?_, fun hc => ?_⟩
  · unfold loadS; split <;> exact i1
  · unfold loadS; split
    · dsimp only; split
      · exact o1
      · exact i4
    · exact i4
  · unfold loadS; split
    · dsimp only; split
      · exact o2
      · exact i5
    · exact i5
  · have hc2 : s.h.clk = false := by rw [i2]; exact hc
    unfold loadS; split
    · dsimp only
      rw [if_neg (by rw [hc2]; decide), if_neg (by rw [hc2]; decide)]
      exact i6 hc
    · exact i6 hc
theorem iv_doA {s0 s : Cs} (I : Iv s0 s) (y : Ac) (v0 : 0 ≤ y.v) (v1 : y.v ≤ 255) (hz : ∀ x ∈ y.z, InByte x) : Iv s0 (doA s y) := by
  unfold doA
  split
  · exact iv_write I _ _ v0 v1
  split
  · exact iv_tick I
  split
  · exact iv_load I _ hz
  · exact I
theorem iv_does {s0 : Cs} (I : Iv s0 s0) {w : World} (l : List Ac) (hl : ∀ y ∈ l, AcIn w y) : Iv s0 (doesS l s0) := by
  unfold doesS
  have g : ∀ j, j ≤ l.length → Iv s0 (doesN l s0 j) := by
    intro j
    induction j with
    | zero => exact fun _ => I
    | succ j ih =>
      intro hj
      have hm : AcIn w (l.getD j ⟨0, 0, 0, none, 0, []⟩) := by
        rw [List.getD_eq_getElem?_getD, List.getElem?_eq_getElem (by omega)]
        exact hl _ (List.getElem_mem _)
      exact iv_doA (ih (by omega)) _ hm.v0 hm.v1 hm.row.2.1
  exact g _ (Nat.min_le_left _ _)
theorem back_no {s0 s t : Cs} (I : Iv s0 s) (J : Iv s0 t) (h : s0.is = false ∨ s0.h.bat = false) : saveS s = [] ∧ loadE t (saveS s) = 7 := by
  have e : saveS s = [] := by
    unfold saveS
    rw [if_neg]
    rintro ⟨a, b⟩
    rw [I.yes] at a
    rw [I.h] at b
    rcases h with h | h
    · rw [h] at a; cases a
    · rw [h] at b; cases b
  refine ⟨e, ?_⟩
  unfold loadE
  rw [if_pos]
  rcases h with h | h
  · exact .inl (J.yes.trans h)
  · exact .inr (by rw [J.h]; exact h)
theorem back_yes {s0 s t : Cs} (I : Iv s0 s) (J : Iv s0 t) (O : CsOk s) (h : s0.is = true) (hb : s0.h.bat = true) :
    loadE t (saveS s) = 0 ∧ (loadS t (saveS s)).m = t.m ∧ (loadS t (saveS s)).live = s.live ∧ (loadS t (saveS s)).held = s.held ∧ (loadS t (saveS s)).ram = s.ram ∧ saveS (loadS t (saveS s)) = saveS s := by
  have is1 : s.is = true := I.yes.trans h
  have it1 : t.is = true := J.yes.trans h
  have bs : s.h.bat = true := by rw [I.h]; exact hb
  have bt : t.h.bat = true := by rw [J.h]; exact hb
  have cc : t.h.clk = s.h.clk := by rw [I.h, J.h]
  have rr : t.ram.length = s.ram.length := J.rl.trans I.rl.symm
  have l1 := save_len s ⟨is1, bs⟩
  have l2 := save_len t ⟨it1, bt⟩
  have el : (saveS s).length = (saveS t).length := by rw [l1, l2, rr, cc]
  have SE : saveS s = s.ram ++ (if s.h.clk = true then bytesL s.live s.held else []) := by unfold saveS; rw [if_pos ⟨is1, bs⟩]
  have dr : (saveS s).drop t.ram.length = (if s.h.clk = true then bytesL s.live s.held else []) := by rw [SE, rr, List.drop_left]
  have tk : (saveS s).take t.ram.length = s.ram := by rw [SE, rr, List.take_left]
  obtain ⟨b1, b2, b3⟩ := bytes_of s.live s.held I.live.inn I.held.inn
  rw [norm_id I.live] at b2
  rw [norm_id I.held] at b3
  have E : loadE t (saveS s) = 0 := by
    unfold loadE
    rw [if_neg (by rw [it1, bt]; decide), if_neg (by rw [el]; simp)]
    cases hc : t.h.clk
    · rfl
    · rw [if_pos rfl, dr, if_pos (by rw [← cc]; exact hc)]; exact b1
  have L : loadS t (saveS s) = { t with ram := (saveS s).take t.ram.length, live := if t.h.clk = true then ofX ((saveS s).drop t.ram.length) else t.live, held := if t.h.clk = true then ofY ((saveS s).drop t.ram.length) else t.held } := by unfold loadS; rw [if_pos E]
  refine ⟨E, (load_h t _).2, ?_, ?_, ?_, load_save t _ (save_in s O) E⟩
  · rw [L]
    dsimp only
    cases hc : t.h.clk
    · have d1 := (J.dead (by rw [← J.h]; exact hc)).1
      have d2 := (I.dead (by rw [← J.h]; exact hc)).1
      rw [if_neg (by decide), d1, d2]
    · rw [if_pos rfl, dr, if_pos (by rw [← cc]; exact hc), b2]
  · rw [L]
    dsimp only
    cases hc : t.h.clk
    · have d1 := (J.dead (by rw [← J.h]; exact hc)).2
      have d2 := (I.dead (by rw [← J.h]; exact hc)).2
      rw [if_neg (by decide), d1, d2]
    · rw [if_pos rfl, dr, if_pos (by rw [← cc]; exact hc), b3]
  · rw [L]; exact tk
end Go.Proofs.YtfmddnekooojkaaDoor
