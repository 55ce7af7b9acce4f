/- The program's cart: Load. The program's cart: Load, of clocks. The program's cart: New. The examples at the head of layer 10's laws. -/
import Derived.Test.YtfmddnekooojkaaGreatDoorG34
import Derived.Test.YtfmddnekooojkaaGreatDoorG29
import Derived.Test.YtfmddnekooojkaaGreatDoorG38
import Derived.Test.YtfmddnekooojkaaGreatDoorG19
import Derived.Test.YtfmddnekooojkaaGreatDoorG37
import Derived.Test.YtfmddnekooojkaaGreatDoorG30
import Derived.Test.YtfmddnekooojkaaGreatDoorG26
namespace Go.Proofs.YtfmddnekooojkaaGreatDoor
open Go.RowKit
set_option linter.unusedVariables false
set_option linter.unusedSimpArgs false

theorem wp_st10 {P : Program} {op : Oper} {a : Act} {w : World} {K : Act → World → Prop} {Q : Exit → Act → World → Prop} {ty : TypeId} {x y : Operand} {b o : Nat} {v : Value} {t : TypeId} {cs : List Value}
    (hB : Blk w b t cs) (ho : op.op = .store ty x y) (hx : a.eval x = .pointer (some ⟨b, o, none⟩)) (hy : a.eval y = v)
    (hi : (P.info? ty).map (·.size) = some v.cells.size) (h1 : v.cells.toList.all (·.oneCell') = true) (hl : o + v.cells.toList.length ≤ cs.length)
    (h : ∀ u, Put w b t (cs.take o ++ v.cells.toList ++ cs.drop (o + v.cells.toList.length)) u → K (a.put op.dst undef) u) : op.wp P a w K Q := by
  unfold Oper.wp execOp
  simp only [ho, hx, hy, Instr.storeAt, Instr.sureAddr, Sem.run_bind, Sem.run_pure, Result.andThen_ok, run_storeVar_any w b o ty v (blk_there hB (by simpa using hl)) hi (Array.all_eq_true_iff_forall_mem.2 (fun x hx => List.all_eq_true.1 h1 x (by simpa using hx)))]
  exact h _ (put_of hB o v.cells.toList hl)
theorem keptX_setRow (w : World) (g : Nat) (cs : Array Value) : KeptX (fun k => k = g) w (w.setRow g cs) :=
  ⟨rfl, rfl, by simp, fun k hk hf => setRow_other w g k cs hf⟩
/-- copy(ram, b): the RAM is the beginning of b. -/
theorem copy_load {w : World} {r cr : Nat} {L z : List Int} {bx : Option Addr} {cb : Nat} (o : OwnB w 0 r cr L) (hc : L.length = cr) (sb : Sl w bx cb z) (hz : L.length ≤ z.length) :
    ∃ w2, (∀ ty, (Builtin.copy_ #[22, 22] ty #[.slice (some ⟨r, 0, none⟩) L.length cr, .slice bx z.length cb]).run Tryz.prog w = .ok (.int .i64 (L.length : Int)) w2) ∧ OwnB w2 0 r cr (z.take L.length) ∧ KeptX (fun k => k = r) w w2 := by
  obtain ⟨hh, hb, hm⟩ := ownB_heap o hc
  cases bx with
  | none =>
    have c0 := sb.nil rfl
    have z0 := sb.len
    obtain rfl : z = [] := List.eq_nil_of_length_eq_zero (by omega)
    obtain rfl : L = [] := List.eq_nil_of_length_eq_zero (by simpa using hz)
    refine ⟨w, fun ty => ?_, o, KeptX.refl w⟩
    exact run_copy_none (P := Tryz.prog) w 22 22 ty 5 _ _ _ _ _ _ Tryz.underlying22 (by kernel_rfl) rfl
  | some y =>
    have tl : (z.take L.length).length = L.length := by rw [List.length_take]; omega
    refine ⟨w.setRow r ((z.take L.length).map (Value.int .u8)).toArray, fun ty => ?_, ?_, keptX_setRow _ _ _⟩
    · have := run_copy_row Tryz.prog w 22 22 ty 5 r 0 L.length cr y z.length cb _ 5 ((z.take L.length).map (Value.int .u8)) Tryz.underlying22 (by kernel_rfl) hh (by rw [List.length_map, tl]; exact (Nat.min_eq_right hz).symm) (row_news10 (row_take _ sb.row)) (by simpa using Nat.min_le_left _ _) (fun v hv => by obtain ⟨q, _, rfl⟩ := List.mem_map.1 hv; rfl)
      rw [List.toList_toArray, List.length_map, tl, List.take_zero, List.nil_append, List.drop_of_length_le (by simp), List.append_nil] at this
      exact this
    · refine heap_ownB ?_ hb (by rw [tl]; exact hc) hm
      exact setRow_heap w r _ _ _ _ hh
set_option maxRecDepth 100000 in
set_option maxHeartbeats 4000000 in
theorem kload_no (v : Value) (z : List Int) (bx : Option Addr) (cb : Nat) (w : World) (h : NoCart w v) : Calls Tryz.prog 15 #[v, .slice bx z.length cb] w fun e w' => e = .returned (.int .i64 7) ∧ w' = w := by
  have N := hid (fun u (k : Kept w u) => knob_no v u (h.kept k))
  clear h
  go_enter Tryz.func15, Tryz.ntmps15
  go_wp2_with fail
  refine (N.out _ (Kept.refl w)).mono ?_
  rintro e u1 ⟨rfl, hu⟩
  go_wp2
  go_ret
  exact ⟨rfl, rfl⟩
set_option maxRecDepth 100000 in
set_option maxHeartbeats 4000000 in
theorem kload_bat (s : Cs) (p i ci r cr : Nat) (z : List Int) (bx : Option Addr) (cb : Nat) (w : World) (h : CartIn w s p i ci r cr) (hb : s.h.bat = false) : Calls Tryz.prog 15 #[.pointer (some ⟨p, 0, none⟩), .slice bx z.length cb] w fun e w' => e = .returned (.int .i64 7) ∧ w' = w := by
  have N := hid (fun u (k : Kept w u) => knob_in s p i ci r cr u (h.keep k))
  have c0 := blk_cell h.blk
  have pw := blk_lt h.blk
  clear h
  obtain ⟨is, ⟨h0, h1, h2, h3, h4, h5, h6, h7, h8, h9⟩, img, ram, m, live, held, last⟩ := s
  simp only at hb
  subst hb
  go_enter Tryz.func15, Tryz.ntmps15
  go_wp2_with fail
  refine (N.out _ (Kept.refl w)).mono ?_
  rintro e u1 ⟨rfl, hu⟩
  go_wp2
  go_ret
  exact ⟨rfl, rfl⟩
set_option maxRecDepth 100000 in
set_option maxHeartbeats 4000000 in
theorem kload_size (s : Cs) (p i ci r cr : Nat) (z : List Int) (bx : Option Addr) (cb : Nat) (w : World) (h : CartIn w s p i ci r cr) (hb : s.h.bat = true) (hz : z.length ≠ (saveS s).length) : Calls Tryz.prog 15 #[.pointer (some ⟨p, 0, none⟩), .slice bx z.length cb] w fun e w' => e = .returned (.int .i64 5) ∧ w' = w := by
  have N := hid (fun u (k : Kept w u) => knob_in s p i ci r cr u (h.keep k))
  have SZ := hid (ksize_in s p i ci r cr w h)
  have sl := save_len s ⟨h.yes, hb⟩
  have d1 : ((z.length : Int) != (s.ram.length : Int) + (if s.h.clk = true then 10 else 0)) = true := by
    simp only [bne_iff_ne]
    intro e
    apply hz
    rw [sl]
    cases hc : s.h.clk <;> simp [hc] at e ⊢ <;> omega
  generalize (s.ram.length : Int) + (if s.h.clk = true then 10 else 0) = Z at *
  have c0 := blk_cell h.blk
  have pw := blk_lt h.blk
  clear h hz sl
  obtain ⟨is, ⟨h0, h1, h2, h3, h4, h5, h6, h7, h8, h9⟩, img, ram, m, live, held, last⟩ := s
  simp only at hb
  subst hb
  go_enter Tryz.func15, Tryz.ntmps15
  go_wp2_with fail
  refine (N.out _ (Kept.refl w)).mono ?_
  rintro e u1 ⟨rfl, hu⟩
  go_wp2_with fail
  try rw [hu]
  refine SZ.out.mono ?_
  rintro e u2 ⟨rfl, hu2⟩
  go_wp2
  go_ret
  exact ⟨rfl, rfl⟩
theorem CartIn.load {w u u2 : World} {s t : Cs} {p i ci r cr : Nat} (h : CartIn w s p i ci r cr) (ok : CsOk t) (yes : t.is = true) (hi : t.img = s.img) (hl : t.ram.length = s.ram.length) (B : Blk u p 64 (cartL t (some ⟨i, 0, none⟩) ci (some ⟨r, 0, none⟩) cr)) (k : KeptX (fun k => k = p) w u) (o : OwnB u2 0 r cr t.ram) (k2 : KeptX (fun k => k = r) u u2) : CartIn u2 t p i ci r cr :=
  ⟨ok, yes, blkX k2 B h.pr, by
    rw [hi]
    have e1 := k.block i (ownB_lt h.img).2 (fun e => h.pi e.symm)
    have e2 := k2.block i (Nat.lt_of_lt_of_le (ownB_lt h.img).2 k.size) h.ir
    exact ownB_blk h.img (e2.trans e1), o, h.pi, h.pr, h.ir, hl.trans h.cap⟩
set_option maxRecDepth 100000 in
set_option maxHeartbeats 4000000 in
theorem kload_ram (s : Cs) (p i ci r cr : Nat) (z : List Int) (bx : Option Addr) (cb : Nat) (w : World) (h : CartIn w s p i ci r cr) (sb : Sl w bx cb z) (hb : s.h.bat = true) (hc : s.h.clk = false) (hz : z.length = (saveS s).length) : Calls Tryz.prog 15 #[.pointer (some ⟨p, 0, none⟩), .slice bx z.length cb] w fun e w' => e = .returned (.int .i64 (loadE s z)) ∧ CartIn w' (loadS s z) p i ci r cr ∧ KeptX (fun k => k = p ∨ k = i ∨ k = r) w w' := by
  have N := hid (fun u (k : Kept w u) => knob_in s p i ci r cr u (h.keep k))
  have SZ := hid (ksize_in s p i ci r cr w h)
  have sl := save_len s ⟨h.yes, hb⟩
  rw [hc, if_neg (by decide), Nat.add_zero] at sl
  have hzl : z.length = s.ram.length := hz.trans sl
  have tl : (z.take s.ram.length).length = s.ram.length := by rw [List.length_take]; omega
  have E : loadE s z = 0 := by unfold loadE; rw [if_neg (by rw [h.yes, hb]; decide), if_neg (by rw [hz]; simp), if_neg (by rw [hc]; decide)]
  have E2 : loadS s z = { s with ram := z.take s.ram.length } := by unfold loadS; rw [E, if_pos rfl, if_neg (by rw [hc]; decide), if_neg (by rw [hc]; decide)]
  have OK := loadS_ok s z h.ok sb.row.2.1
  rw [E2] at OK
  rw [E, E2]
  have rl := h.ok.rlen
  obtain ⟨w2, hrun, o2, kx⟩ := copy_load h.ram h.cap sb (by omega)
  have B2 : Blk w p 64 (cartL { s with ram := z.take s.ram.length } (some ⟨i, 0, none⟩) ci (some ⟨r, 0, none⟩) cr) := by
    have b := h.blk
    show Blk _ _ _ [_, _, _, _, _, _, _, _, _, _, _, _, _, _, _, _, _, _, _, _, _, _, _, _, _, _, _, _, _, _, .slice _ (z.take s.ram.length).length _]
    rw [tl]
    exact b
  have FIN := hid (And.intro (h.load (t := { s with ram := z.take s.ram.length }) OK h.yes rfl tl B2 (KeptX.refl w) o2 kx) (kx.more (G := (fun k => k = p ∨ k = i ∨ k = r)) fun k e => .inr (.inr e)))
  have c0 := blk_cell h.blk
  have pw := blk_lt h.blk
  rw [hc, if_neg (by decide), Int.add_zero] at SZ
  rw [hzl] at hrun
  rw [hzl]
  clear h E E2 OK o2 kx B2 sl hz tl
  obtain ⟨is, ⟨h0, h1, h2, h3, h4, h5, h6, h7, h8, h9⟩, img, ram, m, live, held, last⟩ := s
  simp only at hb hc SZ hrun rl c0
  subst hb hc
  have d1 : ((ram.length : Int) != (ram.length : Int)) = false := by simp
  simp only at FIN
  obtain ⟨TT, hTT⟩ : ∃ T, z.take ram.length = T := ⟨_, rfl⟩
  rw [hTT] at FIN
  rw [hTT]
  clear hTT hzl
  go_enter Tryz.func15, Tryz.ntmps15
  go_wp2_with fail
  refine (N.out _ (Kept.refl w)).mono ?_
  rintro e u1 ⟨rfl, hu⟩
  go_wp2_with fail
  try rw [hu]
  refine SZ.out.mono ?_
  rintro e u2 ⟨rfl, hu2⟩
  go_wp2
  go_ret
  exact ⟨rfl, FIN.out.1, FIN.out.2⟩
set_option maxRecDepth 100000 in
set_option maxHeartbeats 4000000 in
theorem kload_bad (s : Cs) (p i ci r cr : Nat) (z : List Int) (bx : Option Addr) (cb : Nat) (w : World) (h : CartIn w s p i ci r cr) (sb : Sl w bx cb z) (hb : s.h.bat = true) (hc : s.h.clk = true) (hz : z.length = (saveS s).length) (hE : ofE (z.drop s.ram.length) ≠ 0) : Calls Tryz.prog 15 #[.pointer (some ⟨p, 0, none⟩), .slice bx z.length cb] w fun e w' => e = .returned (.int .i64 (ofE (z.drop s.ram.length))) ∧ Kept w w' := by
  have N := hid (fun u (k : Kept w u) => knob_in s p i ci r cr u (h.keep k))
  have SZ := hid (ksize_in s p i ci r cr w h)
  have sl := save_len s ⟨h.yes, hb⟩
  rw [hc, if_pos rfl] at sl
  have hzl : z.length = s.ram.length + 10 := hz.trans sl
  obtain ⟨x, rfl, hx, _⟩ := row_get sb.row (by omega)
  have hcb := sb.len
  have hcm := sb.max
  have hmx : maxLen = 9223372036854775807 := rfl
  have C3 := hid (cof_any (z.drop s.ram.length) (some (x.add s.ram.length)) (cb - s.ram.length) w (row_drop s.ram.length sb.row (by omega)) (by rw [List.length_drop]; omega) (by omega))
  rw [List.length_drop, hzl, Nat.add_sub_cancel_left] at C3
  have rl := h.ok.rlen
  have c0 := blk_cell h.blk
  have pw := blk_lt h.blk
  rw [hc, if_pos rfl] at SZ
  clear h sl hz sb
  obtain ⟨is, ⟨h0, h1, h2, h3, h4, h5, h6, h7, h8, h9⟩, img, ram, m, live, held, last⟩ := s
  simp only at hb hc SZ C3 hzl rl hE c0
  subst hb hc
  generalize ofE (z.drop ram.length) = EE at *
  generalize ofX (z.drop ram.length) = XX at *
  generalize ofY (z.drop ram.length) = YY at *
  have d2 : (EE != 0) = true := by simpa using hE
  have d1 : ((z.length : Int) != (ram.length : Int) + 10) = false := by simp only [bne_eq_false_iff_eq]; omega
  have e1 : (ram.length : Int) ≤ (z.length : Int) := by omega
  have e2 : (z.length : Int) ≤ (cb : Int) := by omega
  have e3 : ¬ cb = ram.length := by omega
  have e4 : ¬ (cb : Int) = (ram.length : Int) := by omega
  have e5 : ((z.length : Int) - (ram.length : Int)).toNat = z.length - ram.length := by omega
  have e6 : ((cb : Int) - (ram.length : Int)).toNat = cb - ram.length := by omega
  have e7 : ram.length + 10 - ram.length = 10 := by omega
  go_enter Tryz.func15, Tryz.ntmps15
  go_wp2_with fail
  refine (N.out _ (Kept.refl w)).mono ?_
  rintro e u1 ⟨rfl, hu⟩
  go_wp2_with fail
  try rw [hu]
  refine SZ.out.mono ?_
  rintro e u2 ⟨rfl, hu2⟩
  go_wp2_with fail
  try rw [hu2]
  refine C3.out.mono ?_
  rintro e u3 ⟨rfl, k3⟩
  have K3 := hid k3
  clear k3
  go_wp2
  go_ret
  exact ⟨rfl, (K3.out.alloc _).alloc _⟩
end Go.Proofs.YtfmddnekooojkaaGreatDoor
namespace Go.Proofs.YtfmddnekooojkaaGreatDoor
open Go.RowKit
set_option linter.unusedVariables false
set_option linter.unusedSimpArgs false

set_option maxRecDepth 100000 in
set_option maxHeartbeats 4000000 in
theorem kload_good (s : Cs) (p i ci r cr : Nat) (z : List Int) (bx : Option Addr) (cb : Nat) (w : World) (h : CartIn w s p i ci r cr) (sb : Sl w bx cb z) (off : Off (fun k => k = p ∨ k = i ∨ k = r) bx z) (hb : s.h.bat = true) (hc : s.h.clk = true) (hz : z.length = (saveS s).length) (hE : ofE (z.drop s.ram.length) = 0) : Calls Tryz.prog 15 #[.pointer (some ⟨p, 0, none⟩), .slice bx z.length cb] w fun e w' => e = .returned (.int .i64 (loadE s z)) ∧ CartIn w' (loadS s z) p i ci r cr ∧ KeptX (fun k => k = p ∨ k = i ∨ k = r) w w' := by
  have E : loadE s z = 0 := by unfold loadE; rw [if_neg (by rw [h.yes, hb]; decide), if_neg (by rw [hz]; simp), if_pos hc, hE]
  have E2 : loadS s z = { s with ram := z.take s.ram.length, live := ofX (z.drop s.ram.length), held := ofY (z.drop s.ram.length) } := by unfold loadS; rw [E, if_pos rfl, if_pos hc, if_pos hc]
  have OK := loadS_ok s z h.ok sb.row.2.1
  rw [E2] at OK
  rw [E, E2]
  have N := hid (fun u (k : Kept w u) => knob_in s p i ci r cr u (h.keep k))
  have SZ := hid (ksize_in s p i ci r cr w h)
  have sl := save_len s ⟨h.yes, hb⟩
  rw [hc, if_pos rfl] at sl
  have hzl : z.length = s.ram.length + 10 := hz.trans sl
  obtain ⟨x, rfl, hx, _⟩ := row_get sb.row (by omega)
  have hcb := sb.len
  have hcm := sb.max
  have hmx : maxLen = 9223372036854775807 := rfl
  have C3 := hid (cof_any (z.drop s.ram.length) (some (x.add s.ram.length)) (cb - s.ram.length) w (row_drop s.ram.length sb.row (by omega)) (by rw [List.length_drop]; omega) (by omega))
  rw [List.length_drop, hzl, Nat.add_sub_cancel_left] at C3
  rw [hE] at C3
  have rl := h.ok.rlen
  have tl : (z.take s.ram.length).length = s.ram.length := by rw [List.length_take]; omega
  have SB := hid sb
  have OF := hid off
  have B0 := hid h.blk
  have c0 := blk_cell h.blk
  have pw := blk_lt h.blk
  have hcap := hid h.cap
  have hrm := hid (fun u (e : u.heap[r]? = w.heap[r]?) => ownB_blk (u := u) h.ram e)
  have rlt := (ownB_lt h.ram).2
  have hpr := hid h.pr
  rw [hc, if_pos rfl] at SZ
  have FIN := hid (fun u u2 B k o k2 => h.load (u := u) (u2 := u2) (t := { s with ram := z.take s.ram.length, live := ofX (z.drop s.ram.length), held := ofY (z.drop s.ram.length) }) OK h.yes rfl tl B k o k2)
  have TL := hid tl
  clear h sl sb off hE E E2 OK tl
  obtain ⟨is, ⟨h0, h1, h2, h3, h4, h5, h6, h7, h8, h9⟩, img, ram, m, live, held, last⟩ := s
  simp only at hb hc SZ C3 hzl rl c0 FIN TL B0 hcap hrm
  subst hb hc
  generalize ofX (z.drop ram.length) = XX at *
  generalize ofY (z.drop ram.length) = YY at *
  have d1 : ((z.length : Int) != (ram.length : Int) + 10) = false := by simp only [bne_eq_false_iff_eq]; omega
  have e1 : (ram.length : Int) ≤ (z.length : Int) := by omega
  have e2 : (z.length : Int) ≤ (cb : Int) := by omega
  have e3 : ¬ cb = ram.length := by omega
  have e4 : ¬ (cb : Int) = (ram.length : Int) := by omega
  have e5 : ((z.length : Int) - (ram.length : Int)).toNat = z.length - ram.length := by omega
  have e6 : ((cb : Int) - (ram.length : Int)).toNat = cb - ram.length := by omega
  have e7 : ram.length + 10 - ram.length = 10 := by omega
  go_enter Tryz.func15, Tryz.ntmps15
  go_wp2_with fail
  refine (N.out _ (Kept.refl w)).mono ?_
  rintro e u1 ⟨rfl, hu⟩
  go_wp2_with fail
  try rw [hu]
  refine SZ.out.mono ?_
  rintro e u2 ⟨rfl, hu2⟩
  go_wp2_with fail
  try rw [hu2]
  refine C3.out.mono ?_
  rintro e u3 ⟨rfl, k3⟩
  have K3 := hid k3
  clear hu hu2 c0
  have B4 : Blk ((u3.alloc (.cells ([.int .u8 XX.sec, .int .u8 XX.min, .int .u8 XX.hour, .int .u16 XX.day, .bool XX.halt, .bool XX.carry] : List Value).toArray 35)).alloc (.cells ([.int .u8 YY.sec, .int .u8 YY.min, .int .u8 YY.hour, .int .u16 YY.day, .bool YY.halt, .bool YY.carry] : List Value).toArray 35)) p 64 (cartL ⟨is, ⟨h0, h1, h2, h3, true, true, h6, h7, h8, h9⟩, img, ram, m, live, held, last⟩ (some ⟨i, 0, none⟩) ci (some ⟨r, 0, none⟩) cr) := blk_past (blk_past (blk_kept k3 B0.out) _) _
  have X4 : Blk ((u3.alloc (.cells ([.int .u8 XX.sec, .int .u8 XX.min, .int .u8 XX.hour, .int .u16 XX.day, .bool XX.halt, .bool XX.carry] : List Value).toArray 35)).alloc (.cells ([.int .u8 YY.sec, .int .u8 YY.min, .int .u8 YY.hour, .int .u16 YY.day, .bool YY.halt, .bool YY.carry] : List Value).toArray 35)) u3.heap.size 35 [.int .u8 XX.sec, .int .u8 XX.min, .int .u8 XX.hour, .int .u16 XX.day, .bool XX.halt, .bool XX.carry] := blk_past (blk_new u3 _ _) _
  have Y4 : Blk ((u3.alloc (.cells ([.int .u8 XX.sec, .int .u8 XX.min, .int .u8 XX.hour, .int .u16 XX.day, .bool XX.halt, .bool XX.carry] : List Value).toArray 35)).alloc (.cells ([.int .u8 YY.sec, .int .u8 YY.min, .int .u8 YY.hour, .int .u16 YY.day, .bool YY.halt, .bool YY.carry] : List Value).toArray 35)) (u3.heap.size + 1) 35 [.int .u8 YY.sec, .int .u8 YY.min, .int .u8 YY.hour, .int .u16 YY.day, .bool YY.halt, .bool YY.carry] := by have q := blk_new (u3.alloc (.cells ([.int .u8 XX.sec, .int .u8 XX.min, .int .u8 XX.hour, .int .u16 XX.day, .bool XX.halt, .bool XX.carry] : List Value).toArray 35)) [.int .u8 YY.sec, .int .u8 YY.min, .int .u8 YY.hour, .int .u16 YY.day, .bool YY.halt, .bool YY.carry] 35; rw [World.size_alloc] at q; exact q
  have K4 : Kept w ((u3.alloc (.cells ([.int .u8 XX.sec, .int .u8 XX.min, .int .u8 XX.hour, .int .u16 XX.day, .bool XX.halt, .bool XX.carry] : List Value).toArray 35)).alloc (.cells ([.int .u8 YY.sec, .int .u8 YY.min, .int .u8 YY.hour, .int .u16 YY.day, .bool YY.halt, .bool YY.carry] : List Value).toArray 35)) := (k3.alloc _).alloc _
  have K4 := hid K4
  obtain ⟨W4, hW4⟩ : ∃ v, ((u3.alloc (.cells ([.int .u8 XX.sec, .int .u8 XX.min, .int .u8 XX.hour, .int .u16 XX.day, .bool XX.halt, .bool XX.carry] : List Value).toArray 35)).alloc (.cells ([.int .u8 YY.sec, .int .u8 YY.min, .int .u8 YY.hour, .int .u16 YY.day, .bool YY.halt, .bool YY.carry] : List Value).toArray 35)) = v := ⟨_, rfl⟩
  rw [hW4] at B4 X4 Y4 K4
  have p3 : p < u3.heap.size := blk_lt (blk_kept k3 B0.out)
  have n1 : u3.heap.size ≠ p := by omega
  have n2 : u3.heap.size + 1 ≠ p := by omega
  have pw4 := blk_lt B4
  have x4 := blk_cell X4
  have y4 := blk_cell Y4
  clear k3
  go_wp2_with fail
  try rw [show (u3.alloc (.cells #[.int .u8 XX.sec, .int .u8 XX.min, .int .u8 XX.hour, .int .u16 XX.day, .bool XX.halt, .bool XX.carry] 35)).alloc (.cells #[.int .u8 YY.sec, .int .u8 YY.min, .int .u8 YY.hour, .int .u16 YY.day, .bool YY.halt, .bool YY.carry] 35) = W4 from hW4]
  clear hW4
  refine wp_region_held_drew (S := (fun w' => w'.cell? ⟨u3.heap.size, 0, none⟩ = some (.int .u8 XX.sec) ∧ w'.cell? ⟨u3.heap.size, 1, none⟩ = some (.int .u8 XX.min) ∧ w'.cell? ⟨u3.heap.size, 2, none⟩ = some (.int .u8 XX.hour) ∧ w'.cell? ⟨u3.heap.size, 3, none⟩ = some (.int .u16 XX.day) ∧ w'.cell? ⟨u3.heap.size, 4, none⟩ = some (.bool XX.halt) ∧ w'.cell? ⟨u3.heap.size, 5, none⟩ = some (.bool XX.carry) ∧ w'.cell? ⟨u3.heap.size + 1, 0, none⟩ = some (.int .u8 YY.sec) ∧ w'.cell? ⟨u3.heap.size + 1, 1, none⟩ = some (.int .u8 YY.min) ∧ w'.cell? ⟨u3.heap.size + 1, 2, none⟩ = some (.int .u8 YY.hour) ∧ w'.cell? ⟨u3.heap.size + 1, 3, none⟩ = some (.int .u16 YY.day) ∧ w'.cell? ⟨u3.heap.size + 1, 4, none⟩ = some (.bool YY.halt) ∧ w'.cell? ⟨u3.heap.size + 1, 5, none⟩ = some (.bool YY.carry))) (by kernel_rfl) (by go_keep) (fun hHeld => ?_)
  refine wpAnyH_take (i := 0) (v := ?_) rfl (by kernel_rfl) (by kernel_rfl) (by kernel_rfl) (fun _ _ _ h => h) (Or.inl ⟨by rfl, ?_⟩) (by assumption) ?_
  rotate_left
  · intro w hSw
    (try dsimp only at hSw)
    go_simp
    try with_reducible rfl
  simp only [Act.put, List.getElem_toArray, List.getElem_cons_succ, List.getElem_cons_zero, List.setIfInBounds_toArray, List.set_cons_zero, List.set_cons_succ]
  refine wpAnyH_take (i := 1) (v := ?_) rfl (by kernel_rfl) (by kernel_rfl) (by kernel_rfl) (fun _ _ _ h => h) (Or.inl ⟨by rfl, ?_⟩) (by assumption) ?_
  rotate_left
  · intro w hSw
    (try dsimp only at hSw)
    go_simp
    try with_reducible rfl
  simp only [Act.put, List.getElem_toArray, List.getElem_cons_succ, List.getElem_cons_zero, List.setIfInBounds_toArray, List.set_cons_zero, List.set_cons_succ]
  refine wpAnyH_take (i := 2) (v := ?_) rfl (by kernel_rfl) (by kernel_rfl) (by kernel_rfl) (fun _ _ _ h => h) (Or.inl ⟨by rfl, ?_⟩) (by assumption) ?_
  rotate_left
  · intro w hSw
    (try dsimp only at hSw)
    go_simp
    try with_reducible rfl
  simp only [Act.put, List.getElem_toArray, List.getElem_cons_succ, List.getElem_cons_zero, List.setIfInBounds_toArray, List.set_cons_zero, List.set_cons_succ]
  refine wpAnyH_take (i := 3) (v := ?_) rfl (by kernel_rfl) (by kernel_rfl) (by kernel_rfl) (fun _ _ _ h => h) (Or.inl ⟨by rfl, ?_⟩) (by assumption) ?_
  rotate_left
  · intro w hSw
    (try dsimp only at hSw)
    go_simp
    try with_reducible rfl
  simp only [Act.put, List.getElem_toArray, List.getElem_cons_succ, List.getElem_cons_zero, List.setIfInBounds_toArray, List.set_cons_zero, List.set_cons_succ]
  refine wpAnyH_take (i := 4) (v := ?_) rfl (by kernel_rfl) (by kernel_rfl) (by kernel_rfl) (fun _ _ _ h => h) (Or.inl ⟨by rfl, ?_⟩) (by assumption) ?_
  rotate_left
  · intro w hSw
    (try dsimp only at hSw)
    go_simp
    try with_reducible rfl
  simp only [Act.put, List.getElem_toArray, List.getElem_cons_succ, List.getElem_cons_zero, List.setIfInBounds_toArray, List.set_cons_zero, List.set_cons_succ]
  refine wpAnyH_take (i := 5) (v := ?_) rfl (by kernel_rfl) (by kernel_rfl) (by kernel_rfl) (fun _ _ _ h => h) (Or.inl ⟨by rfl, ?_⟩) (by assumption) ?_
  rotate_left
  · intro w hSw
    (try dsimp only at hSw)
    go_simp
    try with_reducible rfl
  simp only [Act.put, List.getElem_toArray, List.getElem_cons_succ, List.getElem_cons_zero, List.setIfInBounds_toArray, List.set_cons_zero, List.set_cons_succ]
  refine wpAnyH_take (i := 6) (v := ?_) rfl (by kernel_rfl) (by kernel_rfl) (by kernel_rfl) (fun _ _ _ h => h) (Or.inl ⟨by rfl, ?_⟩) (by assumption) ?_
  rotate_left
  · intro w hSw
    (try dsimp only at hSw)
    go_simp
    try with_reducible rfl
  simp only [Act.put, List.getElem_toArray, List.getElem_cons_succ, List.getElem_cons_zero, List.setIfInBounds_toArray, List.set_cons_zero, List.set_cons_succ]
  refine wpAnyH_ready (rs := [7]) (by kernel_rfl) (by simp) ?_
  refine AllReadyH.cons rfl (fun K hK => ?_) AllReadyH.nil
  rw [if_pos (by rfl)]
  refine wp_st10 (blk_drew B4) rfl rfl rfl (by kernel_rfl) rfl (Nat.le_of_ble_eq_true rfl) (fun u5 p5 => ?_)
  have B5 : Blk u5 p 64 (cartL ⟨is, ⟨h0, h1, h2, h3, true, true, h6, h7, h8, h9⟩, img, ram, m, XX, held, last⟩ (some ⟨i, 0, none⟩) ci (some ⟨r, 0, none⟩) cr) := p5.blk
  have X5 := p5.other _ _ _ n1 (blk_drew X4)
  have Y5 := p5.other _ _ _ n2 (blk_drew Y4)
  have K5 := hid (p5.keptX (fun k => k = p) w (.of (K4.out.drew)) (.inl rfl))
  have x5 := blk_cell X5
  have y5 := blk_cell Y5
  clear x4 y4 p5
  refine hK.out _ _ (by go_keep) (fun hHeld => ?_)
  clear hK K
  try simp only [Act.put, List.getElem_toArray, List.getElem_cons_succ, List.getElem_cons_zero, List.setIfInBounds_toArray, List.set_cons_zero, List.set_cons_succ]
  refine wpAnyH_take (i := 8) (v := ?_) rfl (by kernel_rfl) (by kernel_rfl) (by kernel_rfl) (fun _ _ _ h => h) (Or.inl ⟨by rfl, ?_⟩) (by assumption) ?_
  rotate_left
  · intro w hSw
    (try dsimp only at hSw)
    go_simp
    try with_reducible rfl
  simp only [Act.put, List.getElem_toArray, List.getElem_cons_succ, List.getElem_cons_zero, List.setIfInBounds_toArray, List.set_cons_zero, List.set_cons_succ]
  refine wpAnyH_take (i := 9) (v := ?_) rfl (by kernel_rfl) (by kernel_rfl) (by kernel_rfl) (fun _ _ _ h => h) (Or.inl ⟨by rfl, ?_⟩) (by assumption) ?_
  rotate_left
  · intro w hSw
    (try dsimp only at hSw)
    go_simp
    try with_reducible rfl
  simp only [Act.put, List.getElem_toArray, List.getElem_cons_succ, List.getElem_cons_zero, List.setIfInBounds_toArray, List.set_cons_zero, List.set_cons_succ]
  refine wpAnyH_take (i := 10) (v := ?_) rfl (by kernel_rfl) (by kernel_rfl) (by kernel_rfl) (fun _ _ _ h => h) (Or.inl ⟨by rfl, ?_⟩) (by assumption) ?_
  rotate_left
  · intro w hSw
    (try dsimp only at hSw)
    go_simp
    try with_reducible rfl
  simp only [Act.put, List.getElem_toArray, List.getElem_cons_succ, List.getElem_cons_zero, List.setIfInBounds_toArray, List.set_cons_zero, List.set_cons_succ]
  refine wpAnyH_ready (rs := [11]) (by kernel_rfl) (by simp) ?_
  refine AllReadyH.cons rfl (fun K hK => ?_) AllReadyH.nil
  rw [if_pos (by rfl)]
  refine wp_st10 B5 rfl rfl rfl (by kernel_rfl) rfl (Nat.le_of_ble_eq_true rfl) (fun u6 p6 => ?_)
  have B6 : Blk u6 p 64 (cartL ⟨is, ⟨h0, h1, h2, h3, true, true, h6, h7, h8, h9⟩, img, ram, m, XX, YY, last⟩ (some ⟨i, 0, none⟩) ci (some ⟨r, 0, none⟩) cr) := p6.blk
  have x6 := blk_cell (p6.other _ _ _ n1 X5)
  have y6 := blk_cell (p6.other _ _ _ n2 Y5)
  have K6 := hid (p6.keptX (fun k => k = p) w K5.out (.inl rfl))
  clear x5 y5 p6
  refine hK.out _ _ (by go_keep) (fun hHeld => ?_)
  clear hK K x6 y6
  try simp only [Act.put, List.getElem_toArray, List.getElem_cons_succ, List.getElem_cons_zero, List.setIfInBounds_toArray, List.set_cons_zero, List.set_cons_succ]
  refine wpAnyH_done (by kernel_rfl) ?_ _
  have pw6 := blk_lt B6
  have c6 := blk_cell B6
  have S6 := slX (K6.out.more (G := (fun k => k = p ∨ k = i ∨ k = r)) fun k e => .inl e) SB.out OF.out
  obtain ⟨w7, hrun, o7, kx⟩ := copy_load (hrm.out u6 (K6.out.block r rlt (fun e => hpr.out e.symm))) hcap.out S6 (by omega)
  have B7 : Blk u6 p 64 (cartL ⟨is, ⟨h0, h1, h2, h3, true, true, h6, h7, h8, h9⟩, img, (z.take ram.length), m, XX, YY, last⟩ (some ⟨i, 0, none⟩) ci (some ⟨r, 0, none⟩) cr) := by
    show Blk _ _ _ [_, _, _, _, _, _, _, _, _, _, _, _, _, _, _, _, _, _, _, _, _, _, _, _, _, _, _, _, _, _, .slice _ (z.take ram.length).length _]
    rw [TL.out]
    exact B6
  have Z := hid (And.intro (FIN.out _ _ B7 K6.out o7 kx) ((K6.out.more (G := (fun k => k = p ∨ k = i ∨ k = r)) fun k e => .inl e).trans (kx.more (G := (fun k => k = p ∨ k = i ∨ k = r)) fun k e => .inr (.inr e)) (fun k e => .inl e)))
  rw [hzl] at hrun
  clear B7 FIN o7 kx S6
  go_wp2
  go_ret
  exact ⟨rfl, Z.out.1, Z.out.2⟩
theorem kload_any (s : Cs) (v : Value) (F : Nat → Prop) (z : List Int) (bx : Option Addr) (cb : Nat) (w : World) (h : CartAt w s v F) (sb : Sl w bx cb z) (off : Off F bx z) : Calls Tryz.prog 15 #[v, .slice bx z.length cb] w fun e w' => e = .returned (.int .i64 (loadE s z)) ∧ ∃ F', CartAt w' (loadS s z) v F' ∧ KeptX F w w' ∧ (∀ k, F' k → F k ∨ w.heap.size ≤ k) := by
  rcases cart_cases h with ⟨rfl, hn⟩ | ⟨p, i, ci, r, cr, rfl, hh, hF⟩
  · refine (kload_no v z bx cb w hn).mono ?_
    rintro e u ⟨rfl, rfl⟩
    exact ⟨rfl, cart_same h rfl⟩
  · cases hb : s.h.bat
    · have E : loadE s z = 7 := by unfold loadE; rw [if_pos (.inr hb)]
      have E2 : loadS s z = s := by unfold loadS; rw [E, if_neg (by decide)]
      refine (kload_bat s p i ci r cr z bx cb w hh hb).mono ?_
      rintro e u ⟨rfl, rfl⟩
      exact ⟨by rw [E], cart_same h E2⟩
    · by_cases hz : z.length = (saveS s).length
      · cases hc : s.h.clk
        · refine (kload_ram s p i ci r cr z bx cb w hh sb hb hc hz).mono ?_
          rintro e u ⟨rfl, c, k⟩
          exact ⟨rfl, c.done k hF⟩
        · by_cases hE : ofE (z.drop s.ram.length) = 0
          · refine (kload_good s p i ci r cr z bx cb w hh sb (by
              rcases off with q | q
              · exact .inl q
              · exact .inr fun x hx e => q x hx ((hF _).2 e)) hb hc hz hE).mono ?_
            rintro e u ⟨rfl, c, k⟩
            exact ⟨rfl, c.done k hF⟩
          · have E : loadE s z = ofE (z.drop s.ram.length) := by unfold loadE; rw [if_neg (by rw [hh.yes, hb]; decide), if_neg (by rw [hz]; simp), if_pos hc]
            have E2 : loadS s z = s := by unfold loadS; rw [E, if_neg hE]
            refine (kload_bad s p i ci r cr z bx cb w hh sb hb hc hz hE).mono ?_
            rintro e u ⟨rfl, k⟩
            refine ⟨by rw [E], F, ?_, .of k, fun _ q => .inl q⟩
            rw [E2]
            exact cart_keep h (G := fun _ => False) (.of k) (fun _ _ q => q)
      · have E : loadE s z = 5 := by unfold loadE; rw [if_neg (by rw [hh.yes, hb]; decide), if_pos hz]
        have E2 : loadS s z = s := by unfold loadS; rw [E, if_neg (by decide)]
        refine (kload_size s p i ci r cr z bx cb w hh hb hz).mono ?_
        rintro e u ⟨rfl, rfl⟩
        exact ⟨by rw [E], cart_same h E2⟩
end Go.Proofs.YtfmddnekooojkaaGreatDoor
namespace Go.Proofs.YtfmddnekooojkaaGreatDoor
open Go.RowKit
set_option linter.unusedVariables false
set_option linter.unusedSimpArgs false

theorem size_pos10 (z : List Int) : 0 ≤ (parseH z).size := by
  unfold parseH
  split
  · dsimp only
    split
    · unfold sizeM
      generalize z.getD 329 0 = y
      by_cases q : y.toNat < 6
      · have f : ∀ r : Fin 6, 0 ≤ ([0, 2048, 8192, 32768, 131072, 65536] : List Int).getD r.val 0 := by decide
        exact f ⟨_, q⟩
      · rw [List.getD_eq_getElem?_getD, List.getElem?_eq_none (by simp; omega)]; decide
    · decide
  · decide
theorem map_ok (z : List Int) (h : parseE z = 0) : newE (parseH z).map = 0 := by
  unfold parseH
  rw [if_pos h]
  show newE (kMap _) = 0
  unfold kMap
  split
  · rfl
  · split
    · rfl
    · split <;> rfl
theorem make_run10 (N : Nat) (h : N ≤ 131072) (w : World) : (Instr.makeSlice 22 (.int .i64 (N : Int)) (.int .i64 (N : Int))).run Tryz.prog w = .ok (.slice (some ⟨w.heap.size, 0, none⟩) N N) (w.alloc (.cells (Array.replicate N (Value.int .u8 0)) 5)) := by
  obtain ⟨i0, hi, hz0, hz1, hz2⟩ := info_parts info10_u8
  have r := run_make w 22 5 i0 (.int .u8 0) Tryz.underlying22 hi hz0 .i64 .i64 (N : Int) (N : Int) (by omega) (by omega) (by rw [hz2]; omega) (by omega)
  rw [r, hz1, Nat.mul_one, Int.toNat_natCast]
  have e : madeCells (Value.int .u8 0).cells N = Array.replicate N (Value.int .u8 0) := by
    apply Array.toList_inj.1
    rw [show (Value.int .u8 0).cells = #[Value.int .u8 0] from rfl, toList_madeCells_one, Array.toList_replicate]
  rw [e]
theorem made_own (w : World) (N : Nat) (h : N ≤ 131072) : OwnB (w.alloc (.cells (Array.replicate N (Value.int .u8 0)) 5)) 0 w.heap.size N (List.replicate N 0) := by
  refine heap_ownB ?_ (Nat.zero_le _) (by simp) (by have : maxLen = 9223372036854775807 := rfl; omega)
  refine (heap_alloc_new w _).trans ?_
  simp
theorem new_fin (U w : World) (z : List Int) (H : Hd) (M : Mp) (N i ci r : Nat) (OK : CsOk (⟨true, H, z, List.replicate N 0, M, ck0, ck0, 255⟩ : Cs)) (k : Kept w U) (oi : OwnB U 0 i ci z) (orr : OwnB U 0 r N (List.replicate N 0)) (ir : i ≠ r) (wi : w.heap.size ≤ i) (wr : w.heap.size ≤ r) :
    ∃ F, CartAt (U.alloc (.cells ([.int .i64 M.kind, .bool M.op, .int .u8 M.low, .int .u8 M.high, .int .u8 M.ram, .bool M.mode, .int .u8 0, .int .u8 0, .int .u8 0, .int .u16 0, .bool false, .bool false, .int .u8 0, .int .u8 0, .int .u8 0, .int .u16 0, .bool false, .bool false, .int .u8 255, .string H.title, .int .u8 H.kind, .int .i64 H.map, .bool H.ram, .bool H.bat, .bool H.clk, .int .i64 H.banks, .int .i64 H.size, .int .u8 H.sum, .int .u16 H.whole, .slice (some ⟨i, 0, none⟩) z.length ci, .slice (some ⟨r, 0, none⟩) N N] : List Value).toArray 64)) (⟨true, H, z, List.replicate N 0, M, ck0, ck0, 255⟩ : Cs) (.pointer (some ⟨U.heap.size, 0, none⟩)) F ∧ (∀ k, F k → w.heap.size ≤ k) ∧ Kept w (U.alloc (.cells ([.int .i64 M.kind, .bool M.op, .int .u8 M.low, .int .u8 M.high, .int .u8 M.ram, .bool M.mode, .int .u8 0, .int .u8 0, .int .u8 0, .int .u16 0, .bool false, .bool false, .int .u8 0, .int .u8 0, .int .u8 0, .int .u16 0, .bool false, .bool false, .int .u8 255, .string H.title, .int .u8 H.kind, .int .i64 H.map, .bool H.ram, .bool H.bat, .bool H.clk, .int .i64 H.banks, .int .i64 H.size, .int .u8 H.sum, .int .u16 H.whole, .slice (some ⟨i, 0, none⟩) z.length ci, .slice (some ⟨r, 0, none⟩) N N] : List Value).toArray 64)) := by
  have k2 : Kept U (U.alloc (.cells ([.int .i64 M.kind, .bool M.op, .int .u8 M.low, .int .u8 M.high, .int .u8 M.ram, .bool M.mode, .int .u8 0, .int .u8 0, .int .u8 0, .int .u16 0, .bool false, .bool false, .int .u8 0, .int .u8 0, .int .u8 0, .int .u16 0, .bool false, .bool false, .int .u8 255, .string H.title, .int .u8 H.kind, .int .i64 H.map, .bool H.ram, .bool H.bat, .bool H.clk, .int .i64 H.banks, .int .i64 H.size, .int .u8 H.sum, .int .u16 H.whole, .slice (some ⟨i, 0, none⟩) z.length ci, .slice (some ⟨r, 0, none⟩) N N] : List Value).toArray 64)) := (Kept.refl U).alloc _
  refine ⟨fun k => k = U.heap.size ∨ k = i ∨ k = r, CartIn.at (i := i) (ci := ci) (r := r) (cr := N) ⟨OK, rfl, ?_, ownB_blk oi (k2.block i (ownB_lt oi).2), ownB_blk orr (k2.block r (ownB_lt orr).2), ?_, ?_, ir, by simp⟩ (fun _ => Iff.rfl), ?_, k.alloc _⟩
  · show Blk _ _ _ [_, _, _, _, _, _, _, _, _, _, _, _, _, _, _, _, _, _, _, _, _, _, _, _, _, _, _, _, _, _, .slice _ (List.replicate N (0 : Int)).length _]
    rw [List.length_replicate]
    exact blk_new U _ _
  · have := (ownB_lt oi).2; omega
  · have := (ownB_lt orr).2; omega
  · rintro j (rfl | rfl | rfl)
    · exact k.size
    · exact wi
    · exact wr
set_option maxRecDepth 100000 in
set_option maxHeartbeats 4000000 in
theorem knew_bad (z : List Int) (bx : Option Addr) (cb : Nat) (w : World) (lay : Lay7 w) (sb : Sl w bx cb z) (hE : parseE z ≠ 0) : Calls Tryz.prog 5 #[.slice bx z.length cb] w fun e w' => ∃ v F, e = .returned (.tuple #[v, .int .i64 (parseE z)]) ∧ ((parseE z ≠ 0 ∧ v = .pointer none) ∨ (parseE z = 0 ∧ ∃ p, v = .pointer (some ⟨p, 0, none⟩))) ∧ CartAt w' (newC z) v F ∧ (∀ k, F k → w.heap.size ≤ k) ∧ Kept w w' := by
  have E : newC z = cs0 := by unfold newC; rw [if_neg hE]
  rw [E]
  have C1 := hid (hparse_any z bx cb w lay sb.row sb.len sb.max)
  have HE := hid hE
  generalize parseH z = H at *
  generalize parseE z = P at *
  have d1 : (P != 0) = true := by simpa using hE
  clear E sb lay hE
  go_enter Tryz.func5, Tryz.ntmps5
  go_wp2_with fail
  refine C1.out.mono ?_
  rintro e u1 ⟨rfl, k1⟩
  have K1 := hid k1
  clear k1
  go_wp2
  exact bodyPost_ret (v := .tuple #[.pointer none, .int .i64 P]) (by simp [results, Tryz.results5, go_sem]) rfl ⟨_, _, rfl, .inl ⟨HE.out, rfl⟩, cart_nobody _, (fun k q => q.elim), K1.out.alloc _⟩
set_option maxRecDepth 100000 in
set_option maxHeartbeats 4000000 in
theorem knew_ok (z : List Int) (bx : Option Addr) (cb : Nat) (w : World) (lay : Lay7 w) (sb : Sl w bx cb z) (hE : parseE z = 0) : Calls Tryz.prog 5 #[.slice bx z.length cb] w fun e w' => ∃ v F, e = .returned (.tuple #[v, .int .i64 (parseE z)]) ∧ ((parseE z ≠ 0 ∧ v = .pointer none) ∨ (parseE z = 0 ∧ ∃ p, v = .pointer (some ⟨p, 0, none⟩))) ∧ CartAt w' (newC z) v F ∧ (∀ k, F k → w.heap.size ≤ k) ∧ Kept w w' := by
  have E : newC z = ⟨true, parseH z, z, List.replicate (parseH z).size.toNat 0, newR (parseH z).map, ck0, ck0, 255⟩ := by unfold newC; rw [if_pos hE]
  have OK := new_ok z sb.row.2.1
  have rl := OK.rlen
  have zl := OK.ilen
  have z1 := OK.some (by rw [E])
  rw [E] at rl zl z1
  simp only [List.length_replicate] at rl zl z1
  have s0 : 0 ≤ (parseH z).size := size_pos10 z
  rw [E] at OK
  rw [E]
  have C1 := hid (hparse_any z bx cb w lay sb.row sb.len sb.max)
  have ME := map_ok z hE
  rw [hE] at C1
  generalize parseH z = H at *
  have C2 := hid (fun u => mnew_any H.map u)
  rw [ME] at C2
  obtain ⟨h0, h1, h2, h3, h4, h5, h6, h7, h8, h9⟩ := H
  simp only at C1 C2 rl s0
  obtain ⟨N, rfl⟩ : ∃ N : Nat, h7 = (N : Int) := ⟨h7.toNat, by omega⟩
  rw [Int.toNat_natCast] at rl
  simp only [Int.toNat_natCast] at OK ⊢
  generalize newR h2 = M at *
  have HOK := hid OK
  have HRL := hid rl
  have MR := fun w => make_run10 N rl w
  have SB := hid sb
  clear E sb lay ME s0 OK
  rw [hE]
  go_enter Tryz.func5, Tryz.ntmps5
  go_wp2_with fail
  refine C1.out.mono ?_
  rintro e u1 ⟨rfl, k1⟩
  have K1 := hid k1
  clear k1
  go_wp2_with fail
  refine (C2.out _).mono ?_
  rintro e u2 ⟨rfl, k2⟩
  have H2 := blk_kept k2 (blk_new u1 [.string h0, .int .u8 h1, .int .i64 h2, .bool h3, .bool h4, .bool h5, .int .i64 h6, .int .i64 (N : Int), .int .u8 h8, .int .u16 h9] 31)
  have K2 := hid ((K1.out.alloc _).trans k2)
  clear k2
  have H3 := blk_past H2 (.cells ([.int .i64 M.kind, .bool M.op, .int .u8 M.low, .int .u8 M.high, .int .u8 M.ram, .bool M.mode] : List Value).toArray 33)
  have M3 := blk_new u2 [.int .i64 M.kind, .bool M.op, .int .u8 M.low, .int .u8 M.high, .int .u8 M.ram, .bool M.mode] 33
  have K3 := hid (K2.out.alloc (.cells ([.int .i64 M.kind, .bool M.op, .int .u8 M.low, .int .u8 M.high, .int .u8 M.ram, .bool M.mode] : List Value).toArray 33))
  obtain ⟨W3, hW3⟩ : ∃ v, u2.alloc (.cells ([.int .i64 M.kind, .bool M.op, .int .u8 M.low, .int .u8 M.high, .int .u8 M.ram, .bool M.mode] : List Value).toArray 33) = v := ⟨_, rfl⟩
  rw [hW3] at H3 M3 K3
  have HH := hid H3
  have HM := hid M3
  have qh := blk_cell H3
  have qm := blk_cell M3
  have l1 := blk_lt H3
  have l2 := blk_lt M3
  have KZ := K3.out.size
  go_wp2_with fail
  try rw [show u2.alloc (.cells #[.int .i64 M.kind, .bool M.op, .int .u8 M.low, .int .u8 M.high, .int .u8 M.ram, .bool M.mode] 33) = W3 from hW3]
  clear H2 C1 C2 H3 M3 hW3
  refine wp_region_held_drew (S := (fun w' => w'.cell? ⟨u1.heap.size, 0, none⟩ = some (.string h0) ∧ w'.cell? ⟨u1.heap.size, 1, none⟩ = some (.int .u8 h1) ∧ w'.cell? ⟨u1.heap.size, 2, none⟩ = some (.int .i64 h2) ∧ w'.cell? ⟨u1.heap.size, 3, none⟩ = some (.bool h3) ∧ w'.cell? ⟨u1.heap.size, 4, none⟩ = some (.bool h4) ∧ w'.cell? ⟨u1.heap.size, 5, none⟩ = some (.bool h5) ∧ w'.cell? ⟨u1.heap.size, 6, none⟩ = some (.int .i64 h6) ∧ w'.cell? ⟨u1.heap.size, 7, none⟩ = some (.int .i64 (N : Int)) ∧ w'.cell? ⟨u1.heap.size, 8, none⟩ = some (.int .u8 h8) ∧ w'.cell? ⟨u1.heap.size, 9, none⟩ = some (.int .u16 h9) ∧ w'.cell? ⟨u2.heap.size, 0, none⟩ = some (.int .i64 M.kind) ∧ w'.cell? ⟨u2.heap.size, 1, none⟩ = some (.bool M.op) ∧ w'.cell? ⟨u2.heap.size, 2, none⟩ = some (.int .u8 M.low) ∧ w'.cell? ⟨u2.heap.size, 3, none⟩ = some (.int .u8 M.high) ∧ w'.cell? ⟨u2.heap.size, 4, none⟩ = some (.int .u8 M.ram) ∧ w'.cell? ⟨u2.heap.size, 5, none⟩ = some (.bool M.mode))) (by kernel_rfl) (by go_keep) (fun hHeld => ?_)
  refine wpAnyH_take (i := 0) (v := ?_) rfl (by kernel_rfl) (by kernel_rfl) (by kernel_rfl) (fun _ _ _ h => h) (Or.inl ⟨by rfl, ?_⟩) (by assumption) ?_
  rotate_left
  · intro w hSw
    (try dsimp only at hSw)
    go_simp
    try with_reducible rfl
  simp only [Act.put, List.getElem_toArray, List.getElem_cons_succ, List.getElem_cons_zero, List.setIfInBounds_toArray, List.set_cons_zero, List.set_cons_succ]
  refine wpAnyH_take (i := 1) (v := ?_) rfl (by kernel_rfl) (by kernel_rfl) (by kernel_rfl) (fun _ _ _ h => h) (Or.inl ⟨by rfl, ?_⟩) (by assumption) ?_
  rotate_left
  · intro w hSw
    (try dsimp only at hSw)
    go_simp
    try with_reducible rfl
  simp only [Act.put, List.getElem_toArray, List.getElem_cons_succ, List.getElem_cons_zero, List.setIfInBounds_toArray, List.set_cons_zero, List.set_cons_succ]
  refine wpAnyH_take (i := 2) (v := ?_) rfl (by kernel_rfl) (by kernel_rfl) (by kernel_rfl) (fun _ _ _ h => h) (Or.inl ⟨by rfl, ?_⟩) (by assumption) ?_
  rotate_left
  · intro w hSw
    (try dsimp only at hSw)
    go_simp
    try with_reducible rfl
  simp only [Act.put, List.getElem_toArray, List.getElem_cons_succ, List.getElem_cons_zero, List.setIfInBounds_toArray, List.set_cons_zero, List.set_cons_succ]
  refine wpAnyH_take (i := 3) (v := ?_) rfl (by kernel_rfl) (by kernel_rfl) (by kernel_rfl) (fun _ _ _ h => h) (Or.inl ⟨by rfl, ?_⟩) (by assumption) ?_
  rotate_left
  · intro w hSw
    (try dsimp only at hSw)
    go_simp
    try with_reducible rfl
  simp only [Act.put, List.getElem_toArray, List.getElem_cons_succ, List.getElem_cons_zero, List.setIfInBounds_toArray, List.set_cons_zero, List.set_cons_succ]
  refine wpAnyH_take (i := 4) (v := ?_) rfl (by kernel_rfl) (by kernel_rfl) (by kernel_rfl) (fun _ _ _ h => h) (Or.inl ⟨by rfl, ?_⟩) (by assumption) ?_
  rotate_left
  · intro w hSw
    (try dsimp only at hSw)
    go_simp
    try with_reducible rfl
  simp only [Act.put, List.getElem_toArray, List.getElem_cons_succ, List.getElem_cons_zero, List.setIfInBounds_toArray, List.set_cons_zero, List.set_cons_succ]
  refine wpAnyH_take (i := 6) (v := ?_) rfl (by kernel_rfl) (by kernel_rfl) (by kernel_rfl) (fun _ _ _ h => h) (Or.inl ⟨by rfl, ?_⟩) (by assumption) ?_
  rotate_left
  · intro w hSw
    (try dsimp only at hSw)
    go_simp
    try with_reducible rfl
  simp only [Act.put, List.getElem_toArray, List.getElem_cons_succ, List.getElem_cons_zero, List.setIfInBounds_toArray, List.set_cons_zero, List.set_cons_succ]
  refine wpAnyH_take (i := 7) (v := ?_) rfl (by kernel_rfl) (by kernel_rfl) (by kernel_rfl) (fun _ _ _ h => h) (Or.inl ⟨by rfl, ?_⟩) (by assumption) ?_
  rotate_left
  · intro w hSw
    (try dsimp only at hSw)
    go_simp
    try with_reducible rfl
  simp only [Act.put, List.getElem_toArray, List.getElem_cons_succ, List.getElem_cons_zero, List.setIfInBounds_toArray, List.set_cons_zero, List.set_cons_succ]
  refine wpAnyH_ready (rs := [5, 8]) (by kernel_rfl) (by simp) ?_
  refine AllReadyH.cons rfl (fun K hK => ?_) (AllReadyH.cons rfl (fun K hK => ?_) AllReadyH.nil)
  · go_simp
    refine (kcopy_any z bx cb _ (sl_kept K3.out.drew SB.out) (by omega)).mono ?_
    rintro e u4 ⟨v4, rfl, o4, k4⟩
    obtain ⟨i, ci, rfl, hi⟩ := own_slice o4 z1
    have hi2 : W3.heap.size ≤ i := hi
    have q1 := blk_cell (blk_kept k4 (blk_drew HH.out))
    have q2 := blk_cell (blk_kept k4 (blk_drew HM.out))
    have K4 : Kept w u4 := K3.out.drew.trans k4
    have K4 := hid K4
    have OI : OwnB (u4.alloc (.cells (Array.replicate N (Value.int .u8 0)) 5)) 0 i ci z := ownB_base (ownB_blk (show OwnB u4 _ i ci z from o4) (((Kept.refl u4).alloc (.cells (Array.replicate N (Value.int .u8 0)) 5)).block i (ownB_lt (show OwnB u4 _ i ci z from o4)).2)) (Nat.zero_le _)
    have il : i < u4.heap.size := (ownB_lt (show OwnB u4 _ i ci z from o4)).2
    have OI := hid OI
    have hs4 := K4.out.size
    clear o4 k4 qh qm
    refine hK.out _ _ (by simp [q1, q2]) (fun hHeld => ?_)
    clear hK K
    try simp only [Act.put, List.getElem_toArray, List.getElem_cons_succ, List.getElem_cons_zero, List.setIfInBounds_toArray, List.set_cons_zero, List.set_cons_succ]
    refine wpAnyH_ready (rs := [8]) (by kernel_rfl) (by simp) ?_
    refine AllReadyH.cons rfl (fun K hK => ?_) AllReadyH.nil
    go_simp
    refine hK.out _ _ (by simp [q1, q2, World.cell?_alloc_some]) (fun hHeld => ?_)
    clear hK K
    try simp only [Act.put, List.getElem_toArray, List.getElem_cons_succ, List.getElem_cons_zero, List.setIfInBounds_toArray, List.set_cons_zero, List.set_cons_succ]
    refine wpAnyH_take (i := 9) (v := ?_) rfl (by kernel_rfl) (by kernel_rfl) (by kernel_rfl) (fun _ _ _ h => h) (Or.inl ⟨by rfl, ?_⟩) (by assumption) ?_
    rotate_left
    · intro w hSw
      (try dsimp only at hSw)
      go_simp
      try with_reducible rfl
    simp only [Act.put, List.getElem_toArray, List.getElem_cons_succ, List.getElem_cons_zero, List.setIfInBounds_toArray, List.set_cons_zero, List.set_cons_succ]
    refine wpAnyH_ready (rs := [10]) (by kernel_rfl) (by simp) ?_
    refine AllReadyH.cons rfl (fun K hK => ?_) AllReadyH.nil
    go_simp
    refine hK.out _ _ (by simp [q1, q2, World.cell?_alloc_some]) (fun hHeld => ?_)
    clear hK K
    try simp only [Act.put, List.getElem_toArray, List.getElem_cons_succ, List.getElem_cons_zero, List.setIfInBounds_toArray, List.set_cons_zero, List.set_cons_succ]
    refine wpAnyH_take (i := 11) (v := ?_) rfl (by kernel_rfl) (by kernel_rfl) (by kernel_rfl) (fun _ _ _ h => h) (Or.inl ⟨by rfl, ?_⟩) (by assumption) ?_
    rotate_left
    · intro w hSw
      (try dsimp only at hSw)
      go_simp
      try with_reducible rfl
    simp only [Act.put, List.getElem_toArray, List.getElem_cons_succ, List.getElem_cons_zero, List.setIfInBounds_toArray, List.set_cons_zero, List.set_cons_succ]
    refine wpAnyH_take (i := 12) (v := ?_) rfl (by kernel_rfl) (by kernel_rfl) (by kernel_rfl) (fun _ _ _ h => h) (Or.inl ⟨by rfl, ?_⟩) (by assumption) ?_
    rotate_left
    · intro w hSw
      (try dsimp only at hSw)
      go_simp
      try with_reducible rfl
    simp only [Act.put, List.getElem_toArray, List.getElem_cons_succ, List.getElem_cons_zero, List.setIfInBounds_toArray, List.set_cons_zero, List.set_cons_succ]
    refine wpAnyH_done (by kernel_rfl) ?_ _
    go_wp2
    obtain ⟨F, f1, f2, f3⟩ := new_fin (u4.alloc (.cells (Array.replicate N (Value.int .u8 0)) 5)) w z ⟨h0, h1, h2, h3, h4, h5, h6, (N : Int), h8, h9⟩ M N i ci u4.heap.size HOK.out (K4.out.alloc _) OI.out (made_own u4 N HRL.out) (by omega) (by omega) hs4
    simp only [World.size_alloc] at f1
    exact bodyPost_ret (by simp [results, Tryz.results5, go_sem]) rfl ⟨_, F, rfl, .inr ⟨(by first | rfl | trivial), _, rfl⟩, f1, f2, f3⟩
  · go_simp
    have q1 := blk_cell (blk_drew (blk_past HH.out (.cells (Array.replicate N (Value.int .u8 0)) 5)))
    have q2 := blk_cell (blk_drew (blk_past HM.out (.cells (Array.replicate N (Value.int .u8 0)) 5)))
    have RO : OwnB (W3.drew.alloc (.cells (Array.replicate N (Value.int .u8 0)) 5)) 0 W3.heap.size N (List.replicate N 0) := made_own W3.drew N HRL.out
    have K4 : Kept w (W3.drew.alloc (.cells (Array.replicate N (Value.int .u8 0)) 5)) := K3.out.drew.alloc _
    have K4 := hid K4
    have RO := hid RO
    refine hK.out _ _ (by simp [qh, qm, World.cell?_alloc_some]) (fun hHeld => ?_)
    clear hK K
    try simp only [Act.put, List.getElem_toArray, List.getElem_cons_succ, List.getElem_cons_zero, List.setIfInBounds_toArray, List.set_cons_zero, List.set_cons_succ]
    refine wpAnyH_ready (rs := [5]) (by kernel_rfl) (by simp) ?_
    refine AllReadyH.cons rfl (fun K hK => ?_) AllReadyH.nil
    go_simp
    refine (kcopy_any z bx cb _ (sl_kept K4.out SB.out) (by omega)).mono ?_
    rintro e u5 ⟨v5, rfl, o5, k5⟩
    obtain ⟨i, ci, rfl, hi⟩ := own_slice o5 z1
    have hi2 : W3.heap.size + 1 ≤ i := by have q := hi; simp at q; exact q
    have q3 := blk_cell (blk_kept k5 (show Blk (W3.drew.alloc (.cells (Array.replicate N (Value.int .u8 0)) 5)) _ _ _ from blk_past (blk_drew HH.out) _))
    have q4 := blk_cell (blk_kept k5 (show Blk (W3.drew.alloc (.cells (Array.replicate N (Value.int .u8 0)) 5)) _ _ _ from blk_past (blk_drew HM.out) _))
    have K5 := hid (K4.out.trans k5)
    have OI : OwnB u5 0 i ci z := ownB_base (show OwnB u5 _ i ci z from o5) (Nat.zero_le _)
    have RO5 := hid (ownB_blk RO.out (k5.block _ (ownB_lt RO.out).2))
    have OI := hid OI
    clear o5 k5 qh qm q1 q2
    refine hK.out _ _ (by simp [q3, q4]) (fun hHeld => ?_)
    clear hK K
    try simp only [Act.put, List.getElem_toArray, List.getElem_cons_succ, List.getElem_cons_zero, List.setIfInBounds_toArray, List.set_cons_zero, List.set_cons_succ]
    refine wpAnyH_take (i := 9) (v := ?_) rfl (by kernel_rfl) (by kernel_rfl) (by kernel_rfl) (fun _ _ _ h => h) (Or.inl ⟨by rfl, ?_⟩) (by assumption) ?_
    rotate_left
    · intro w hSw
      (try dsimp only at hSw)
      go_simp
      try with_reducible rfl
    simp only [Act.put, List.getElem_toArray, List.getElem_cons_succ, List.getElem_cons_zero, List.setIfInBounds_toArray, List.set_cons_zero, List.set_cons_succ]
    refine wpAnyH_ready (rs := [10]) (by kernel_rfl) (by simp) ?_
    refine AllReadyH.cons rfl (fun K hK => ?_) AllReadyH.nil
    go_simp
    refine hK.out _ _ (by simp [q3, q4, World.cell?_alloc_some]) (fun hHeld => ?_)
    clear hK K
    try simp only [Act.put, List.getElem_toArray, List.getElem_cons_succ, List.getElem_cons_zero, List.setIfInBounds_toArray, List.set_cons_zero, List.set_cons_succ]
    refine wpAnyH_take (i := 11) (v := ?_) rfl (by kernel_rfl) (by kernel_rfl) (by kernel_rfl) (fun _ _ _ h => h) (Or.inl ⟨by rfl, ?_⟩) (by assumption) ?_
    rotate_left
    · intro w hSw
      (try dsimp only at hSw)
      go_simp
      try with_reducible rfl
    simp only [Act.put, List.getElem_toArray, List.getElem_cons_succ, List.getElem_cons_zero, List.setIfInBounds_toArray, List.set_cons_zero, List.set_cons_succ]
    refine wpAnyH_take (i := 12) (v := ?_) rfl (by kernel_rfl) (by kernel_rfl) (by kernel_rfl) (fun _ _ _ h => h) (Or.inl ⟨by rfl, ?_⟩) (by assumption) ?_
    rotate_left
    · intro w hSw
      (try dsimp only at hSw)
      go_simp
      try with_reducible rfl
    simp only [Act.put, List.getElem_toArray, List.getElem_cons_succ, List.getElem_cons_zero, List.setIfInBounds_toArray, List.set_cons_zero, List.set_cons_succ]
    refine wpAnyH_done (by kernel_rfl) ?_ _
    go_wp2
    obtain ⟨F, f1, f2, f3⟩ := new_fin u5 w z ⟨h0, h1, h2, h3, h4, h5, h6, (N : Int), h8, h9⟩ M N i ci W3.heap.size HOK.out K5.out OI.out RO5.out (by omega) (by omega) KZ
    simp only [World.size_alloc] at f1
    exact bodyPost_ret (by simp [results, Tryz.results5, go_sem]) rfl ⟨_, F, rfl, .inr ⟨(by first | rfl | trivial), _, rfl⟩, f1, f2, f3⟩

theorem knew_any (z : List Int) (bx : Option Addr) (cb : Nat) (w : World) (lay : Lay7 w) (sb : Sl w bx cb z) : Calls Tryz.prog 5 #[.slice bx z.length cb] w fun e w' => ∃ v F, e = .returned (.tuple #[v, .int .i64 (parseE z)]) ∧ ((parseE z ≠ 0 ∧ v = .pointer none) ∨ (parseE z = 0 ∧ ∃ p, v = .pointer (some ⟨p, 0, none⟩))) ∧ CartAt w' (newC z) v F ∧ (∀ k, F k → w.heap.size ≤ k) ∧ Kept w w' := by
  by_cases h : parseE z = 0
  · exact knew_ok z bx cb w lay sb h
  · exact knew_bad z bx cb w lay sb h
end Go.Proofs.YtfmddnekooojkaaGreatDoor
namespace Go.Proofs.YtfmddnekooojkaaGreatDoor
open Go.RowKit
set_option linter.unusedVariables false
set_option linter.unusedSimpArgs false

theorem byL_shown : byL ⟨#[83, 72, 79, 87, 78]⟩ = [83, 72, 79, 87, 78] := by decide +kernel
theorem row123 (w : World) : Row (w.alloc (.cells #[.int .u8 1, .int .u8 2, .int .u8 3] 5)) (some ⟨w.heap.size, 0, none⟩) [1, 2, 3] := by
  have m : maxLen = 9223372036854775807 := rfl
  refine ⟨by simp [m], (fun z hz => by simp at hz; rcases hz with rfl | rfl | rfl <;> exact ⟨by decide, by decide⟩), .inr ⟨_, rfl, by simp, fun i hi => ?_⟩⟩
  rw [ownB_add]
  have b := blk_cell (blk_new w [.int .u8 1, .int .u8 2, .int .u8 3] 5) i
  rw [b]
  have : i = 0 ∨ i = 1 ∨ i = 2 := by simp at hi; omega
  rcases this with rfl | rfl | rfl <;> rfl
set_option maxRecDepth 100000 in
set_option maxHeartbeats 4000000 in
theorem kmade_any (k : Int) (w : World) (lay : Lay7 w) (k0 : 0 ≤ k) (k1 : k ≤ 255) (hb : ∀ x ∈ shI k, InByte x) : Calls Tryz.prog 18 #[.int .u8 k, .int .u8 2] w fun e w' => ∃ a cap, e = .returned (.slice a (shI k).length cap) ∧ Sl w' a cap (shI k) ∧ Kept w w' := by
  have L := hid (lay.kept ((Kept.refl w).alloc (.cells #[.int .u8 1, .int .u8 2, .int .u8 3] 5)))
  have C := hid (hmake_any ⟨#[83, 72, 79, 87, 78]⟩ k 0 2 [1, 2, 3] (some ⟨w.heap.size, 0, none⟩) 3 _ L.out (row123 w) (by decide) k0 k1 (by decide) (by decide) (by decide) (by decide) (by have m : maxLen = 9223372036854775807 := rfl; rw [m]; decide))
  rw [byL_shown] at C
  rw [show makeB [83, 72, 79, 87, 78] k 0 2 [1, 2, 3] = shI k from rfl] at C
  have HB := hid hb
  generalize makeE [83, 72, 79, 87, 78] k 0 2 [1, 2, 3] = E at *
  generalize shI k = I at *
  clear hb lay
  go_enter Tryz.func18, Tryz.ntmps18
  go_wp2_with fail
  refine C.out.mono ?_
  rintro e u1 ⟨v, rfl, o, k1⟩
  obtain ⟨a, cap, rfl, sl, _⟩ := own_sl o HB.out
  have Z := hid (And.intro sl (((Kept.refl w).alloc _).trans k1))
  clear o k1 sl
  go_wp2
  go_ret
  exact ⟨_, _, rfl, Z.out.1, Z.out.2⟩
set_option maxRecDepth 100000 in
set_option maxHeartbeats 4000000 in
theorem kshown_any (w : World) (lay : Lay7 w) : Calls Tryz.prog 4 #[] w fun e w' => e = .returned (.bool true) ∧ Kept w w' := by
  have LY := hid (fun u (k : Kept w u) => lay.kept k)
  clear lay
  go_enter Tryz.func4, Tryz.ntmps4
  go_wp2_with fail
  refine (kmade_any 2 _ (LY.out _ (Kept.refl w)) (by decide) (by decide) sh_in2).mono ?_
  rintro e u1 ⟨a1, cap1, rfl, s1, k1⟩
  have K1 := hid k1
  have S1 := hid s1
  clear k1 s1
  go_wp2_with fail
  refine (knew_any (shI 2) a1 cap1 _ (LY.out _ K1.out) S1.out).mono ?_
  rintro e u2 ⟨v2, F2, rfl, h2, c2, l2, k2⟩
  rw [sh_parse2] at h2
  rw [sh_parse2]
  obtain ⟨p2, rfl⟩ : ∃ p, v2 = .pointer (some ⟨p, 0, none⟩) := by
    rcases h2 with ⟨q, _⟩ | ⟨_, q⟩
    · exact absurd rfl q
    · exact q
  have C2 := hid c2
  have L2 : ∀ k, F2 k → w.heap.size ≤ k := fun k q => Nat.le_trans K1.out.size (l2 k q)
  have L2 := hid L2
  have K2 := hid (K1.out.trans k2)
  clear h2 c2 l2 k2 S1 K1
  go_wp2_with fail
  refine (kmade_any 16 _ (LY.out _ K2.out) (by decide) (by decide) sh_in16).mono ?_
  rintro e u3 ⟨a3, cap3, rfl, s3, k3⟩
  have K3 := hid (K2.out.trans k3)
  have C3 := hid (cart_kept C2.out k3)
  have S3 := hid s3
  clear k3 s3 K2 C2
  go_wp2_with fail
  refine (knew_any (shI 16) a3 cap3 _ (LY.out _ K3.out) S3.out).mono ?_
  rintro e u4 ⟨v4, F4, rfl, h4, c4, l4, k4⟩
  rw [sh_parse16] at h4
  rw [sh_parse16]
  obtain ⟨p4, rfl⟩ : ∃ p, v4 = .pointer (some ⟨p, 0, none⟩) := by
    rcases h4 with ⟨q, _⟩ | ⟨_, q⟩
    · exact absurd rfl q
    · exact q
  have T4 := hid (two_new K3.out C3.out L2.out k4 c4 l4)
  clear h4 c4 l4 k4 S3 K3 C3 L2
  go_wp2_with fail
  refine (kwrite_any (newC (shI 2)) _ _ 40960 5 _ T4.out.c (by decide) (by decide) (by decide) (by decide)).mono ?_
  rintro e u5 ⟨rfl, F5, c5, k5, l5⟩
  have T5 := hid (T4.out.doC c5 k5 l5)
  clear c5 k5 l5
  go_wp2_with fail
  refine (kread_any shC1 _ _ 40960 _ T5.out.c (by decide) (by decide)).mono ?_
  rintro e u6 ⟨rfl, k6⟩
  rw [sh_was]
  have T6 := hid (T5.out.go k6)
  clear k6
  go_wp2_with fail
  refine (kwrite_any shC1 _ _ 0 10 _ T6.out.c (by decide) (by decide) (by decide) (by decide)).mono ?_
  rintro e u7 ⟨rfl, F7, c7, k7, l7⟩
  have T7 := hid (T6.out.doC c7 k7 l7)
  clear c7 k7 l7
  go_wp2_with fail
  refine (kwrite_any shC2 _ _ 40960 5 _ T7.out.c (by decide) (by decide) (by decide) (by decide)).mono ?_
  rintro e u8 ⟨rfl, F8, c8, k8, l8⟩
  have T8 := hid (T7.out.doC c8 k8 l8)
  clear c8 k8 l8
  go_wp2_with fail
  refine (kwrite_any (newC (shI 16)) _ _ 0 10 _ T8.out.d (by decide) (by decide) (by decide) (by decide)).mono ?_
  rintro e u9 ⟨rfl, F9, c9, k9, l9⟩
  have T9 := hid (T8.out.doD c9 k9 l9)
  clear c9 k9 l9
  go_wp2_with fail
  refine (kwrite_any shD1 _ _ 16384 8 _ T9.out.d (by decide) (by decide) (by decide) (by decide)).mono ?_
  rintro e u10 ⟨rfl, F10, c10, k10, l10⟩
  have T10 := hid (T9.out.doD c10 k10 l10)
  clear c10 k10 l10
  go_wp2_with fail
  refine (ktick_any shD2 _ _ _ T10.out.d).mono ?_
  rintro e u11 ⟨rfl, F11, c11, k11, l11⟩
  have T11 := hid (T10.out.doD c11 k11 l11)
  clear c11 k11 l11
  go_wp2_with fail
  refine (kread_any shD3 _ _ 40960 _ T11.out.d (by decide) (by decide)).mono ?_
  rintro e u12 ⟨rfl, k12⟩
  rw [sh_old]
  have T12 := hid (T11.out.go k12)
  clear k12
  go_wp2_with fail
  refine (kwrite_any shD3 _ _ 24576 0 _ T12.out.d (by decide) (by decide) (by decide) (by decide)).mono ?_
  rintro e u13 ⟨rfl, F13, c13, k13, l13⟩
  have T13 := hid (T12.out.doD c13 k13 l13)
  clear c13 k13 l13
  go_wp2_with fail
  refine (kwrite_any shD4 _ _ 24576 1 _ T13.out.d (by decide) (by decide) (by decide) (by decide)).mono ?_
  rintro e u14 ⟨rfl, F14, c14, k14, l14⟩
  have T14 := hid (T13.out.doD c14 k14 l14)
  clear c14 k14 l14
  go_wp2_with fail
  refine (kread_any shC3 _ _ 40960 _ T14.out.c (by decide) (by decide)).mono ?_
  rintro e u15 ⟨rfl, k15⟩
  rw [sh_five]
  have T15 := hid (T14.out.go k15)
  clear k15
  go_wp2_with fail
  refine (kread_any shC3 _ _ 336 _ T15.out.c (by decide) (by decide)).mono ?_
  rintro e u16 ⟨rfl, k16⟩
  rw [sh_one]
  have T16 := hid (T15.out.go k16)
  clear k16
  go_wp2_with fail
  refine (kread_any shD5 _ _ 40960 _ T16.out.d (by decide) (by decide)).mono ?_
  rintro e u17 ⟨rfl, k17⟩
  rw [sh_new]
  have T17 := hid (T16.out.go k17)
  clear k17
  go_wp2
  go_ret
  exact ⟨rfl, T17.out.kept⟩
end Go.Proofs.YtfmddnekooojkaaGreatDoor
