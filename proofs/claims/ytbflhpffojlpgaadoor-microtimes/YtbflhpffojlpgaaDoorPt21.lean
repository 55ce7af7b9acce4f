/- The program's together, over this seat's translation: cycles put behind one another. -/
import Derived.Test.YtbflhpffojlpgaaDoorSm21
namespace Go.Proofs.YtbflhpffojlpgaaDoor
open Go.RowKit
set_option linter.unusedVariables false
set_option linter.unusedSimpArgs false

set_option maxRecDepth 100000 in
set_option maxHeartbeats 4000000 in
theorem ptog21 (x : Addr) (n cap : Nat) (ps : List Ms) (w : World) (hx : x.block < w.heap.size) (hB : ∀ j p, ps[j]? = some p → w.cell? (x.add j) = some (msV p)) (hs : ∀ p ∈ ps, SlMs w p) (hn : ps.length = n) (hn2 : n ≤ 1000) (hl : (allOf ps).length ≤ 1000) :
    Calls Tryd.prog 18 #[.slice (some x) n cap] w (MRet w (allOf ps)) := by
  have HB := hid hB
  have HS := hid hs
  have HN := hid hn
  clear hB hs hn
  go_enter Tryd.func18, Tryd.ntmps18
  go_wp2
  go_loopw [3, 8] (fun s3 s8 wr => ∃ (j m : Nat) (av : Option Addr) (cp : Nat), j ≤ n ∧ s3 = .slice av m cp ∧ s8 = .int .i64 (j : Int) ∧ Hid ((allOf (ps.take j)).length = m) ∧ OwnM wr w.heap.size (.slice av m cp) (allOf (ps.take j)) ∧ Kept w wr) (fun _ s8 _ => n - (intOf s8).toNat)
  case atStart => exact ⟨0, 0, none, 0, by omega, rfl, rfl, rfl, ownM_nil w _, Kept.refl w⟩
  case round =>
    obtain ⟨j, m, av, cp, hj, rfl, rfl, HL, ho, hk⟩ := hrel
    have KK := hid hk
    have OO := hid ho
    have SL := all_len ps j
    clear ho
    by_cases hlt : j < n
    · have g1 : decide ((j : Int) < (n : Int)) = true := decide_eq_true (by omega)
      have g2 : (j : Int) < (n : Int) := by omega
      obtain ⟨⟨pa, pc, pl⟩, hp⟩ : ∃ p, ps[j]? = some p := ⟨_, List.getElem?_eq_getElem (by rw [HN.out]; exact hlt)⟩
      have c0 := HB.out j _ hp
      have S0 := hid (slM_kept hk (HS.out _ (List.mem_of_getElem? hp)))
      have NX := hid (all_take ps j _ hp)
      have SN := all_len ps (j + 1)
      rw [NX.out, List.length_append] at SN
      have c1 : wr.cell? (x.add j) = some (.slice pa pl.length pc) := (hk.cell (by rw [addFB]; exact hx)).trans c0
      have x1 : x.block < wr.heap.size := Nat.lt_of_lt_of_le hx hk.size
      have LE : Hid ((allOf (ps.take j) ++ pl).length = (allOf (ps.take j)).length + pl.length) := by show _ = _; simp
      have hb2 : w.heap.size ≤ wr.heap.size := hk.size
      have lb : (allOf (ps.take j)).length + pl.length ≤ 1000000 := by simp only at SN; omega
      have LB := hid lb
      clear c0 hp hk SL SN lb hl
      go_wp2_with (at_builtin; (refine wl_appendM (L := allOf (ps.take j)) (M := pl) OO.out S0.out rfl rfl rfl rfl rfl hb2 LB.out (fun v' u3 o3 g3 => ?_); obtain ⟨a3, c3, e3, o4⟩ := ownM_form o3; subst e3; have K3 := hid (KK.out.by g3 (fun q hq => (OO.out.lt q hq).1)); have O3 := hid o4; clear g3 o3 o4))
      go_roundw
      case rel => exact ⟨j + 1, _, a3, c3, by omega, rfl, by go_num, (show _ = _ by rw [NX.out]; simp), by rw [NX.out, ← LE.out]; exact O3.out, K3.out⟩
      case measure => first | omega | (simp; omega) | (simp [intOf]; omega)
    · have g1 : decide ((j : Int) < (n : Int)) = false := decide_eq_false (by omega)
      have g2 : ¬ (j : Int) < (n : Int) := by omega
      have je : ps.take j = ps := List.take_of_length_le (by rw [HN.out]; omega)
      rw [je] at OO HL
      obtain ⟨a3, c3, e3, s3, _⟩ := own_slM OO.out
      rw [HL.out] at e3
      cases e3
      have S3 := hid s3
      clear s3 hk SL
      go_wp2
      go_ret
      exact ⟨av, cp, by rw [HL.out]; rfl, S3.out, KK.out⟩
end Go.Proofs.YtbflhpffojlpgaaDoor
