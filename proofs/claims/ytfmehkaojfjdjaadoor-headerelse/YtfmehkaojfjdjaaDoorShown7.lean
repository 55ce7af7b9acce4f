/- The example at the head of layer 7's laws holds. -/
import Derived.Test.YtfmehkaojfjdjaaDoorPg7k
import Derived.Test.YtfmehkaojfjdjaaDoorSh7
namespace Go.Proofs.YtfmehkaojfjdjaaDoor
open Go.RowKit
set_option linter.unusedVariables false
set_option linter.unusedSimpArgs false

theorem row_one (w : World) (c : Int) (hc : InByte c) (t : TypeId) : Row (w.alloc (.cells #[.int .u8 c] t)) (some ⟨w.heap.size, 0, none⟩) [c] :=
  ⟨by show 1 ≤ maxLen; unfold maxLen; decide, fun z hz => by obtain rfl := List.mem_singleton.1 hz; exact hc, .inr ⟨_, rfl, by simp, fun i hi => by
    have : i = 0 := by simp at hi; omega
    subst this
    exact (has_alloc w #[.int .u8 c] t).2 0⟩⟩
theorem own_cases {w : World} {base : Nat} {v : Value} {L : List Int} (o : w.ownsRow base 5 1 v L.length (L.map (Value.int .u8))) (h : 1 ≤ L.length) : ∃ g cp, v = .slice (some ⟨g, 0, none⟩) L.length cp ∧ OwnB w base g cp L ∧ L.length ≤ cp ∧ cp ≤ maxLen := by
  rcases id o.2 with ⟨_, q⟩ | ⟨g, cap, cur, e1, _, _, h2, h3, _⟩
  · omega
  · subst e1
    exact ⟨g, cap, rfl, o, h2, h3⟩
theorem conv_nil (w : World) : (convert 22 9 (.slice none 0 0)).run Tryd.prog w = .ok (.string (strB [])) w := by kernel_rfl
theorem conv_own {w : World} {base : Nat} {v : Value} {L : List Int} (o : w.ownsRow base 5 1 v L.length (L.map (Value.int .u8))) : (convert 22 9 v).run Tryd.prog w = .ok (.string (strB L)) w := by
  rcases id o.2 with ⟨rfl, q⟩ | ⟨g, cap, cur, rfl, _⟩
  · obtain rfl := List.eq_nil_of_length_eq_zero q
    exact conv_nil w
  · exact conv_cells w _ cap L (o.cells rfl)
set_option maxRecDepth 100000 in
set_option maxHeartbeats 4000000 in
theorem shown7 (w : World) (lay : Lay7 w) : Calls Tryd.prog 9 #[] w fun e w' => e = .returned (.bool true) ∧ Kept w w' := by
  have LY := hid lay
  have CK := hid (fun u (g : Kept w u) (R : Row u (some ⟨w.heap.size, 0, none⟩) [118]) => hmake_any shT 0 0 0 [118] (some ⟨w.heap.size, 0, none⟩) 1 u (LY.out.kept g) R (by decide) (by decide) (by decide) (by decide) (by decide) (by decide) (by decide) (by unfold maxLen; decide))
  rw [sh_e, sh_b] at CK
  have PA := hid (fun (a : Option Addr) (cap : Nat) (u : World) (g : Kept w u) (R : Row u a shM) (h1 : shM.length ≤ cap) (h2 : cap ≤ maxLen) => hparse_any shM a cap u (LY.out.kept g) R h1 h2)
  rw [sh_len, sh_pe] at PA
  have PB := hid (fun (a : Option Addr) (cap : Nat) (u : World) (g : Kept w u) (R : Row u a (shM.take 335)) (h1 : (shM.take 335).length ≤ cap) (h2 : cap ≤ maxLen) => hparse_any (shM.take 335) a cap u (LY.out.kept g) R h1 h2)
  rw [sh_tl, sh_short] at PB
  obtain ⟨b1, b2⟩ := sh_bk
  have b3 := sh_ti
  have IN := hid sh_in
  have LEN := hid sh_len
  have G333 := hid sh_333
  rw [b1, b2, b3] at PA
  generalize parseH shM = H at *
  generalize parseH (shM.take 335) = H2 at *
  clear b1 b2 b3
  go_enter Tryd.func9, Tryd.ntmps9
  go_wp2_with fail
  refine (CK.out _ ((Kept.refl w).alloc _) (row_one w 118 ⟨by decide, by decide⟩ _)).mono ?_
  rintro e u1 ⟨v, rfl, ho, hk⟩
  obtain ⟨g, cp, rfl, O, c1, c2⟩ := own_cases ho (by rw [LEN.out]; decide)
  have OW := hid O
  have R1 := hid (ownB_row O IN.out (by rw [LEN.out]; unfold maxLen; decide))
  have c333 := ownB_cell O 333 (by rw [LEN.out]; decide)
  rw [G333.out] at c333
  have zg := (ownB_lt O).2
  have K1 := hid (((Kept.refl w).alloc _).trans hk)
  have a333 := ownB_add g 333
  rw [LEN.out] at c1 ⊢
  clear ho hk O
  go_wp2_with fail
  refine (PA.out _ cp _ K1.out R1.out c1 c2).mono ?_
  rintro e u2 ⟨rfl, k2⟩
  have K2 := hid k2
  have z2 := k2.size
  have zg2 : g < u2.heap.size := by omega
  clear k2
  go_wp2_with fail
  refine (PB.out _ cp _ (K1.out.trans (K2.out.alloc _)) (row_take 335 (row_kept (K2.out.alloc _) R1.out)) (by omega) c2).mono ?_
  rintro e u3 ⟨rfl, k3⟩
  have K3 := hid (K1.out.trans ((K2.out.alloc _).trans k3))
  have d333 : u3.cell? ⟨g, 333, none⟩ = some (.int .u8 166) := (((K2.out.alloc _).trans k3).cell (x := ⟨g, 333, none⟩) zg).trans c333
  have HB := fun i => (k3.cell (x := ⟨u2.heap.size, i, none⟩) (by simp)).trans ((has_alloc u2 #[.string ⟨#[65]⟩, .int .u8 H.kind, .int .i64 0, .bool H.ram, .bool H.bat, .bool H.clk, .int .i64 2, .int .i64 H.size, .int .u8 H.sum, .int .u16 H.whole] 26).2 i)
  have e0 := HB 0
  have e2 := HB 2
  have e6 := HB 6
  simp at e0 e2 e6
  have z3 := k3.size
  simp at z3
  have zB : u2.heap.size < u3.heap.size := by omega
  have zg3 : g < u3.heap.size := by omega
  clear k3 HB c333
  go_wp2
  go_ret
  exact ⟨rfl, K3.out.alloc _⟩
end Go.Proofs.YtfmehkaojfjdjaaDoor
