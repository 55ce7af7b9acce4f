/- What the calls of layer 4 come to, over this seat's translation: row, withRow, checkRegister, Get. -/
import Derived.Test.YticamagmccapoaaDoorRows
import Derived.Test.YticamagmccapoaaDoorBits
import Derived.Test.YticamagmccapoaaDoorGrow
import Derived.Test.YticamagmccapoaaDoorGrow2
import Derived.Test.YticamagmccapoaaDoorRg
import Derived.Deep.QuietTactic
import Derived.BigQuiet
import Derived.Deep.RegionHeld3
import Derived.Deep.DeepCutAuto
namespace Go.Proofs.YticamagmccapoaaDoor
open Go.RowKit
set_option linter.unusedVariables false
set_option linter.unusedSimpArgs false

theorem row_any (r : Rg) (w : World) :
    Calls Tryd.prog 24 #[.agg #[.int .u8 r.a, .int .u8 r.f, .int .u8 r.b, .int .u8 r.c, .int .u8 r.d, .int .u8 r.e, .int .u8 r.h, .int .u8 r.l, .int .u16 r.s, .int .u16 r.p]] w fun e w' => e = .returned (.agg #[.int .u8 r.b, .int .u8 r.c, .int .u8 r.d, .int .u8 r.e, .int .u8 r.h, .int .u8 r.l, .int .u8 r.f, .int .u8 r.a]) ∧ Grown w w' := by
  go_enter Tryd.func24, Tryd.ntmps24
  go_wp2
  exact bodyPost_ret (v := .agg #[.int .u8 r.b, .int .u8 r.c, .int .u8 r.d, .int .u8 r.e, .int .u8 r.h, .int .u8 r.l, .int .u8 r.f, .int .u8 r.a]) (by simp [results, Tryd.results24, go_sem]) rfl ⟨rfl, (alloc1 _ _ _).alloc _ _⟩
theorem check_any (n : Int) (w : World) :
    Calls Tryd.prog 23 #[.int .i64 n] w fun e w' => e = .returned (.int .i64 (mayOf n)) ∧ w' = w := by
  by_cases h6 : n = 6
  · subst h6
    go_enter Tryd.func23, Tryd.ntmps23
    go_wp2
    go_ret
    exact ⟨rfl, rfl⟩
  · by_cases h0 : n < 0
    · rw [show mayOf n = 1 by simp [mayOf, h6, h0]]
      go_enter Tryd.func23, Tryd.ntmps23
      go_wp2
      go_ret
      exact ⟨rfl, rfl⟩
    · by_cases h8 : 8 ≤ n
      · have e : 7 < n := by omega
        rw [show mayOf n = 1 by simp [mayOf, h6, e]]
        go_enter Tryd.func23, Tryd.ntmps23
        go_wp2
        go_ret
        exact ⟨rfl, rfl⟩
      · rw [show mayOf n = 0 by unfold mayOf; rw [if_neg h6, if_neg (by omega)]]
        go_enter Tryd.func23, Tryd.ntmps23
        go_wp2
        go_ret
        exact ⟨rfl, rfl⟩
theorem withRow_any (r : Rg) (x0 x1 x2 x3 x4 x5 x6 x7 : Int) (w : World) :
    Calls Tryd.prog 25 #[.agg #[.int .u8 r.a, .int .u8 r.f, .int .u8 r.b, .int .u8 r.c, .int .u8 r.d, .int .u8 r.e, .int .u8 r.h, .int .u8 r.l, .int .u16 r.s, .int .u16 r.p], .agg #[.int .u8 x0, .int .u8 x1, .int .u8 x2, .int .u8 x3, .int .u8 x4, .int .u8 x5, .int .u8 x6, .int .u8 x7]] w fun e w' => e = .returned (.agg #[.int .u8 x7, .int .u8 x6, .int .u8 x0, .int .u8 x1, .int .u8 x2, .int .u8 x3, .int .u8 x4, .int .u8 x5, .int .u16 r.s, .int .u16 r.p]) ∧ Grown w w' := by
  go_enter Tryd.func25, Tryd.ntmps25
  go_wp2
  go_region
  go_wp2
  go_region
  go_wp2
  go_region
  go_wp2
  go_region
  go_wp2
  exact bodyPost_ret (v := .agg #[.int .u8 x7, .int .u8 x6, .int .u8 x0, .int .u8 x1, .int .u8 x2, .int .u8 x3, .int .u8 x4, .int .u8 x5, .int .u16 r.s, .int .u16 r.p]) (by simp [results, Tryd.results25, go_sem]) rfl ⟨rfl, (((alloc1 _ _ _).alloc _ _).alloc _ _).drew.drew.drew.drew⟩
theorem get_any (r : Rg) (n : Int) (w : World) :
    Calls Tryd.prog 9 #[.agg #[.int .u8 r.a, .int .u8 r.f, .int .u8 r.b, .int .u8 r.c, .int .u8 r.d, .int .u8 r.e, .int .u8 r.h, .int .u8 r.l, .int .u16 r.s, .int .u16 r.p], .int .i64 n] w fun e w' => e = .returned (.tuple #[.int .u8 (getOf n r), .int .i64 (mayOf n)]) ∧ Grown w w' := by
  by_cases h0 : n = 0
  · subst h0
    have ix : ∀ u, (Instr.index 55 (.agg #[.int .u8 r.b, .int .u8 r.c, .int .u8 r.d, .int .u8 r.e, .int .u8 r.h, .int .u8 r.l, .int .u8 r.f, .int .u8 r.a]) (.int .i64 0)).run Tryd.prog u = .ok (.int .u8 r.b) u := fun _ => by kernel_rfl
    rw [show getOf 0 r = r.b from rfl]
    go_enter Tryd.func9, Tryd.ntmps9
    go_wp2_with fail
    refine (check_any _ _).mono ?_
    rintro e v0 ⟨rfl, rfl⟩
    rw [show mayOf 0 = 0 from rfl]
    go_wp2_with fail
    refine (row_any r _).mono ?_
    rintro e u1 ⟨rfl, g1⟩
    have G1 := hid (grown_trans (alloc1 _ _ _) g1)
    go_wp2
    go_ret2
    exact ⟨rfl, G1.out⟩
  · skip
    by_cases h1 : n = 1
    · subst h1
      have ix : ∀ u, (Instr.index 55 (.agg #[.int .u8 r.b, .int .u8 r.c, .int .u8 r.d, .int .u8 r.e, .int .u8 r.h, .int .u8 r.l, .int .u8 r.f, .int .u8 r.a]) (.int .i64 1)).run Tryd.prog u = .ok (.int .u8 r.c) u := fun _ => by kernel_rfl
      rw [show getOf 1 r = r.c from rfl]
      go_enter Tryd.func9, Tryd.ntmps9
      go_wp2_with fail
      refine (check_any _ _).mono ?_
      rintro e v0 ⟨rfl, rfl⟩
      rw [show mayOf 1 = 0 from rfl]
      go_wp2_with fail
      refine (row_any r _).mono ?_
      rintro e u1 ⟨rfl, g1⟩
      have G1 := hid (grown_trans (alloc1 _ _ _) g1)
      go_wp2
      go_ret2
      exact ⟨rfl, G1.out⟩
    · skip
      by_cases h2 : n = 2
      · subst h2
        have ix : ∀ u, (Instr.index 55 (.agg #[.int .u8 r.b, .int .u8 r.c, .int .u8 r.d, .int .u8 r.e, .int .u8 r.h, .int .u8 r.l, .int .u8 r.f, .int .u8 r.a]) (.int .i64 2)).run Tryd.prog u = .ok (.int .u8 r.d) u := fun _ => by kernel_rfl
        rw [show getOf 2 r = r.d from rfl]
        go_enter Tryd.func9, Tryd.ntmps9
        go_wp2_with fail
        refine (check_any _ _).mono ?_
        rintro e v0 ⟨rfl, rfl⟩
        rw [show mayOf 2 = 0 from rfl]
        go_wp2_with fail
        refine (row_any r _).mono ?_
        rintro e u1 ⟨rfl, g1⟩
        have G1 := hid (grown_trans (alloc1 _ _ _) g1)
        go_wp2
        go_ret2
        exact ⟨rfl, G1.out⟩
      · skip
        by_cases h3 : n = 3
        · subst h3
          have ix : ∀ u, (Instr.index 55 (.agg #[.int .u8 r.b, .int .u8 r.c, .int .u8 r.d, .int .u8 r.e, .int .u8 r.h, .int .u8 r.l, .int .u8 r.f, .int .u8 r.a]) (.int .i64 3)).run Tryd.prog u = .ok (.int .u8 r.e) u := fun _ => by kernel_rfl
          rw [show getOf 3 r = r.e from rfl]
          go_enter Tryd.func9, Tryd.ntmps9
          go_wp2_with fail
          refine (check_any _ _).mono ?_
          rintro e v0 ⟨rfl, rfl⟩
          rw [show mayOf 3 = 0 from rfl]
          go_wp2_with fail
          refine (row_any r _).mono ?_
          rintro e u1 ⟨rfl, g1⟩
          have G1 := hid (grown_trans (alloc1 _ _ _) g1)
          go_wp2
          go_ret2
          exact ⟨rfl, G1.out⟩
        · skip
          by_cases h4 : n = 4
          · subst h4
            have ix : ∀ u, (Instr.index 55 (.agg #[.int .u8 r.b, .int .u8 r.c, .int .u8 r.d, .int .u8 r.e, .int .u8 r.h, .int .u8 r.l, .int .u8 r.f, .int .u8 r.a]) (.int .i64 4)).run Tryd.prog u = .ok (.int .u8 r.h) u := fun _ => by kernel_rfl
            rw [show getOf 4 r = r.h from rfl]
            go_enter Tryd.func9, Tryd.ntmps9
            go_wp2_with fail
            refine (check_any _ _).mono ?_
            rintro e v0 ⟨rfl, rfl⟩
            rw [show mayOf 4 = 0 from rfl]
            go_wp2_with fail
            refine (row_any r _).mono ?_
            rintro e u1 ⟨rfl, g1⟩
            have G1 := hid (grown_trans (alloc1 _ _ _) g1)
            go_wp2
            go_ret2
            exact ⟨rfl, G1.out⟩
          · skip
            by_cases h5 : n = 5
            · subst h5
              have ix : ∀ u, (Instr.index 55 (.agg #[.int .u8 r.b, .int .u8 r.c, .int .u8 r.d, .int .u8 r.e, .int .u8 r.h, .int .u8 r.l, .int .u8 r.f, .int .u8 r.a]) (.int .i64 5)).run Tryd.prog u = .ok (.int .u8 r.l) u := fun _ => by kernel_rfl
              rw [show getOf 5 r = r.l from rfl]
              go_enter Tryd.func9, Tryd.ntmps9
              go_wp2_with fail
              refine (check_any _ _).mono ?_
              rintro e v0 ⟨rfl, rfl⟩
              rw [show mayOf 5 = 0 from rfl]
              go_wp2_with fail
              refine (row_any r _).mono ?_
              rintro e u1 ⟨rfl, g1⟩
              have G1 := hid (grown_trans (alloc1 _ _ _) g1)
              go_wp2
              go_ret2
              exact ⟨rfl, G1.out⟩
            · skip
              by_cases h6 : n = 6
              · subst h6
                rw [show getOf 6 r = 0 from rfl]
                go_enter Tryd.func9, Tryd.ntmps9
                go_wp2_with fail
                refine (check_any _ _).mono ?_
                rintro e v0 ⟨rfl, rfl⟩
                rw [show mayOf 6 = 7 from rfl]
                go_wp2
                go_ret2
                exact ⟨rfl, alloc1 _ _ _⟩
              · skip
                by_cases h7 : n = 7
                · subst h7
                  have ix : ∀ u, (Instr.index 55 (.agg #[.int .u8 r.b, .int .u8 r.c, .int .u8 r.d, .int .u8 r.e, .int .u8 r.h, .int .u8 r.l, .int .u8 r.f, .int .u8 r.a]) (.int .i64 7)).run Tryd.prog u = .ok (.int .u8 r.a) u := fun _ => by kernel_rfl
                  rw [show getOf 7 r = r.a from rfl]
                  go_enter Tryd.func9, Tryd.ntmps9
                  go_wp2_with fail
                  refine (check_any _ _).mono ?_
                  rintro e v0 ⟨rfl, rfl⟩
                  rw [show mayOf 7 = 0 from rfl]
                  go_wp2_with fail
                  refine (row_any r _).mono ?_
                  rintro e u1 ⟨rfl, g1⟩
                  have G1 := hid (grown_trans (alloc1 _ _ _) g1)
                  go_wp2
                  go_ret2
                  exact ⟨rfl, G1.out⟩
                · skip
                  have e1 : mayOf n = 1 := by unfold mayOf; rw [if_neg (by omega), if_pos (by omega)]
                  have e2 : getOf n r = 0 := by unfold getOf; simp [*]
                  rw [e2, e1]
                  go_enter Tryd.func9, Tryd.ntmps9
                  go_wp2_with fail
                  refine (check_any _ _).mono ?_
                  rintro e v0 ⟨rfl, rfl⟩
                  rw [e1]
                  go_wp2
                  go_ret2
                  exact ⟨rfl, alloc1 _ _ _⟩
end Go.Proofs.YticamagmccapoaaDoor
