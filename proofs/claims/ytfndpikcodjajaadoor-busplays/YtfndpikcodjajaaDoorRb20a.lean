/- The document's Region, Line, Shut, Meets. -/
import Derived.Test.YtfndpikcodjajaaDoorBu20
import Derived.Handy
import Derived.BigQuiet
import Derived.Test.YtfndpikcodjajaaDoorChecked
namespace Go.Proofs.YtfndpikcodjajaaDoor
open Go.RowKit
set_option linter.unusedVariables false
set_option linter.unusedSimpArgs false

set_option maxRecDepth 100000 in
set_option maxHeartbeats 4000000 in
theorem rreg20 (a : Int) (w : World) (a0 : 0 ≤ a) (a1 : a ≤ 65535) : Calls Tryd.prog 11 #[.int .u16 a] w fun e w' => e = .returned (.tuple #[.int .i64 (regP a), .int .i64 (atP20 a)]) ∧ w' = w := by
  unfold regP atP20
  have e0 : IntKind.i64.wrap a = a := by rw [IntKind.wrap_i64]; omega
  rcases rw_cases a a0 a1 with ⟨h, q0, q1⟩ | ⟨h, q0, q1⟩ | ⟨h, q0, q1⟩ | ⟨h, q0, q1⟩ | ⟨h, q0, q1⟩ | ⟨h, q0, q1⟩ | ⟨h, q0, q1⟩ | ⟨h, q0, q1⟩ | ⟨h, q0, q1⟩ | ⟨h, q0, q1⟩
  · rw [h]
    have g0 : decide (a < 32768) = true := decide_eq_true (by omega)
    have E : Hid (Value.tuple #[.int .i64 (regK 0), .int .i64 (a - firK 0)] = .tuple #[.int .i64 0, .int .i64 (a)]) := by
      show _ = _
      rw [show regK 0 = 0 from rfl, show firK 0 = 0 from rfl]
      simp
    rw [E.out]
    clear E h q0 q1
    go_enter Tryd.func11, Tryd.ntmps11
    go_wp2
    exact bodyPost_ret (v := .tuple #[.int .i64 0, .int .i64 (a)]) (by simp [results, Tryd.results11, go_sem]) rfl ⟨rfl, rfl⟩
  · rw [h]
    have g0 : decide (a < 32768) = false := decide_eq_false (by omega)
    have g1 : decide (a < 40960) = true := decide_eq_true (by omega)
    have e1 : IntKind.i64.wrap (a - 32768) = a - 32768 := by rw [IntKind.wrap_i64]; omega
    have E : Hid (Value.tuple #[.int .i64 (regK 1), .int .i64 (a - firK 1)] = .tuple #[.int .i64 1, .int .i64 (a - 32768)]) := by
      show _ = _
      rw [show regK 1 = 1 from rfl, show firK 1 = 32768 from rfl]
    rw [E.out]
    clear E h q0 q1
    go_enter Tryd.func11, Tryd.ntmps11
    go_wp2
    exact bodyPost_ret (v := .tuple #[.int .i64 1, .int .i64 (a - 32768)]) (by simp [results, Tryd.results11, go_sem]) rfl ⟨rfl, rfl⟩
  · rw [h]
    have g0 : decide (a < 32768) = false := decide_eq_false (by omega)
    have g1 : decide (a < 40960) = false := decide_eq_false (by omega)
    have g2 : decide (a < 49152) = true := decide_eq_true (by omega)
    have e1 : IntKind.i64.wrap (a - 40960) = a - 40960 := by rw [IntKind.wrap_i64]; omega
    have E : Hid (Value.tuple #[.int .i64 (regK 2), .int .i64 (a - firK 2)] = .tuple #[.int .i64 2, .int .i64 (a - 40960)]) := by
      show _ = _
      rw [show regK 2 = 2 from rfl, show firK 2 = 40960 from rfl]
    rw [E.out]
    clear E h q0 q1
    go_enter Tryd.func11, Tryd.ntmps11
    go_wp2
    exact bodyPost_ret (v := .tuple #[.int .i64 2, .int .i64 (a - 40960)]) (by simp [results, Tryd.results11, go_sem]) rfl ⟨rfl, rfl⟩
  · rw [h]
    have g0 : decide (a < 32768) = false := decide_eq_false (by omega)
    have g1 : decide (a < 40960) = false := decide_eq_false (by omega)
    have g2 : decide (a < 49152) = false := decide_eq_false (by omega)
    have g3 : decide (a < 57344) = true := decide_eq_true (by omega)
    have e1 : IntKind.i64.wrap (a - 49152) = a - 49152 := by rw [IntKind.wrap_i64]; omega
    have E : Hid (Value.tuple #[.int .i64 (regK 3), .int .i64 (a - firK 3)] = .tuple #[.int .i64 3, .int .i64 (a - 49152)]) := by
      show _ = _
      rw [show regK 3 = 3 from rfl, show firK 3 = 49152 from rfl]
    rw [E.out]
    clear E h q0 q1
    go_enter Tryd.func11, Tryd.ntmps11
    go_wp2
    exact bodyPost_ret (v := .tuple #[.int .i64 3, .int .i64 (a - 49152)]) (by simp [results, Tryd.results11, go_sem]) rfl ⟨rfl, rfl⟩
  · rw [h]
    have g0 : decide (a < 32768) = false := decide_eq_false (by omega)
    have g1 : decide (a < 40960) = false := decide_eq_false (by omega)
    have g2 : decide (a < 49152) = false := decide_eq_false (by omega)
    have g3 : decide (a < 57344) = false := decide_eq_false (by omega)
    have g4 : decide (a < 65024) = true := decide_eq_true (by omega)
    have e1 : IntKind.i64.wrap (a - 57344) = a - 57344 := by rw [IntKind.wrap_i64]; omega
    have E : Hid (Value.tuple #[.int .i64 (regK 4), .int .i64 (a - firK 4)] = .tuple #[.int .i64 3, .int .i64 (a - 57344)]) := by
      show _ = _
      rw [show regK 4 = 3 from rfl, show firK 4 = 57344 from rfl]
    rw [E.out]
    clear E h q0 q1
    go_enter Tryd.func11, Tryd.ntmps11
    go_wp2
    exact bodyPost_ret (v := .tuple #[.int .i64 3, .int .i64 (a - 57344)]) (by simp [results, Tryd.results11, go_sem]) rfl ⟨rfl, rfl⟩
  · rw [h]
    have g0 : decide (a < 32768) = false := decide_eq_false (by omega)
    have g1 : decide (a < 40960) = false := decide_eq_false (by omega)
    have g2 : decide (a < 49152) = false := decide_eq_false (by omega)
    have g3 : decide (a < 57344) = false := decide_eq_false (by omega)
    have g4 : decide (a < 65024) = false := decide_eq_false (by omega)
    have g5 : decide (a < 65184) = true := decide_eq_true (by omega)
    have e1 : IntKind.i64.wrap (a - 65024) = a - 65024 := by rw [IntKind.wrap_i64]; omega
    have E : Hid (Value.tuple #[.int .i64 (regK 5), .int .i64 (a - firK 5)] = .tuple #[.int .i64 4, .int .i64 (a - 65024)]) := by
      show _ = _
      rw [show regK 5 = 4 from rfl, show firK 5 = 65024 from rfl]
    rw [E.out]
    clear E h q0 q1
    go_enter Tryd.func11, Tryd.ntmps11
    go_wp2
    exact bodyPost_ret (v := .tuple #[.int .i64 4, .int .i64 (a - 65024)]) (by simp [results, Tryd.results11, go_sem]) rfl ⟨rfl, rfl⟩
  · rw [h]
    have g0 : decide (a < 32768) = false := decide_eq_false (by omega)
    have g1 : decide (a < 40960) = false := decide_eq_false (by omega)
    have g2 : decide (a < 49152) = false := decide_eq_false (by omega)
    have g3 : decide (a < 57344) = false := decide_eq_false (by omega)
    have g4 : decide (a < 65024) = false := decide_eq_false (by omega)
    have g5 : decide (a < 65184) = false := decide_eq_false (by omega)
    have g6 : decide (a < 65280) = true := decide_eq_true (by omega)
    have e1 : IntKind.i64.wrap (a - 65184) = a - 65184 := by rw [IntKind.wrap_i64]; omega
    have E : Hid (Value.tuple #[.int .i64 (regK 6), .int .i64 (a - firK 6)] = .tuple #[.int .i64 5, .int .i64 (a - 65184)]) := by
      show _ = _
      rw [show regK 6 = 5 from rfl, show firK 6 = 65184 from rfl]
    rw [E.out]
    clear E h q0 q1
    go_enter Tryd.func11, Tryd.ntmps11
    go_wp2
    exact bodyPost_ret (v := .tuple #[.int .i64 5, .int .i64 (a - 65184)]) (by simp [results, Tryd.results11, go_sem]) rfl ⟨rfl, rfl⟩
  · rw [h]
    have g0 : decide (a < 32768) = false := decide_eq_false (by omega)
    have g1 : decide (a < 40960) = false := decide_eq_false (by omega)
    have g2 : decide (a < 49152) = false := decide_eq_false (by omega)
    have g3 : decide (a < 57344) = false := decide_eq_false (by omega)
    have g4 : decide (a < 65024) = false := decide_eq_false (by omega)
    have g5 : decide (a < 65184) = false := decide_eq_false (by omega)
    have g6 : decide (a < 65280) = false := decide_eq_false (by omega)
    have g7 : decide (a < 65408) = true := decide_eq_true (by omega)
    have e1 : IntKind.i64.wrap (a - 65280) = a - 65280 := by rw [IntKind.wrap_i64]; omega
    have E : Hid (Value.tuple #[.int .i64 (regK 7), .int .i64 (a - firK 7)] = .tuple #[.int .i64 6, .int .i64 (a - 65280)]) := by
      show _ = _
      rw [show regK 7 = 6 from rfl, show firK 7 = 65280 from rfl]
    rw [E.out]
    clear E h q0 q1
    go_enter Tryd.func11, Tryd.ntmps11
    go_wp2
    exact bodyPost_ret (v := .tuple #[.int .i64 6, .int .i64 (a - 65280)]) (by simp [results, Tryd.results11, go_sem]) rfl ⟨rfl, rfl⟩
  · rw [h]
    have g0 : decide (a < 32768) = false := decide_eq_false (by omega)
    have g1 : decide (a < 40960) = false := decide_eq_false (by omega)
    have g2 : decide (a < 49152) = false := decide_eq_false (by omega)
    have g3 : decide (a < 57344) = false := decide_eq_false (by omega)
    have g4 : decide (a < 65024) = false := decide_eq_false (by omega)
    have g5 : decide (a < 65184) = false := decide_eq_false (by omega)
    have g6 : decide (a < 65280) = false := decide_eq_false (by omega)
    have g7 : decide (a < 65408) = false := decide_eq_false (by omega)
    have g8 : decide (a < 65535) = true := decide_eq_true (by omega)
    have e1 : IntKind.i64.wrap (a - 65408) = a - 65408 := by rw [IntKind.wrap_i64]; omega
    have E : Hid (Value.tuple #[.int .i64 (regK 8), .int .i64 (a - firK 8)] = .tuple #[.int .i64 7, .int .i64 (a - 65408)]) := by
      show _ = _
      rw [show regK 8 = 7 from rfl, show firK 8 = 65408 from rfl]
    rw [E.out]
    clear E h q0 q1
    go_enter Tryd.func11, Tryd.ntmps11
    go_wp2
    exact bodyPost_ret (v := .tuple #[.int .i64 7, .int .i64 (a - 65408)]) (by simp [results, Tryd.results11, go_sem]) rfl ⟨rfl, rfl⟩
  · rw [h]
    have g0 : decide (a < 32768) = false := decide_eq_false (by omega)
    have g1 : decide (a < 40960) = false := decide_eq_false (by omega)
    have g2 : decide (a < 49152) = false := decide_eq_false (by omega)
    have g3 : decide (a < 57344) = false := decide_eq_false (by omega)
    have g4 : decide (a < 65024) = false := decide_eq_false (by omega)
    have g5 : decide (a < 65184) = false := decide_eq_false (by omega)
    have g6 : decide (a < 65280) = false := decide_eq_false (by omega)
    have g7 : decide (a < 65408) = false := decide_eq_false (by omega)
    have g8 : decide (a < 65535) = false := decide_eq_false (by omega)
    have E : Hid (Value.tuple #[.int .i64 (regK 9), .int .i64 (a - firK 9)] = .tuple #[.int .i64 8, .int .i64 (0)]) := by
      show _ = _
      rw [show regK 9 = 8 from rfl, show firK 9 = 65535 from rfl]
      rw [show a - 65535 = 0 by omega]
    rw [E.out]
    clear E h q0 q1
    go_enter Tryd.func11, Tryd.ntmps11
    go_wp2
    exact bodyPost_ret (v := .tuple #[.int .i64 8, .int .i64 (0)]) (by simp [results, Tryd.results11, go_sem]) rfl ⟨rfl, rfl⟩
set_option maxRecDepth 100000 in
set_option maxHeartbeats 4000000 in
theorem rlin20 (a : Int) (w : World) (a0 : 0 ≤ a) (a1 : a ≤ 65535) : Calls Tryd.prog 13 #[.int .u16 a] w fun e w' => e = .returned (.int .i64 (linP a)) ∧ w' = w := by
  have R := hid (rreg20 a w a0 a1)
  unfold linP
  unfold regP at R
  rcases rw_cases a a0 a1 with ⟨h, q0, q1⟩ | ⟨h, q0, q1⟩ | ⟨h, q0, q1⟩ | ⟨h, q0, q1⟩ | ⟨h, q0, q1⟩ | ⟨h, q0, q1⟩ | ⟨h, q0, q1⟩ | ⟨h, q0, q1⟩ | ⟨h, q0, q1⟩ | ⟨h, q0, q1⟩
  · rw [h] at R ⊢
    rw [show regK 0 = 0 from rfl] at R
    rw [show linK 0 = 0 from rfl]
    clear h
    go_enter Tryd.func13, Tryd.ntmps13
    go_wp2_with fail
    refine R.out.mono ?_
    rintro e u ⟨rfl, rfl⟩
    go_wp2
    go_ret
    exact ⟨rfl, rfl⟩
  · rw [h] at R ⊢
    rw [show regK 1 = 1 from rfl] at R
    rw [show linK 1 = 1 from rfl]
    clear h
    go_enter Tryd.func13, Tryd.ntmps13
    go_wp2_with fail
    refine R.out.mono ?_
    rintro e u ⟨rfl, rfl⟩
    go_wp2
    go_ret
    exact ⟨rfl, rfl⟩
  · rw [h] at R ⊢
    rw [show regK 2 = 2 from rfl] at R
    rw [show linK 2 = 0 from rfl]
    clear h
    go_enter Tryd.func13, Tryd.ntmps13
    go_wp2_with fail
    refine R.out.mono ?_
    rintro e u ⟨rfl, rfl⟩
    go_wp2
    go_ret
    exact ⟨rfl, rfl⟩
  · rw [h] at R ⊢
    rw [show regK 3 = 3 from rfl] at R
    rw [show linK 3 = 0 from rfl]
    clear h
    go_enter Tryd.func13, Tryd.ntmps13
    go_wp2_with fail
    refine R.out.mono ?_
    rintro e u ⟨rfl, rfl⟩
    go_wp2
    go_ret
    exact ⟨rfl, rfl⟩
  · rw [h] at R ⊢
    rw [show regK 4 = 3 from rfl] at R
    rw [show linK 4 = 0 from rfl]
    clear h
    go_enter Tryd.func13, Tryd.ntmps13
    go_wp2_with fail
    refine R.out.mono ?_
    rintro e u ⟨rfl, rfl⟩
    go_wp2
    go_ret
    exact ⟨rfl, rfl⟩
  · rw [h] at R ⊢
    rw [show regK 5 = 4 from rfl] at R
    rw [show linK 5 = 2 from rfl]
    clear h
    go_enter Tryd.func13, Tryd.ntmps13
    go_wp2_with fail
    refine R.out.mono ?_
    rintro e u ⟨rfl, rfl⟩
    go_wp2
    go_ret
    exact ⟨rfl, rfl⟩
  · rw [h] at R ⊢
    rw [show regK 6 = 5 from rfl] at R
    rw [show linK 6 = 2 from rfl]
    clear h
    go_enter Tryd.func13, Tryd.ntmps13
    go_wp2_with fail
    refine R.out.mono ?_
    rintro e u ⟨rfl, rfl⟩
    go_wp2
    go_ret
    exact ⟨rfl, rfl⟩
  · rw [h] at R ⊢
    rw [show regK 7 = 6 from rfl] at R
    rw [show linK 7 = 2 from rfl]
    clear h
    go_enter Tryd.func13, Tryd.ntmps13
    go_wp2_with fail
    refine R.out.mono ?_
    rintro e u ⟨rfl, rfl⟩
    go_wp2
    go_ret
    exact ⟨rfl, rfl⟩
  · rw [h] at R ⊢
    rw [show regK 8 = 7 from rfl] at R
    rw [show linK 8 = 2 from rfl]
    clear h
    go_enter Tryd.func13, Tryd.ntmps13
    go_wp2_with fail
    refine R.out.mono ?_
    rintro e u ⟨rfl, rfl⟩
    go_wp2
    go_ret
    exact ⟨rfl, rfl⟩
  · rw [h] at R ⊢
    rw [show regK 9 = 8 from rfl] at R
    rw [show linK 9 = 2 from rfl]
    clear h
    go_enter Tryd.func13, Tryd.ntmps13
    go_wp2_with fail
    refine R.out.mono ?_
    rintro e u ⟨rfl, rfl⟩
    go_wp2
    go_ret
    exact ⟨rfl, rfl⟩
set_option maxRecDepth 100000 in
set_option maxHeartbeats 4000000 in
theorem rshut20 (a : Int) (v o c : Bool) (w : World) (a0 : 0 ≤ a) (a1 : a ≤ 65535) : Calls Tryd.prog 15 #[.int .u16 a, .bool v, .bool o, .bool c] w fun e w' => e = .returned (.bool (shutP a v o c)) ∧ w' = w := by
  have R := hid (rreg20 a w a0 a1)
  unfold shutP
  generalize regP a = r at R ⊢
  by_cases h1 : r = 1
  · subst h1
    cases v
    all_goals
      go_enter Tryd.func15, Tryd.ntmps15
      go_wp2_with fail
      refine R.out.mono ?_
      rintro e u ⟨rfl, rfl⟩
      go_wp2
      go_ret
      exact ⟨by simp, rfl⟩
  · have g1 : (r == 1) = false := by simpa using h1
    by_cases h4 : r = 4
    · subst h4
      cases o
      all_goals
        go_enter Tryd.func15, Tryd.ntmps15
        go_wp2_with fail
        refine R.out.mono ?_
        rintro e u ⟨rfl, rfl⟩
        go_wp2
        go_ret
        exact ⟨by simp, rfl⟩
    · have g4 : (r == 4) = false := by simpa using h4
      by_cases h5 : r = 5
      · subst h5
        cases o
        all_goals
          go_enter Tryd.func15, Tryd.ntmps15
          go_wp2_with fail
          refine R.out.mono ?_
          rintro e u ⟨rfl, rfl⟩
          go_wp2
          go_ret
          exact ⟨by simp, rfl⟩
      · have g5 : (r == 5) = false := by simpa using h5
        have E : Hid ((r == 1 && v || (r == 4 || r == 5) && (o || c)) = false) := by show _ = _; rw [g1, g4, g5]; simp
        rw [E.out]
        clear E
        go_enter Tryd.func15, Tryd.ntmps15
        go_wp2_with fail
        refine R.out.mono ?_
        rintro e u ⟨rfl, rfl⟩
        go_wp2
        go_ret
        exact ⟨rfl, rfl⟩
set_option maxRecDepth 100000 in
set_option maxHeartbeats 4000000 in
theorem rmeet20 (a s : Int) (c : Bool) (w : World) (a0 : 0 ≤ a) (a1 : a ≤ 65535) (s0 : 0 ≤ s) (s1 : s ≤ 65535) : Calls Tryd.prog 17 #[.int .u16 a, .int .u16 s, .bool c] w fun e w' => e = .returned (.bool (meetP a s c)) ∧ w' = w := by
  have R := hid (fun u => rlin20 a u a0 a1)
  have S := hid (fun u => rlin20 s u s0 s1)
  unfold meetP
  generalize linP a = x at R ⊢
  generalize linP s = y at S ⊢
  cases c
  · have E : Hid ((false && (x == y && decide (x < 2))) = false) := by show _ = _; simp
    rw [E.out]
    clear E
    go_enter Tryd.func17, Tryd.ntmps17
    go_wp2
    go_ret
    exact ⟨rfl, rfl⟩
  · by_cases h : x = y
    · subst h
      have E : Hid ((true && (x == x && decide (x < 2))) = decide (x < 2)) := by show _ = _; simp
      rw [E.out]
      clear E
      go_enter Tryd.func17, Tryd.ntmps17
      go_wp2_with fail
      refine (R.out _).mono ?_
      rintro e u ⟨rfl, rfl⟩
      go_wp2_with fail
      refine (S.out _).mono ?_
      rintro e u ⟨rfl, rfl⟩
      go_wp2_with fail
      refine (R.out _).mono ?_
      rintro e u ⟨rfl, rfl⟩
      go_wp2
      go_ret
      exact ⟨rfl, rfl⟩
    · have g : (x == y) = false := by simpa using h
      have E : Hid ((true && (x == y && decide (x < 2))) = false) := by show _ = _; rw [g]; simp
      rw [E.out]
      clear E
      go_enter Tryd.func17, Tryd.ntmps17
      go_wp2_with fail
      refine (R.out _).mono ?_
      rintro e u ⟨rfl, rfl⟩
      go_wp2_with fail
      refine (S.out _).mono ?_
      rintro e u ⟨rfl, rfl⟩
      go_wp2
      go_ret
      exact ⟨rfl, rfl⟩
end Go.Proofs.YtfndpikcodjajaaDoor
