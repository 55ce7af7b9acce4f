/- What Encode of the document's answers of layer 5 comes to. -/
import Derived.Test.YtcooghpjdjkmhaaDoorRf4
import Derived.Test.YtcooghpjdjkmhaaDoorEnc
import Derived.Test.YtcooghpjdjkmhaaDoorEqF
namespace Go.Proofs.YtcooghpjdjkmhaaDoor
open Go.RowKit
set_option linter.unusedVariables false
set_option linter.unusedSimpArgs false

set_option maxRecDepth 100000 in
set_option maxHeartbeats 4000000 in
theorem rencode_any (f : Fm) (w : World) : Calls Tryd.prog 17 #[.agg #[.int .i64 f.kind, .int .i64 f.x, .int .i64 f.y, .int .i64 f.bytes, .int .i64 f.cycles, .int .i64 f.taken]] w fun e w' => e = .returned (.tuple #[.int .u8 (encA f), .bool (encB f), .int .i64 (encE f)]) ∧ Grown w w' := by
  cases h5 : (f.kind == 5)
  · have h5n : (f.kind != 5) = true := by simp [bne, h5]
    have H5 := hid h5
    go_enter Tryd.func17, Tryd.ntmps17
    go_wp2
    go_loopw [5] (fun i wr => ∃ k : Nat, k ≤ 256 ∧ i = .int .i64 (k : Int) ∧ encTo f k = none ∧ Grown (w.alloc (.cells #[.int .i64 f.kind, .int .i64 f.x, .int .i64 f.y, .int .i64 f.bytes, .int .i64 f.cycles, .int .i64 f.taken] 24)) wr) (fun i _ => 256 - (intOf i).toNat)
    case atStart => exact ⟨0, Nat.zero_le _, rfl, rfl, Grown.refl _⟩
    case round =>
      obtain ⟨k, hk, rfl, hn, G⟩ := hrel
      have HN := hid hn
      have GR := hid G
      have GG := hid (grown_trans (alloc1 w _ _) G)
      have B := has_grown G (has_alloc w _ _)
      have HB := hid B
      obtain ⟨zB, cB⟩ := id B
      clear hn G B
      by_cases hlt : k < 256
      · obtain ⟨k0, k1⟩ : (0 : Int) ≤ k ∧ (k : Int) ≤ 255 := by omega
        have km : (k : Int) % 256 = k := by omega
        have kw : IntKind.u8.wrap (k : Int) = k := by rw [IntKind.wrap_u8]; omega
        obtain ⟨d, hd⟩ : ∃ d, decOf (k : Int) = d := ⟨_, rfl⟩
        obtain ⟨c, hc⟩ : ∃ c, cbOf (k : Int) = c := ⟨_, rfl⟩
        have HD := hid hd
        have HC := hid hc
        clear hd hc
        have xD := eq_forms d f
        have xC := eq_forms c f
        cases sD : d.same f
        · rw [sD] at xD
          cases sC : c.same f
          · rw [sC] at xC
            have HX := hid (enc_next f k HN.out (by rw [HD.out]; exact sD) (by rw [HC.out]; exact sC))
            clear sD sC
            go_wp2
            go_region_held3 (fun w' => w.heap.size < w'.heap.size ∧ w'.cell? ⟨w.heap.size, 0, none⟩ = some (.int .i64 f.kind) ∧ w'.cell? ⟨w.heap.size, 1, none⟩ = some (.int .i64 f.x) ∧ w'.cell? ⟨w.heap.size, 2, none⟩ = some (.int .i64 f.y) ∧ w'.cell? ⟨w.heap.size, 3, none⟩ = some (.int .i64 f.bytes) ∧ w'.cell? ⟨w.heap.size, 4, none⟩ = some (.int .i64 f.cycles) ∧ w'.cell? ⟨w.heap.size, 5, none⟩ = some (.int .i64 f.taken)) (go_keep) (first | (go_at_call 11; refine (rdecode_any (k : Int) _ k0 k1).mono ?_; rintro e v1 ⟨rfl, q1⟩; rw [HD.out]; have D1b0 := has_grown q1 HB.out; obtain ⟨zD1b0, cD1b0⟩ := id D1b0))
            go_wp2
            go_region_held3 (fun w' => w.heap.size < w'.heap.size ∧ w'.cell? ⟨w.heap.size, 0, none⟩ = some (.int .i64 f.kind) ∧ w'.cell? ⟨w.heap.size, 1, none⟩ = some (.int .i64 f.x) ∧ w'.cell? ⟨w.heap.size, 2, none⟩ = some (.int .i64 f.y) ∧ w'.cell? ⟨w.heap.size, 3, none⟩ = some (.int .i64 f.bytes) ∧ w'.cell? ⟨w.heap.size, 4, none⟩ = some (.int .i64 f.cycles) ∧ w'.cell? ⟨w.heap.size, 5, none⟩ = some (.int .i64 f.taken)) (go_keep) (first | (go_at_call 13; refine (rdecodeCB_any (k : Int) _ k0 k1).mono ?_; rintro e v2 ⟨rfl, q2⟩; rw [HC.out]; have D2b0 := has_grown q2 D1b0; obtain ⟨zD2b0, cD2b0⟩ := id D2b0))
            go_wp2
            go_roundw
            case rel => exact ⟨k + 1, by omega, by go_num, HX.out, grown_trans (grown_trans GR.out.drew q1).drew q2⟩
            case measure => first | omega | (simp; omega) | (simp [intOf]; omega)
          · rw [sC] at xC
            have E := hid (enc_hit f k k true H5.out hlt HN.out (by simp [hit, HD.out, HC.out, sD, sC]))
            clear sD sC
            go_wp2
            go_region_held3 (fun w' => w.heap.size < w'.heap.size ∧ w'.cell? ⟨w.heap.size, 0, none⟩ = some (.int .i64 f.kind) ∧ w'.cell? ⟨w.heap.size, 1, none⟩ = some (.int .i64 f.x) ∧ w'.cell? ⟨w.heap.size, 2, none⟩ = some (.int .i64 f.y) ∧ w'.cell? ⟨w.heap.size, 3, none⟩ = some (.int .i64 f.bytes) ∧ w'.cell? ⟨w.heap.size, 4, none⟩ = some (.int .i64 f.cycles) ∧ w'.cell? ⟨w.heap.size, 5, none⟩ = some (.int .i64 f.taken)) (go_keep) (first | (go_at_call 11; refine (rdecode_any (k : Int) _ k0 k1).mono ?_; rintro e v1 ⟨rfl, q1⟩; rw [HD.out]; have D1b0 := has_grown q1 HB.out; obtain ⟨zD1b0, cD1b0⟩ := id D1b0))
            go_wp2
            go_region_held3 (fun w' => w.heap.size < w'.heap.size ∧ w'.cell? ⟨w.heap.size, 0, none⟩ = some (.int .i64 f.kind) ∧ w'.cell? ⟨w.heap.size, 1, none⟩ = some (.int .i64 f.x) ∧ w'.cell? ⟨w.heap.size, 2, none⟩ = some (.int .i64 f.y) ∧ w'.cell? ⟨w.heap.size, 3, none⟩ = some (.int .i64 f.bytes) ∧ w'.cell? ⟨w.heap.size, 4, none⟩ = some (.int .i64 f.cycles) ∧ w'.cell? ⟨w.heap.size, 5, none⟩ = some (.int .i64 f.taken)) (go_keep) (first | (go_at_call 13; refine (rdecodeCB_any (k : Int) _ k0 k1).mono ?_; rintro e v2 ⟨rfl, q2⟩; rw [HC.out]; have D2b0 := has_grown q2 D1b0; obtain ⟨zD2b0, cD2b0⟩ := id D2b0))
            go_wp2
            exact bodyPost_ret (v := .tuple #[.int .u8 (k : Int), .bool true, .int .i64 0]) (by simp [results, Tryd.results17, go_sem]) rfl ⟨by rw [E.out.1, E.out.2.1, E.out.2.2], grown_trans (grown_trans GG.out.drew q1).drew q2⟩
        · rw [sD] at xD
          have E := hid (enc_hit f k k false H5.out hlt HN.out (by simp [hit, HD.out, sD]))
          clear sD xC
          go_wp2
          go_region_held3 (fun w' => w.heap.size < w'.heap.size ∧ w'.cell? ⟨w.heap.size, 0, none⟩ = some (.int .i64 f.kind) ∧ w'.cell? ⟨w.heap.size, 1, none⟩ = some (.int .i64 f.x) ∧ w'.cell? ⟨w.heap.size, 2, none⟩ = some (.int .i64 f.y) ∧ w'.cell? ⟨w.heap.size, 3, none⟩ = some (.int .i64 f.bytes) ∧ w'.cell? ⟨w.heap.size, 4, none⟩ = some (.int .i64 f.cycles) ∧ w'.cell? ⟨w.heap.size, 5, none⟩ = some (.int .i64 f.taken)) (go_keep) (first | (go_at_call 11; refine (rdecode_any (k : Int) _ k0 k1).mono ?_; rintro e v1 ⟨rfl, q1⟩; rw [HD.out]; have D1b0 := has_grown q1 HB.out; obtain ⟨zD1b0, cD1b0⟩ := id D1b0))
          go_wp2
          exact bodyPost_ret (v := .tuple #[.int .u8 (k : Int), .bool false, .int .i64 0]) (by simp [results, Tryd.results17, go_sem]) rfl ⟨by rw [E.out.1, E.out.2.1, E.out.2.2], grown_trans GG.out.drew q1⟩
      · obtain rfl : k = 256 := by omega
        have E := hid (enc_none f HN.out)
        go_wp2
        exact bodyPost_ret (v := .tuple #[.int .u8 0, .bool false, .int .i64 7]) (by simp [results, Tryd.results17, go_sem]) rfl ⟨by rw [E.out.1, E.out.2.1, E.out.2.2], GG.out⟩
  · have h5n : (f.kind != 5) = false := by simp [bne, h5]
    have E := hid (enc5 f h5)
    go_enter Tryd.func17, Tryd.ntmps17
    go_wp2
    go_loopw [5] (fun i wr => i = .int .i64 0 ∧ wr = w.alloc (.cells #[.int .i64 f.kind, .int .i64 f.x, .int .i64 f.y, .int .i64 f.bytes, .int .i64 f.cycles, .int .i64 f.taken] 24)) (fun _ _ => 0)
    case atStart => exact ⟨rfl, rfl⟩
    case round =>
      obtain ⟨rfl, rfl⟩ := hrel
      go_wp2
      exact bodyPost_ret (v := .tuple #[.int .u8 0, .bool false, .int .i64 7]) (by simp [results, Tryd.results17, go_sem]) rfl ⟨by rw [E.out.1, E.out.2.1, E.out.2.2], alloc1 _ _ _⟩
end Go.Proofs.YtcooghpjdjkmhaaDoor
