/- What shapes of layer 6 comes to: the map of all lines without their numbers. -/
import Derived.Test.YtlchkflpaehgcaaGreatDoorCv
import Derived.Deep.DeepCutAuto
namespace Go.Proofs.YtlchkflpaehgcaaGreatDoor
open Go.RowKit
set_option linter.unusedVariables false
set_option linter.unusedSimpArgs false

def lkey (op : Int) (cb : Bool) : ByteArray := rT ⟨#[36]⟩ ⟨#[36]⟩ (toksOf op cb)
def dbK : ByteArray := ⟨#[68, 66, 32, 36]⟩
def tab : Nat → List UInt8 → Option (ByteArray × Int)
  | 0 => fput (fun _ => none) dbK.data.toList (⟨#[]⟩, 1)
  | k + 1 => fput (fput (tab k) (lkey (k : Int) false).data.toList (strOf [(k : Int)], (decOf (k : Int)).bytes - 1)) (lkey (k : Int) true).data.toList (strOf [203, (k : Int)], 0)
theorem lkey_size (op : Int) (cb : Bool) (o0 : 0 ≤ op) (o1 : op ≤ 255) : (lkey op cb).size ≤ maxLen := by
  have h := rT_size ⟨#[36]⟩ ⟨#[36]⟩ (by decide) (by decide) (toksOf op cb)
  have q : (toksOf op cb).length ≤ 12 := by
    cases cb
    · exact fin8 (p := fun a => (toksOf a false).length ≤ 12) (by decide +kernel) op o0 o1
    · exact fin8 (p := fun a => (toksOf a true).length ≤ 12) (by decide +kernel) op o0 o1
  unfold lkey maxLen
  omega
theorem conv_has {w : World} {b : Nat} {l : List Int} (h : Has w b (l.map (Value.int .u8)).toArray) (cap : Nat) : (convert 22 9 (.slice (some ⟨b, 0, none⟩) l.length cap)).run Tryz.prog w = .ok (.string (strOf l)) w :=
  conv_cells w ⟨b, 0, none⟩ cap l (fun j v hj => by
    have q := h.2 j
    simp only [List.getElem?_toArray] at q
    rw [hj] at q
    by_cases j0 : j = 0
    · subst j0; simpa [Addr.add] using q
    · simpa [Addr.add, j0] using q)
set_option maxRecDepth 100000 in
set_option maxHeartbeats 8000000 in
theorem shapes_any (w : World) (lay : Lay w) : Calls Tryz.prog 17 #[] w fun e w' => ∃ B, e = .returned (.map (some B)) ∧ MapIs w' B 513 (tab 256) ∧ w.heap.size ≤ B ∧ Kept w w' := by
  have L0 := hid lay
  have hmm := @run_makeMap Tryz.prog
  clear lay
  go_enter Tryz.func17, Tryz.ntmps17
  go_wp2_with fail
  refine (lline_any ⟨#[68, 66]⟩ _ [⟨#[36]⟩] _ (strs_one_at _ _ (by simp) _ _) (by simp) (fun s hs => by simp at hs; subst hs; simp [ByteArray.size]) (by simp [ByteArray.size])).mono ?_
  rintro e v1 ⟨rfl, g1⟩
  rw [show lineS ⟨#[68, 66]⟩ [⟨#[36]⟩] = dbK by kernel_rfl]
  have M1 := hid (((mapIs_made w).alloc (.cells #[.string ⟨#[36]⟩] 9)).kept g1)
  have K1 := hid ((((Kept.refl w).alloc (.map #[] 0)).alloc (.cells #[.string ⟨#[36]⟩] 9)).trans g1)
  clear g1
  obtain ⟨w2, hr2, hm2, hg2⟩ := M1.out.put (by decide) dbK (by decide) ⟨#[]⟩ 1
  have M2 := hid (show MapIs w2 w.heap.size (2 * 0 + 1) (tab 0) from hm2)
  have K2 := hid (K1.out.by hg2 (fun k hk => by cases hk; exact Nat.le_refl _))
  clear hm2 hg2
  go_wp2
  go_loopw [9] (fun i wr => ∃ k : Nat, k ≤ 256 ∧ i = .int .i64 (k : Int) ∧ MapIs wr w.heap.size (2 * k + 1) (tab k) ∧ Kept w wr) (fun i _ => 256 - (intOf i).toNat)
  case atStart => exact ⟨0, by omega, rfl, M2.out, K2.out⟩
  case round =>
    clear M1 K1 M2 K2 hr2
    obtain ⟨k, hk, rfl, hm, hkp⟩ := hrel
    have HM := hid hm
    have HK := hid hkp
    clear hm hkp
    by_cases hlt : k < 256
    · have hlt2 : (k : Int) < 256 := by omega
      have wk : IntKind.u8.wrap (k : Int) = (k : Int) := by rw [IntKind.wrap_u8]; omega
      have q0 : (0 : Int) ≤ (k : Int) := by omega
      have q1 : (k : Int) ≤ 255 := by omega
      obtain ⟨F, hF⟩ : ∃ F, decOf (k : Int) = F := ⟨_, rfl⟩
      have C1 := fun u h => lwrite_any (k : Int) false ⟨#[36]⟩ ⟨#[36]⟩ u h q0 q1 (by decide) (by decide)
      rw [show rT ⟨#[36]⟩ ⟨#[36]⟩ (toksOf (k : Int) false) = lkey (k : Int) false from rfl] at C1
      have C2 := fun u h => lwrite_any (k : Int) true ⟨#[36]⟩ ⟨#[36]⟩ u h q0 q1 (by decide) (by decide)
      rw [show rT ⟨#[36]⟩ ⟨#[36]⟩ (toksOf (k : Int) true) = lkey (k : Int) true from rfl] at C2
      have C3 := fun u => decode_any (k : Int) u q0 q1
      rw [hF] at C3
      have CC1 := hid C1
      have CC2 := hid C2
      have CC3 := hid C3
      have fx : ∀ u, (Instr.field 46 (.agg #[.int .i64 F.kind, .int .i64 F.x, .int .i64 F.y, .int .i64 F.bytes, .int .i64 F.cycles, .int .i64 F.taken]) 3).run Tryz.prog u = .ok (.int .i64 F.bytes) u := fun _ => by kernel_rfl
      have wb : IntKind.i64.wrap (F.bytes - 1) = F.bytes - 1 := by
        have := bytes_of (k : Int) q0 q1
        rw [hF] at this
        rw [IntKind.wrap_i64]; omega
      clear C1 C2 C3
      have hS1 := lkey_size (k : Int) false q0 q1
      have hS2 := lkey_size (k : Int) true q0 q1
      obtain ⟨f1, hf1⟩ : ∃ f, fput (tab k) (lkey (k : Int) false).data.toList (strOf [(k : Int)], F.bytes - 1) = f := ⟨_, rfl⟩
      obtain ⟨f2, hf2⟩ : ∃ f, fput f1 (lkey (k : Int) true).data.toList (strOf [203, (k : Int)], 0) = f := ⟨_, rfl⟩
      have HT := hid (show tab (k + 1) = f2 by rw [← hf2, ← hf1, ← hF]; rfl)
      have P1 := hid (fun (u : World) (h : MapIs u w.heap.size (2 * k + 1) (tab k)) => hf1 ▸ h.put (by unfold maxLen; omega) (lkey (k : Int) false) hS1 (strOf [(k : Int)]) (F.bytes - 1))
      have P2 := hid (fun (u : World) (h : MapIs u w.heap.size (2 * k + 2) f1) => hf2 ▸ h.put (by unfold maxLen; omega) (lkey (k : Int) true) hS2 (strOf [203, (k : Int)]) 0)
      clear hf1 hf2 hF hS1 hS2
      have HC1 := hid (fun (u : World) (n : Nat) (h : Has u n #[.int .u8 (k : Int)]) => (show (convert 22 9 (.slice (some ⟨n, 0, none⟩) 1 1)).run Tryz.prog u = .ok (.string (strOf [(k : Int)])) u from conv_has (l := [(k : Int)]) h 1))
      have HC2 := hid (fun (u : World) (n : Nat) (h : Has u n #[.int .u8 203, .int .u8 (k : Int)]) => (show (convert 22 9 (.slice (some ⟨n, 0, none⟩) 2 2)).run Tryz.prog u = .ok (.string (strOf [203, (k : Int)])) u from conv_has (l := [203, (k : Int)]) h 2))
      generalize strOf [(k : Int)] = A1 at *
      generalize strOf [203, (k : Int)] = A2 at *
      generalize lkey (k : Int) false = S1 at *
      generalize lkey (k : Int) true = S2 at *
      have cvA : ∀ (u : World) (n : Nat), n = u.heap.size → (convert 22 9 (.slice (some ⟨n, 0, none⟩) 1 1)).run Tryz.prog (u.alloc (.cells #[.int .u8 (k : Int)] 5)) = .ok (.string A1) (u.alloc (.cells #[.int .u8 (k : Int)] 5)) := fun u n h => HC1.out _ n (by subst h; exact has_alloc _ _ _)
      have cvB : ∀ (u : World) (n : Nat), n = u.heap.size → (convert 22 9 (.slice (some ⟨n, 0, none⟩) 1 1)).run Tryz.prog (u.alloc (.cells #[.int .u8 (k : Int)] 5)).drew = .ok (.string A1) (u.alloc (.cells #[.int .u8 (k : Int)] 5)).drew := fun u n h => HC1.out _ n (by subst h; exact has_alloc _ _ _)
      have LA := hid ((L0.out.kept HK.out).drew)
      have LB := hid ((L0.out.kept (HK.out.alloc (.cells #[.int .u8 (k : Int)] 5))).drew)
      have KA := hid (Kept.refl wr).drew
      have KB := hid ((Kept.refl wr).alloc (.cells #[.int .u8 (k : Int)] 5)).drew
      have BA := hid (has_alloc wr #[.int .u8 (k : Int)] 5)
      go_wp2
      go_cut [3] (fun o wx => o = .int .u8 (k : Int) ∧ MapIs wx w.heap.size (2 * k + 2) f1 ∧ Kept w wx)
      case first =>
        go_region_with (first | (go_at_call 29; refine (CC1.out _ (by first | with_reducible exact LA.out | with_reducible exact LB.out)).mono ?_; rintro e v1 ⟨rfl, g1⟩; have KV1 := hid (show Kept wr v1 from (by first | with_reducible exact KA.out.trans g1 | with_reducible exact KB.out.trans g1)); (first | (have B1 := hid (has_kept6 (show Kept (wr.alloc (.cells #[.int .u8 (k : Int)] 5)).drew v1 from g1) BA.out); have cv1 := HC1.out v1 wr.heap.size B1.out) | skip); clear g1) | (go_at_call 23; refine (CC3.out _).mono ?_; rintro e v2 ⟨rfl, g2⟩; (first | (have B2 := hid (has_grown (show Grown (v1.alloc (.cells #[.int .u8 (k : Int)] 5)) v2 from g2) (has_alloc v1 _ _)); have cv2 := HC1.out v2 v1.heap.size B2.out; have KV2 := hid ((KV1.out.alloc _).trans (Kept.of g2))) | (have KV2 := hid (KV1.out.trans (Kept.of g2)); (first | (have cv2 := HC1.out v2 wr.heap.size (has_grown g2 B1.out)) | skip))); have M2 := hid (HM.out.kept KV2.out); obtain ⟨w3, hr3, hm3, hg3⟩ := P1.out v2 M2.out; obtain ⟨w4, hr4, hm4, hg4⟩ := P1.out _ (M2.out.alloc (.cells #[.int .u8 (k : Int)] 5)); have HM3 := hid hm3; have HG3 := hid hg3; have HM4 := hid hm4; have HG4 := hid hg4; clear hm3 hg3 hm4 hg4 g2))
        all_goals
          go_wp2_with fail
        all_goals
          go_meet
        all_goals
          first
            | with_reducible exact ⟨rfl, HM3.out, (HK.out.trans KV2.out).by HG3.out (fun q hq => by cases hq; exact Nat.le_refl _)⟩
            | with_reducible exact ⟨rfl, HM4.out, ((HK.out.trans KV2.out).alloc _).by HG4.out (fun q hq => by cases hq; exact Nat.le_refl _)⟩
      case rest =>
        obtain ⟨rfl, hmc, hkc⟩ := hcut
        have HMC := hid hmc
        have HKC := hid hkc
        clear hmc hkc cvA cvB LA LB KA KB BA HM HK P1 CC1 CC3 fx
        have cvA : ∀ (u : World) (n : Nat), n = u.heap.size → (convert 22 9 (.slice (some ⟨n, 0, none⟩) 2 2)).run Tryz.prog (u.alloc (.cells #[.int .u8 203, .int .u8 (k : Int)] 5)) = .ok (.string A2) (u.alloc (.cells #[.int .u8 203, .int .u8 (k : Int)] 5)) := fun u n h => HC2.out _ n (by subst h; exact has_alloc _ _ _)
        have cvB : ∀ (u : World) (n : Nat), n = u.heap.size → (convert 22 9 (.slice (some ⟨n, 0, none⟩) 2 2)).run Tryz.prog (u.alloc (.cells #[.int .u8 203, .int .u8 (k : Int)] 5)).drew = .ok (.string A2) (u.alloc (.cells #[.int .u8 203, .int .u8 (k : Int)] 5)).drew := fun u n h => HC2.out _ n (by subst h; exact has_alloc _ _ _)
        have LA := hid ((L0.out.kept HKC.out).drew)
        have LB := hid ((L0.out.kept (HKC.out.alloc (.cells #[.int .u8 203, .int .u8 (k : Int)] 5))).drew)
        have KA := hid (Kept.refl wc).drew
        have KB := hid ((Kept.refl wc).alloc (.cells #[.int .u8 203, .int .u8 (k : Int)] 5)).drew
        have BA := hid (has_alloc wc #[.int .u8 203, .int .u8 (k : Int)] 5)
        go_wp2
        go_region_with (go_at_call 29; refine (CC2.out _ (by first | with_reducible exact LA.out | with_reducible exact LB.out)).mono ?_; rintro e v1 ⟨rfl, g1⟩; have KV1 := hid (show Kept wc v1 from (by first | with_reducible exact KA.out.trans g1 | with_reducible exact KB.out.trans g1)); (first | (have B1 := hid (has_kept6 (show Kept (wc.alloc (.cells #[.int .u8 203, .int .u8 (k : Int)] 5)).drew v1 from g1) BA.out); have cv1 := HC2.out v1 wc.heap.size B1.out) | skip); have M2 := hid (HMC.out.kept KV1.out); obtain ⟨w3, hr3, hm3, hg3⟩ := P2.out v1 M2.out; obtain ⟨w4, hr4, hm4, hg4⟩ := P2.out _ (M2.out.alloc (.cells #[.int .u8 203, .int .u8 (k : Int)] 5)); have HM3 := hid hm3; have HG3 := hid hg3; have HM4 := hid hm4; have HG4 := hid hg4; clear hm3 hg3 hm4 hg4 g1)
        all_goals
          have E3 : MapIs w3 w.heap.size (2 * (k + 1) + 1) (tab (k + 1)) ∧ Kept w w3 := ⟨by rw [HT.out]; exact HM3.out, (HKC.out.trans KV1.out).by HG3.out (fun q hq => by cases hq; exact Nat.le_refl _)⟩
          have E4 : MapIs w4 w.heap.size (2 * (k + 1) + 1) (tab (k + 1)) ∧ Kept w w4 := ⟨by rw [HT.out]; exact HM4.out, ((HKC.out.trans KV1.out).alloc _).by HG4.out (fun q hq => by cases hq; exact Nat.le_refl _)⟩
          have HE3 := hid E3
          have HE4 := hid E4
          clear E3 E4
          go_wp2
        all_goals
          refine ⟨⟨k + 1, by omega, by go_num, ?_⟩, by simp only [intOf]; omega⟩
          first
            | with_reducible exact HE3.out
            | with_reducible exact HE4.out
    · obtain rfl : k = 256 := by omega
      go_wp2
      go_ret
      exact ⟨_, rfl, HM.out, Nat.le_refl _, HK.out⟩
end Go.Proofs.YtlchkflpaehgcaaGreatDoor
