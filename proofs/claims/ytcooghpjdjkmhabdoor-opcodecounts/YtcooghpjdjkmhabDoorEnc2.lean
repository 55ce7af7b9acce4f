/- Unlike opcodes have unlike forms; the opcode of each form; how many are illegal. -/
import Derived.Test.YtcooghpjdjkmhabDoorEnc
namespace Go.Proofs.YtcooghpjdjkmhabDoor
open Go.RowKit
set_option linter.unusedVariables false
set_option linter.unusedSimpArgs false

def keyOf (f : Fm) : Int := f.kind * 64 + f.x * 8 + f.y
def keyN (k : Nat) : Nat := (3892533699563173529602337080960495470260116004428611763499349662666115619319551869231430517022681736049144086511212800642196992933151835865529607772608155628222433775538267748945822247023946871720427897911572160995170186535096844117783118668541358266879937969555905066758106777838607011014659428219994734795708319431231402582663341839903817297123953699780043621467254737653010093297441443276797158431697810369840181522626146727233232059910546185271560740499952370516804121767085420966105711518870339132269109135445961922161648814982240558701375422857754459964607903465090236782209145584686377338439942525617880879919355464754947949781468517817109311540091452844439812401080531757272507632185335144237769834101027921459368299100448443594275769515947015096085966214071005889460034795400066936110769033013111695073748039518847830932823334992766810251176017477702941988317929975371718119539372335493910370145425649742961250140160 >>> (12 * k)) % 4096
theorem keyN_fin : ∀ a : Fin 256, ∀ b : Fin 256, keyN a.val = keyN b.val → a.val = b.val := by decide +kernel
theorem keyD_fin : ∀ a : Fin 256, illOf (a.val : Int) = false → keyOf (decOf (a.val : Int)) = (keyN a.val : Int) := by decide +kernel
theorem kind_fin : ∀ a : Fin 256, (decOf (a.val : Int)).kind < 43 ∧ 43 ≤ (cbOf (a.val : Int)).kind ∧ keyOf (cbOf (a.val : Int)) = 43 * 64 + (a.val : Int) := by decide +kernel
theorem illD_fin : ∀ a : Fin 256, illOf (a.val : Int) = true → ((decOf (a.val : Int)).same ⟨5, 0, 0, 1, 1, 1⟩) = true := by decide +kernel
theorem same_key {f g : Fm} (h : f.same g = true) : keyOf f = keyOf g := by rw [(same_iff f g).1 h]
theorem dec_cb (a b : Nat) (ha : a < 256) (hb : b < 256) : (decOf (a : Int)).same (cbOf (b : Int)) = false := by
  cases h : (decOf (a : Int)).same (cbOf (b : Int))
  · rfl
  · have e := (same_iff _ _).1 h
    have k1 := (kind_fin ⟨a, ha⟩).1
    have k2 := (kind_fin ⟨b, hb⟩).2.1
    simp only at k1 k2
    rw [e] at k1
    omega
theorem cb_dec (a b : Nat) (ha : a < 256) (hb : b < 256) : (cbOf (a : Int)).same (decOf (b : Int)) = false := by
  cases h : (cbOf (a : Int)).same (decOf (b : Int))
  · rfl
  · have e := (same_iff _ _).1 h
    have := dec_cb b a hb ha
    rw [← e, same_refl] at this
    cases this
theorem cb_cb (a b : Nat) (ha : a < 256) (hb : b < 256) : (cbOf (a : Int)).same (cbOf (b : Int)) = decide (a = b) := by
  by_cases e : a = b
  · subst e; simp [same_refl]
  · cases h : (cbOf (a : Int)).same (cbOf (b : Int))
    · simp [e]
    · have q := same_key h
      rw [(kind_fin ⟨a, ha⟩).2.2, (kind_fin ⟨b, hb⟩).2.2] at q
      simp only at q
      omega
theorem dec_dec (a b : Nat) (ha : a < 256) (hb : b < 256) (hi : illOf (b : Int) = false) : (decOf (a : Int)).same (decOf (b : Int)) = decide (a = b) := by
  by_cases e : a = b
  · subst e; simp [same_refl]
  · cases h : (decOf (a : Int)).same (decOf (b : Int))
    · simp [e]
    · have q := same_key h
      have i2 : illOf (a : Int) = false := by
        have := (same_iff _ _).1 h
        unfold illOf at hi ⊢
        rw [this]; exact hi
      rw [keyD_fin ⟨a, ha⟩ i2, keyD_fin ⟨b, hb⟩ hi] at q
      exact absurd (keyN_fin ⟨a, ha⟩ ⟨b, hb⟩ (by simp only at q ⊢; omega)) e
theorem ill_same (a b : Nat) (ha : a < 256) (hb : b < 256) (h1 : illOf (a : Int) = true) (h2 : illOf (b : Int) = true) : (decOf (a : Int)).same (decOf (b : Int)) = true := by
  have e1 := (same_iff _ _).1 (illD_fin ⟨a, ha⟩ h1)
  have e2 := (same_iff _ _).1 (illD_fin ⟨b, hb⟩ h2)
  simp only at e1 e2
  rw [e1, e2]; rfl
theorem encTo_none (f : Fm) (k : Nat) (h : ∀ j, j < k → hit f j = none) : encTo f k = none := by
  induction k with
  | zero => rfl
  | succ k ih => simp [encTo, ih (fun j hj => h j (by omega)), h k (by omega)]
theorem enc_of_dec (a : Nat) (ha : a < 256) (hi : illOf (a : Int) = false) : encA (decOf (a : Int)) = (a : Int) ∧ encB (decOf (a : Int)) = false ∧ encE (decOf (a : Int)) = 0 := by
  refine enc_hit _ a _ _ hi ha (encTo_none _ _ fun j hj => ?_) (by simp [hit, same_refl])
  have n : ¬ j = a := by omega
  simp [hit, dec_dec j a (by omega) ha hi, cb_dec j a (by omega) ha, n]
theorem enc_of_cb (a : Nat) (ha : a < 256) : encA (cbOf (a : Int)) = (a : Int) ∧ encB (cbOf (a : Int)) = true ∧ encE (cbOf (a : Int)) = 0 := by
  have k5 : ((cbOf (a : Int)).kind == 5) = false := by
    have := (kind_fin ⟨a, ha⟩).2.1
    simp only at this
    simp; omega
  refine enc_hit _ a _ _ k5 ha (encTo_none _ _ fun j hj => ?_) (by simp [hit, same_refl, dec_cb a a ha ha])
  have n : ¬ j = a := by omega
  simp [hit, dec_cb j a (by omega) ha, cb_cb j a (by omega) ha, n]
def illN (k : Nat) : Nat := (21739673434083163750237273747478550066349767290317292631102302958446708785152 >>> (k % 256)) % 2
theorem illN_fin : ∀ a : Fin 256, illOf (a.val : Int) = decide (illN a.val = 1) := by decide +kernel
def cnt (a : Nat) : Nat → Nat
  | 0 => 0
  | k + 1 => cnt a k + illN (a + k)
theorem cnt_fin : ∀ a : Fin 256, cnt a.val 256 = 11 := by decide +kernel
theorem cnt_le (a k : Nat) : cnt a k ≤ k := by
  induction k with
  | zero => exact Nat.le_refl 0
  | succ k ih =>
    have : illN (a + k) ≤ 1 := by unfold illN; omega
    simp only [cnt]; omega
theorem ill_at (a k : Nat) : illOf (((a : Int) + (k : Int)) % 256) = decide (illN (a + k) = 1) := by
  have e := illN_fin ⟨(a + k) % 256, Nat.mod_lt _ (by decide)⟩
  have e2 : illN ((a + k) % 256) = illN (a + k) := by unfold illN; rw [Nat.mod_mod]
  simp only at e
  rw [e2] at e
  rw [← e]
  congr 1
theorem cnt_yes (a k : Nat) (h : illN (a + k) = 1) : cnt a (k + 1) = cnt a k + 1 := by simp [cnt, h]
theorem cnt_no (a k : Nat) (h : ¬ illN (a + k) = 1) : cnt a (k + 1) = cnt a k := by
  have : illN (a + k) = 0 := by unfold illN at *; omega
  simp [cnt, this]
end Go.Proofs.YtcooghpjdjkmhabDoor
