/- Plain numbers of layer 14: what IrqTakes wants. -/
import Derived.Test.YtfgkchmnmnmccaaIq14
namespace Go.Proofs.Ytfgkchmnmnmccaa
open Go.RowKit
set_option linter.unusedVariables false

/-- What IrqTakes wants. -/
theorem low_fin : ∀ a : Fin 256, ∀ k : Fin 5, bitOf ((a.val : Int) % 32) (k.val : Int) = bitOf (a.val : Int) (k.val : Int) := by decide +kernel
theorem low_bit (a n : Int) (h0 : 0 ≤ a) (h1 : a ≤ 255) (h2 : 0 ≤ n) (h3 : n < 5) : bitOf (a % 32) n = bitOf a n :=
  fin85 (p := fun a n => bitOf (a % 32) n = bitOf a n) low_fin a n h0 h1 h2 h3
theorem lowp_fin : ∀ a : Fin 256, ∀ k : Fin 5, putOf (a.val : Int) (k.val : Int) true % 32 = putOf ((a.val : Int) % 32) (k.val : Int) true ∧ putOf (a.val : Int) (k.val : Int) false % 32 = putOf ((a.val : Int) % 32) (k.val : Int) false := by decide +kernel
theorem low_put (a n : Int) (h0 : 0 ≤ a) (h1 : a ≤ 255) (h2 : 0 ≤ n) (h3 : n < 5) : putOf a n true % 32 = putOf (a % 32) n true ∧ putOf a n false % 32 = putOf (a % 32) n false :=
  fin85 (p := fun a n => putOf a n true % 32 = putOf (a % 32) n true ∧ putOf a n false % 32 = putOf (a % 32) n false) lowp_fin a n h0 h1 h2 h3
theorem low_to (f e : Int) (f0 : 0 ≤ f) (f1 : f ≤ 255) (e0 : 0 ≤ e) (e1 : e ≤ 255) : ∀ k : Nat, k ≤ 5 → eachTo 4 (f % 32) (e % 32) k = eachTo 4 f e k
  | 0, _ => rfl
  | k + 1, h => by
    rw [pend_next, pend_next, low_to f e f0 f1 e0 e1 k (by omega), low_bit f k f0 f1 (by omega) (by omega), low_bit e k e0 e1 (by omega) (by omega)]
theorem low_pend (f e : Int) (f0 : 0 ≤ f) (f1 : f ≤ 255) (e0 : 0 ≤ e) (e1 : e ≤ 255) : pendP (f % 32) (e % 32) = pendP f e := low_to f e f0 f1 e0 e1 5 (by decide)
/-- A byte that is shifted down by less than 8 places, its last bit. -/
def dig (a : Int) (k : Nat) : Int := bits .and .u8 (a / 2 ^ k) 1
def noneTo (p : Int) : Nat → Bool
  | 0 => true
  | k + 1 => noneTo p k && (dig p k == 0)
def takesB (f e k : Int) : Bool :=
  let p := pendP (putOf f k true) e
  let q := pendP (putOf (putOf f k true) k false) e
  let b := 2 ^ k.toNat
  bits .or .u8 p b == bits .or .u8 q b && dig q k.toNat == 0 && dig p k.toNat == dig e k.toNat && (isP p == (p != 0)) && noneTo p (firstP p).toNat && (!isP p || decide (firstP p ≤ 4) && dig p (firstP p).toNat == 1) && decide (0 ≤ firstP p) && decide (firstP p ≤ 4)
theorem takes_fin : ∀ f e : Fin 32, ∀ k : Fin 5, takesB (f.val : Int) (e.val : Int) (k.val : Int) = true := by decide +kernel
theorem dig_fin : ∀ a : Fin 256, ∀ k : Fin 5, dig ((a.val : Int) % 32) (k.val : Int).toNat = dig (a.val : Int) (k.val : Int).toNat := by decide +kernel
theorem takes_all (f e k : Int) (f0 : 0 ≤ f) (f1 : f ≤ 255) (e0 : 0 ≤ e) (e1 : e ≤ 255) (k0 : 0 ≤ k) (k1 : k < 5) : takesB f e k = true := by
  have h := takes_fin ⟨(f % 32).toNat, by omega⟩ ⟨(e % 32).toNat, by omega⟩ ⟨k.toNat, by omega⟩
  have e2 : (((f % 32).toNat : Nat) : Int) = f % 32 := by omega
  have e3 : (((e % 32).toNat : Nat) : Int) = e % 32 := by omega
  have e4 : ((k.toNat : Nat) : Int) = k := by omega
  simp only [e2, e3, e4] at h
  have b1 := put_bd f k true f0 f1
  have b2 := put_bd (putOf f k true) k false b1.1 b1.2
  have d := fin85 (p := fun a n => dig (a % 32) n.toNat = dig a n.toNat) dig_fin e k e0 e1 k0 k1
  unfold takesB at h ⊢
  have l1 := low_pend (putOf f k true) e b1.1 b1.2 e0 e1
  have l2 := low_pend (putOf (putOf f k true) k false) e b2.1 b2.2 e0 e1
  rw [(low_put f k f0 f1 k0 k1).1] at l1
  rw [(low_put (putOf f k true) k b1.1 b1.2 k0 k1).2, (low_put f k f0 f1 k0 k1).1] at l2
  simp only [l1, l2, d] at h
  exact h
end Go.Proofs.Ytfgkchmnmnmccaa
