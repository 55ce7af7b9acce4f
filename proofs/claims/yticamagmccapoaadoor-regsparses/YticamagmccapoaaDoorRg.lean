/- The registers as plain numbers: what is got and put by a number, and pairs. -/
import Derived.WalkKit
import Derived.ProofKit
import Derived.Test.YticamagmccapoaaDoorBits
namespace Go.Proofs.YticamagmccapoaaDoor

structure Rg where
  a : Int
  f : Int
  b : Int
  c : Int
  d : Int
  e : Int
  h : Int
  l : Int
  s : Int
  p : Int

def Rg.ok (r : Rg) : Prop := (0 ≤ r.a ∧ r.a ≤ 255) ∧ (0 ≤ r.f ∧ r.f ≤ 255) ∧ (0 ≤ r.b ∧ r.b ≤ 255) ∧ (0 ≤ r.c ∧ r.c ≤ 255) ∧ (0 ≤ r.d ∧ r.d ≤ 255) ∧ (0 ≤ r.e ∧ r.e ≤ 255) ∧ (0 ≤ r.h ∧ r.h ≤ 255) ∧ (0 ≤ r.l ∧ r.l ≤ 255) ∧ (0 ≤ r.s ∧ r.s ≤ 65535) ∧ (0 ≤ r.p ∧ r.p ≤ 65535)
def mayOf (n : Int) : Int := if n = 6 then 7 else if n < 0 ∨ 7 < n then 1 else 0
def getOf (n : Int) (r : Rg) : Int := if n = 0 then r.b else if n = 1 then r.c else if n = 2 then r.d else if n = 3 then r.e else if n = 4 then r.h else if n = 5 then r.l else if n = 7 then r.a else 0
def zeroR : Rg := ⟨0, 0, 0, 0, 0, 0, 0, 0, 0, 0⟩
def putR (n v : Int) (r : Rg) : Rg := if n = 0 then { r with b := v } else if n = 1 then { r with c := v } else if n = 2 then { r with d := v } else if n = 3 then { r with e := v } else if n = 4 then { r with h := v } else if n = 5 then { r with l := v } else if n = 7 then { r with a := v } else zeroR
def pairErr (n : Int) : Int := if n < 0 ∨ 4 < n then 1 else 0
def pairOf (n : Int) (r : Rg) : Int := if n = 0 then r.b * 256 + r.c else if n = 1 then r.d * 256 + r.e else if n = 2 then r.h * 256 + r.l else if n = 3 then r.s else if n = 4 then r.a * 256 + r.f else 0
def putP (n v : Int) (r : Rg) : Rg := if n = 0 then { r with b := v / 256, c := v % 256 } else if n = 1 then { r with d := v / 256, e := v % 256 } else if n = 2 then { r with h := v / 256, l := v % 256 } else if n = 3 then { r with s := v } else if n = 4 then { r with a := v / 256, f := v % 256 / 16 * 16 } else zeroR
def hiOf (n : Int) : Int := if n = 0 then 0 else if n = 1 then 2 else if n = 2 then 4 else if n = 4 then 7 else 0
def loOf (n : Int) : Int := if n = 0 then 1 else if n = 1 then 3 else if n = 2 then 5 else if n = 4 then 6 else 0
def okOf (n : Int) : Bool := if n = 0 then true else if n = 1 then true else if n = 2 then true else if n = 4 then true else false
theorem pair_bd {r : Rg} (ok : r.ok) (n : Int) : 0 ≤ pairOf n r ∧ pairOf n r ≤ 65535 := by
  obtain ⟨⟨ha0, ha1⟩, ⟨hf0, hf1⟩, ⟨hb0, hb1⟩, ⟨hc0, hc1⟩, ⟨hd0, hd1⟩, ⟨he0, he1⟩, ⟨hh0, hh1⟩, ⟨hl0, hl1⟩, ⟨hs0, hs1⟩, ⟨hp0, hp1⟩⟩ := ok
  unfold pairOf
  repeat' split
  all_goals omega
theorem num_cases (n : Int) (k : Nat) : (∃ i : Fin k, n = i.val) ∨ n < 0 ∨ (k : Int) ≤ n := by
  by_cases h0 : n < 0
  · exact Or.inr (Or.inl h0)
  · by_cases h1 : (k : Int) ≤ n
    · exact Or.inr (Or.inr h1)
    · exact Or.inl ⟨⟨n.toNat, by omega⟩, by simp; omega⟩
end Go.Proofs.YticamagmccapoaaDoor
