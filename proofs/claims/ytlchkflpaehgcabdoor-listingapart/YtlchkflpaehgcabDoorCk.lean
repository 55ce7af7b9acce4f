/- What form and Text of the document's answers of layer 6 come to. What One of the document's answers of layer 6 comes to. What Lines of the document's answers of layer 6 comes to. -/
import Derived.Test.YtlchkflpaehgcabDoorCj
import Derived.Test.YtlchkflpaehgcabDoorCg
import Derived.Test.YtlchkflpaehgcabDoorCi
import Derived.Deep.RegionHeld3
import Derived.Test.YtlchkflpaehgcabDoorCb
namespace Go.Proofs.YtlchkflpaehgcabDoor
open Go.RowKit
set_option linter.unusedVariables false
set_option linter.unusedSimpArgs false

def fOf (op : Int) (cb : Bool) : Fm := if cb then cbOf op else decOf op
def isLet (c : Nat) : Bool := decide (97 ≤ c) && decide (c ≤ 122)
def patOk (f : Fm) : Bool := decide (0 ≤ f.kind) && decide (f.kind ≤ 46) && decide ((patT f.kind (f.x == 4)).length ≤ 12) && (patT f.kind (f.x == 4)).all (fun c => decide (c < 256) && (!isLet c || meansOk f c))
theorem patD_fin : ∀ a : Fin 256, patOk (decOf (a.val : Int)) = true := by decide +kernel
theorem patC_fin : ∀ a : Fin 256, patOk (cbOf (a.val : Int)) = true := by decide +kernel
theorem pat_ok (op : Int) (cb : Bool) (h0 : 0 ≤ op) (h1 : op ≤ 255) : patOk (fOf op cb) = true ∧ textT (fOf op cb) op (patT (fOf op cb).kind ((fOf op cb).x == 4)) = toksOf op cb := by
  cases cb
  · exact ⟨fin8 (p := fun a => patOk (decOf a) = true) patD_fin op h0 h1, fin8 (p := fun a => textT (decOf a) a (patT (decOf a).kind ((decOf a).x == 4)) = toksOf a false) lineD_fin op h0 h1⟩
  · exact ⟨fin8 (p := fun a => patOk (cbOf a) = true) patC_fin op h0 h1, fin8 (p := fun a => textT (cbOf a) a (patT (cbOf a).kind ((cbOf a).x == 4)) = toksOf a true) lineC_fin op h0 h1⟩
theorem means_len (f : Fm) (op : Int) (c : Nat) : (meansT f op c).length ≤ 5 := by
  unfold meansT
  split
  · exact (getD_all regL f.x.toNat (by decide)).2
  split
  · exact (getD_all regL f.y.toNat (by decide)).2
  split
  · exact (getD_all pairL f.x.toNat (by decide)).2
  split
  · exact (getD_all condL f.x.toNat (by decide)).2
  split
  · exact (getD_all quadL f.x.toNat (by decide)).2
  split
  · exact (getD_all operL f.x.toNat (by decide)).2
  split
  · exact (getD_all shiftL f.x.toNat (by decide)).2
  split
  · simp
  split
  · simp [hexT, hex8Of]
  split
  · simp [hexT, hex8Of]
  split <;> simp
theorem text_len (f : Fm) (op : Int) (l : List Nat) : (textT f op l).length ≤ 5 * l.length := by
  induction l with
  | nil => simp [textT]
  | cons a l ih =>
    have h : (signT f op a).length ≤ 5 := by
      unfold signT
      split
      · exact means_len f op a
      · simp
    simp only [textT, List.flatMap_cons, List.length_append, List.length_cons] at *
    omega
theorem sg_bs (l : List Nat) (k : Nat) (h : k < l.length) (hs : l[k] < 256) : sg (bs l) k = ((l[k] : Nat) : Int) := by
  unfold sg bs
  have h2 : k < (l.map UInt8.ofNat).length := by simpa using h
  rw [List.getD_eq_getElem?_getD]
  simp only [List.getElem?_eq_getElem h2, Option.getD_some, List.getElem_map]
  rw [UInt8.toNat_ofNat_of_lt' (by simpa using hs)]
theorem bs_size (l : List Nat) : (bs l).size = l.length := by simp [bs, ByteArray.size]
theorem bs_ext (l : List Nat) (k : Nat) (h : k < l.length) : (bs l).extract k (k + 1) = bs [l[k]] := by
  have h2 : k < (l.map UInt8.ofNat).length := by simpa using h
  apply ByteArray.ext
  apply Array.toList_inj.1
  rw [ByteArray.data_extract]
  simp [bs, List.extract]
  rw [List.drop_eq_getElem_cons h2]
  simp
theorem take_one (l : List Nat) (k : Nat) (h : k < l.length) : l.take (k + 1) = l.take k ++ [l[k]] := by
  rw [List.take_add_one, List.getElem?_eq_getElem h]; rfl
end Go.Proofs.YtlchkflpaehgcabDoor
namespace Go.Proofs.YtlchkflpaehgcabDoor
open Go.RowKit
set_option linter.unusedVariables false
set_option linter.unusedSimpArgs false

end Go.Proofs.YtlchkflpaehgcabDoor
namespace Go.Proofs.YtlchkflpaehgcabDoor
open Go.RowKit
set_option linter.unusedVariables false
set_option linter.unusedSimpArgs false

theorem info_string : (Tryd.prog.info? 9).map (fun i => (i.zero, i.size, i.bytes)) = some (some (.string ByteArray.empty), 1, 16) := by kernel_rfl
end Go.Proofs.YtlchkflpaehgcabDoor
