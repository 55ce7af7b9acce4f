/-
  NARROWER THAN 'FOR EVERY INPUT', by the rows' own cells (each row's printed sentence says how): OpcodeApart: laid · OpcodeCounts: laid.
  DERIVED. THE GIVEN ROWS OF THIS SEAT. 2 by the template 'for every input the law returns true; each argument reads behind the call as it read before'; 0 by the template 'total and deterministic' (their statements: YtcooghpjdjkmhabDoorTotals.lean).
  GIVEN WITH THE SEED: the statements are not yours to turn. If you find one false, say at which input.
  Laid BY PROGRAM, IN A SANDBOX (cutbox-rows.mjs): the forced cells as the released guide's own fill.sh prints them over the translation 04da3863e861e081… (all of the seat's roots in one cut). By AI agents, Wed Nov 11 2026. No macro, syntax, notation, axiom, sorry.
-/
import Derived.Test.YtcooghpjdjkmhabDoorChecked
import GoSem.Claim
import GoSem.ClaimJoined
import GoSem.ClaimMapViews
import Derived.JoinedTies
import Derived.KernelRfl
namespace Go.Proofs.YtcooghpjdjkmhabDoor
/- THE CELL 'sum', in the pinned program and in every row, IS THE sha256 OF THE DUMP (.gsa) THAT YtcooghpjdjkmhabDoorProg.lean LOADS. Nothing in Lean hashes anything: it is a label: what it is worth is what the hold of that sum in a sandbox is worth. -/
noncomputable def Tryd.pinned : Pinned := { name := "ytcooghpjdjkmhabdoor", sum := "04da3863e861e0812542b0a6aad256b33bcce5ee5263ca67d2dd8216b539089d", checked := Tryd.checked }
namespace Rows
def none {H : Type} : Left H := { results := [], args := [] }

/- WHAT THE LISTED PACKAGE-LEVEL VARIABLES READ AS WHEN THE CALL BEGINS. Each datum BY PROGRAM (the guide's laid-datum.mjs) off the statement by which the dump's own 'gosem.cut.vars' lays the variable. In a bare row this is a premise. The card (YtcooghpjdjkmhabDoorCards.lean) ties it to the program's text. -/
def laid_whirligig_opcode_prefixed {H : Type} : DataW H := .agg [.agg [.lit (.int .i64 43), .lit (.int .i64 4)], .agg [.lit (.int .i64 44), .lit (.int .i64 3)], .agg [.lit (.int .i64 45), .lit (.int .i64 4)], .agg [.lit (.int .i64 46), .lit (.int .i64 4)]]

/-- 'whirligiglaw05.OpcodeApart': WHATEVER THE INPUT: true; the input reads as it did. -/
def opcodeApartSpec : ChangeSpec := { name := "opcodeApart", fn := fun _ => fun
  | [d1, d2] => { results := [.lit (.bool true)], args := [d1, d2] }
  | _ => none }
def opcodeApartRow : OpenClaim := { program := "ytcooghpjdjkmhabdoor", sum := "04da3863e861e0812542b0a6aad256b33bcce5ee5263ca67d2dd8216b539089d", func := "whirligig/whirligiglaw05.OpcodeApart", spec := "opcodeApart", named := ["whirligig/opcode.prefixed"], apart := false, laid := [("whirligig/opcode.prefixed", laid_whirligig_opcode_prefixed)] }
def OpcodeApartSaid : Prop := opcodeApartRow.holds Tryd.pinned (OpenSpec.ofChange opcodeApartSpec)

/-- ITS FALSE NEIGHBOUR: 'it returns false'. Refute it at one input. -/
def opcodeApartWrong : ChangeSpec := { name := "opcodeApart", fn := fun _ => fun
  | [d1, d2] => { results := [.lit (.bool false)], args := [d1, d2] }
  | _ => none }
def OpcodeApartWrongFalsely : Prop := opcodeApartRow.holds Tryd.pinned (OpenSpec.ofChange opcodeApartWrong)

/-- 'whirligiglaw05.OpcodeCounts': WHATEVER THE INPUT: true; the input reads as it did. -/
def opcodeCountsSpec : ChangeSpec := { name := "opcodeCounts", fn := fun _ => fun
  | [d] => { results := [.lit (.bool true)], args := [d] }
  | _ => none }
def opcodeCountsRow : OpenClaim := { program := "ytcooghpjdjkmhabdoor", sum := "04da3863e861e0812542b0a6aad256b33bcce5ee5263ca67d2dd8216b539089d", func := "whirligig/whirligiglaw05.OpcodeCounts", spec := "opcodeCounts", named := ["whirligig/opcode.prefixed"], apart := false, laid := [("whirligig/opcode.prefixed", laid_whirligig_opcode_prefixed)] }
def OpcodeCountsSaid : Prop := opcodeCountsRow.holds Tryd.pinned (OpenSpec.ofChange opcodeCountsSpec)

/-- ITS FALSE NEIGHBOUR: 'it returns false'. Refute it at one input. -/
def opcodeCountsWrong : ChangeSpec := { name := "opcodeCounts", fn := fun _ => fun
  | [d] => { results := [.lit (.bool false)], args := [d] }
  | _ => none }
def OpcodeCountsWrongFalsely : Prop := opcodeCountsRow.holds Tryd.pinned (OpenSpec.ofChange opcodeCountsWrong)

/- THE SECOND FORM. 'bulk': how many values and letters a reading holds, each counted each time it is reached (what is shared counts as often as it is met; a slice's spare places count too). A statement '..UptoSaid' is the law's where the arguments, and the package variables that the reading takes, are together of bulk at most 1048576: NARROWER than '..Said'. Prove '..Said' where nothing that the law and all that it calls make is longer than what came in: it says more and counts as full. Else prove '..UptoSaid'. A law counts once. -/
mutual
def uptoBulk {H : Type} : DataW H → Nat
  | .lit (.string bytes) => bytes.length + 1
  | .lit _ => 1
  | .nil => 1
  | .ptr d => uptoBulk d + 1
  | .slice elems spare => uptoBulkAll elems + uptoBulkAll spare + 1
  | .agg parts => uptoBulkAll parts + 1
  | .iface _ d => uptoBulk d + 1
  | .map entries => uptoBulkEntries entries + 1
  | .held _ => 1
def uptoBulkAll {H : Type} : List (DataW H) → Nat
  | [] => 0
  | d :: r => uptoBulk d + uptoBulkAll r
def uptoBulkEntries {H : Type} : List (Lit × DataW H) → Nat
  | [] => 0
  | x :: r => uptoBulkEntry x + uptoBulkEntries r
def uptoBulkEntry {H : Type} : Lit × DataW H → Nat
  | (.string bytes, d) => bytes.length + uptoBulk d + 1
  | (_, d) => uptoBulk d + 1
 end
def uptoSmall : (H : Type) → List (DataW H) → Bool := fun _ ds => decide (uptoBulkAll ds ≤ 1048576)
def OpenSpec.upto (s : _root_.Go.ChangeSpec) : _root_.Go.OpenSpec := { _root_.Go.OpenSpec.ofChange s with cond := some uptoSmall }

/-- 'whirligiglaw05.OpcodeApart', WHERE WHAT IT READS IS OF BULK AT MOST 1048576: true; the input reads as it did. -/
def opcodeApartUptoRow : OpenClaim := { program := "ytcooghpjdjkmhabdoor", sum := "04da3863e861e0812542b0a6aad256b33bcce5ee5263ca67d2dd8216b539089d", func := "whirligig/whirligiglaw05.OpcodeApart", spec := "opcodeApart", named := ["whirligig/opcode.prefixed"], apart := false, laid := [("whirligig/opcode.prefixed", laid_whirligig_opcode_prefixed)], narrowed := true }
def OpcodeApartUptoSaid : Prop := opcodeApartUptoRow.holds Tryd.pinned (OpenSpec.upto opcodeApartSpec)

/-- 'whirligiglaw05.OpcodeCounts', WHERE WHAT IT READS IS OF BULK AT MOST 1048576: true; the input reads as it did. -/
def opcodeCountsUptoRow : OpenClaim := { program := "ytcooghpjdjkmhabdoor", sum := "04da3863e861e0812542b0a6aad256b33bcce5ee5263ca67d2dd8216b539089d", func := "whirligig/whirligiglaw05.OpcodeCounts", spec := "opcodeCounts", named := ["whirligig/opcode.prefixed"], apart := false, laid := [("whirligig/opcode.prefixed", laid_whirligig_opcode_prefixed)], narrowed := true }
def OpcodeCountsUptoSaid : Prop := opcodeCountsUptoRow.holds Tryd.pinned (OpenSpec.upto opcodeCountsSpec)

end Rows
end Go.Proofs.YtcooghpjdjkmhabDoor
