/-
  NARROWER THAN 'FOR EVERY INPUT', by the rows' own cells (each row's printed sentence says how): OpcodeDecodes: laid · OpcodePrefixes: laid · OpcodeIllegals: laid · OpcodeEncodes: laid · OpcodeBack: laid · OpcodeTimes: laid.
  DERIVED. THE GIVEN ROWS OF THIS SEAT. 6 by the template 'for every input the law returns true; each argument reads behind the call as it read before'; 0 by the template 'total and deterministic' (their statements: YtcooghpjdjkmhaaDoorTotals.lean).
  GIVEN WITH THE SEED: the statements are not yours to turn. If you find one false, say at which input.
  Laid BY PROGRAM, IN A SANDBOX (cutbox-rows.mjs): the forced cells as the released guide's own fill.sh prints them over the translation 2a7eeb5d502e91b2… (all of the seat's roots in one cut). By AI agents, Wed Nov 11 2026. No macro, syntax, notation, axiom, sorry.
-/
import Derived.Test.YtcooghpjdjkmhaaDoorChecked
import GoSem.Claim
import GoSem.ClaimJoined
import GoSem.ClaimMapViews
import Derived.JoinedTies
import Derived.KernelRfl
namespace Go.Proofs.YtcooghpjdjkmhaaDoor
/- THE CELL 'sum', in the pinned program and in every row, IS THE sha256 OF THE DUMP (.gsa) THAT YtcooghpjdjkmhaaDoorProg.lean LOADS. Nothing in Lean hashes anything: it is a label: what it is worth is what the hold of that sum in a sandbox is worth. -/
noncomputable def Tryd.pinned : Pinned := { name := "ytcooghpjdjkmhaadoor", sum := "2a7eeb5d502e91b2869c0e794c4375cf545ab6f9a098ab55e549697b6f7a2517", checked := Tryd.checked }
namespace Rows
def none {H : Type} : Left H := { results := [], args := [] }

/- WHAT THE LISTED PACKAGE-LEVEL VARIABLES READ AS WHEN THE CALL BEGINS. Each datum BY PROGRAM (the guide's laid-datum.mjs) off the statement by which the dump's own 'gosem.cut.vars' lays the variable. In a bare row this is a premise. The card (YtcooghpjdjkmhaaDoorCards.lean) ties it to the program's text. -/
def laid_whirligig_opcode_prefixed {H : Type} : DataW H := .agg [.agg [.lit (.int .i64 43), .lit (.int .i64 4)], .agg [.lit (.int .i64 44), .lit (.int .i64 3)], .agg [.lit (.int .i64 45), .lit (.int .i64 4)], .agg [.lit (.int .i64 46), .lit (.int .i64 4)]]

/-- 'whirligiglaw05.OpcodeDecodes': WHATEVER THE INPUT: true; the input reads as it did. -/
def opcodeDecodesSpec : ChangeSpec := { name := "opcodeDecodes", fn := fun _ => fun
  | [d] => { results := [.lit (.bool true)], args := [d] }
  | _ => none }
def opcodeDecodesRow : OpenClaim := { program := "ytcooghpjdjkmhaadoor", sum := "2a7eeb5d502e91b2869c0e794c4375cf545ab6f9a098ab55e549697b6f7a2517", func := "whirligig/whirligiglaw05.OpcodeDecodes", spec := "opcodeDecodes", named := ["whirligig/opcode.prefixed"], apart := false, laid := [("whirligig/opcode.prefixed", laid_whirligig_opcode_prefixed)] }
def OpcodeDecodesSaid : Prop := opcodeDecodesRow.holds Tryd.pinned (OpenSpec.ofChange opcodeDecodesSpec)

/-- ITS FALSE NEIGHBOUR: 'it returns false'. Refute it at one input. -/
def opcodeDecodesWrong : ChangeSpec := { name := "opcodeDecodes", fn := fun _ => fun
  | [d] => { results := [.lit (.bool false)], args := [d] }
  | _ => none }
def OpcodeDecodesWrongFalsely : Prop := opcodeDecodesRow.holds Tryd.pinned (OpenSpec.ofChange opcodeDecodesWrong)

/-- 'whirligiglaw05.OpcodePrefixes': WHATEVER THE INPUT: true; the input reads as it did. -/
def opcodePrefixesSpec : ChangeSpec := { name := "opcodePrefixes", fn := fun _ => fun
  | [d] => { results := [.lit (.bool true)], args := [d] }
  | _ => none }
def opcodePrefixesRow : OpenClaim := { program := "ytcooghpjdjkmhaadoor", sum := "2a7eeb5d502e91b2869c0e794c4375cf545ab6f9a098ab55e549697b6f7a2517", func := "whirligig/whirligiglaw05.OpcodePrefixes", spec := "opcodePrefixes", named := ["whirligig/opcode.prefixed"], apart := false, laid := [("whirligig/opcode.prefixed", laid_whirligig_opcode_prefixed)] }
def OpcodePrefixesSaid : Prop := opcodePrefixesRow.holds Tryd.pinned (OpenSpec.ofChange opcodePrefixesSpec)

/-- ITS FALSE NEIGHBOUR: 'it returns false'. Refute it at one input. -/
def opcodePrefixesWrong : ChangeSpec := { name := "opcodePrefixes", fn := fun _ => fun
  | [d] => { results := [.lit (.bool false)], args := [d] }
  | _ => none }
def OpcodePrefixesWrongFalsely : Prop := opcodePrefixesRow.holds Tryd.pinned (OpenSpec.ofChange opcodePrefixesWrong)

/-- 'whirligiglaw05.OpcodeIllegals': WHATEVER THE INPUT: true; the input reads as it did. -/
def opcodeIllegalsSpec : ChangeSpec := { name := "opcodeIllegals", fn := fun _ => fun
  | [d] => { results := [.lit (.bool true)], args := [d] }
  | _ => none }
def opcodeIllegalsRow : OpenClaim := { program := "ytcooghpjdjkmhaadoor", sum := "2a7eeb5d502e91b2869c0e794c4375cf545ab6f9a098ab55e549697b6f7a2517", func := "whirligig/whirligiglaw05.OpcodeIllegals", spec := "opcodeIllegals", named := ["whirligig/opcode.prefixed"], apart := false, laid := [("whirligig/opcode.prefixed", laid_whirligig_opcode_prefixed)] }
def OpcodeIllegalsSaid : Prop := opcodeIllegalsRow.holds Tryd.pinned (OpenSpec.ofChange opcodeIllegalsSpec)

/-- ITS FALSE NEIGHBOUR: 'it returns false'. Refute it at one input. -/
def opcodeIllegalsWrong : ChangeSpec := { name := "opcodeIllegals", fn := fun _ => fun
  | [d] => { results := [.lit (.bool false)], args := [d] }
  | _ => none }
def OpcodeIllegalsWrongFalsely : Prop := opcodeIllegalsRow.holds Tryd.pinned (OpenSpec.ofChange opcodeIllegalsWrong)

/-- 'whirligiglaw05.OpcodeEncodes': WHATEVER THE INPUT: true; the input reads as it did. -/
def opcodeEncodesSpec : ChangeSpec := { name := "opcodeEncodes", fn := fun _ => fun
  | [d] => { results := [.lit (.bool true)], args := [d] }
  | _ => none }
def opcodeEncodesRow : OpenClaim := { program := "ytcooghpjdjkmhaadoor", sum := "2a7eeb5d502e91b2869c0e794c4375cf545ab6f9a098ab55e549697b6f7a2517", func := "whirligig/whirligiglaw05.OpcodeEncodes", spec := "opcodeEncodes", named := ["whirligig/opcode.prefixed"], apart := false, laid := [("whirligig/opcode.prefixed", laid_whirligig_opcode_prefixed)] }
def OpcodeEncodesSaid : Prop := opcodeEncodesRow.holds Tryd.pinned (OpenSpec.ofChange opcodeEncodesSpec)

/-- ITS FALSE NEIGHBOUR: 'it returns false'. Refute it at one input. -/
def opcodeEncodesWrong : ChangeSpec := { name := "opcodeEncodes", fn := fun _ => fun
  | [d] => { results := [.lit (.bool false)], args := [d] }
  | _ => none }
def OpcodeEncodesWrongFalsely : Prop := opcodeEncodesRow.holds Tryd.pinned (OpenSpec.ofChange opcodeEncodesWrong)

/-- 'whirligiglaw05.OpcodeBack': WHATEVER THE INPUT: true; the input reads as it did. -/
def opcodeBackSpec : ChangeSpec := { name := "opcodeBack", fn := fun _ => fun
  | [d] => { results := [.lit (.bool true)], args := [d] }
  | _ => none }
def opcodeBackRow : OpenClaim := { program := "ytcooghpjdjkmhaadoor", sum := "2a7eeb5d502e91b2869c0e794c4375cf545ab6f9a098ab55e549697b6f7a2517", func := "whirligig/whirligiglaw05.OpcodeBack", spec := "opcodeBack", named := ["whirligig/opcode.prefixed"], apart := false, laid := [("whirligig/opcode.prefixed", laid_whirligig_opcode_prefixed)] }
def OpcodeBackSaid : Prop := opcodeBackRow.holds Tryd.pinned (OpenSpec.ofChange opcodeBackSpec)

/-- ITS FALSE NEIGHBOUR: 'it returns false'. Refute it at one input. -/
def opcodeBackWrong : ChangeSpec := { name := "opcodeBack", fn := fun _ => fun
  | [d] => { results := [.lit (.bool false)], args := [d] }
  | _ => none }
def OpcodeBackWrongFalsely : Prop := opcodeBackRow.holds Tryd.pinned (OpenSpec.ofChange opcodeBackWrong)

/-- 'whirligiglaw05.OpcodeTimes': WHATEVER THE INPUT: true; the input reads as it did. -/
def opcodeTimesSpec : ChangeSpec := { name := "opcodeTimes", fn := fun _ => fun
  | [d] => { results := [.lit (.bool true)], args := [d] }
  | _ => none }
def opcodeTimesRow : OpenClaim := { program := "ytcooghpjdjkmhaadoor", sum := "2a7eeb5d502e91b2869c0e794c4375cf545ab6f9a098ab55e549697b6f7a2517", func := "whirligig/whirligiglaw05.OpcodeTimes", spec := "opcodeTimes", named := ["whirligig/opcode.prefixed"], apart := false, laid := [("whirligig/opcode.prefixed", laid_whirligig_opcode_prefixed)] }
def OpcodeTimesSaid : Prop := opcodeTimesRow.holds Tryd.pinned (OpenSpec.ofChange opcodeTimesSpec)

/-- ITS FALSE NEIGHBOUR: 'it returns false'. Refute it at one input. -/
def opcodeTimesWrong : ChangeSpec := { name := "opcodeTimes", fn := fun _ => fun
  | [d] => { results := [.lit (.bool false)], args := [d] }
  | _ => none }
def OpcodeTimesWrongFalsely : Prop := opcodeTimesRow.holds Tryd.pinned (OpenSpec.ofChange opcodeTimesWrong)

/- THE SECOND FORM. 'bulk': how many values and letters a reading holds, each counted each time it is reached (what is shared counts as often as it is met; a slice's spare places count too). A statement '..UptoSaid' is the law's where the arguments, and the package variables that the reading takes, are together of bulk at most 1048576: NARROWER than '..Said'. Prove '..Said' where nothing that the law and all that it calls make is longer than what came in: it says more and counts as full. Else prove '..UptoSaid'. A law counts once. -/
mutual
def uptoBulk {H : Type} : DataW H → Nat
  | .lit (.string bytes) => bytes.length + 1
  | .lit _ => 1
  | .nil => 1
  | .ptr d => uptoBulk d + 1
  | .slice elems spare => uptoBulkAll elems + uptoBulkAll spare + 1
  | .agg parts => uptoBulkAll parts + 1
  | .iface _ d => uptoBulk d + 1
  | .map entries => uptoBulkEntries entries + 1
  | .held _ => 1
def uptoBulkAll {H : Type} : List (DataW H) → Nat
  | [] => 0
  | d :: r => uptoBulk d + uptoBulkAll r
def uptoBulkEntries {H : Type} : List (Lit × DataW H) → Nat
  | [] => 0
  | x :: r => uptoBulkEntry x + uptoBulkEntries r
def uptoBulkEntry {H : Type} : Lit × DataW H → Nat
  | (.string bytes, d) => bytes.length + uptoBulk d + 1
  | (_, d) => uptoBulk d + 1
 end
def uptoSmall : (H : Type) → List (DataW H) → Bool := fun _ ds => decide (uptoBulkAll ds ≤ 1048576)
def OpenSpec.upto (s : _root_.Go.ChangeSpec) : _root_.Go.OpenSpec := { _root_.Go.OpenSpec.ofChange s with cond := some uptoSmall }

/-- 'whirligiglaw05.OpcodeDecodes', WHERE WHAT IT READS IS OF BULK AT MOST 1048576: true; the input reads as it did. -/
def opcodeDecodesUptoRow : OpenClaim := { program := "ytcooghpjdjkmhaadoor", sum := "2a7eeb5d502e91b2869c0e794c4375cf545ab6f9a098ab55e549697b6f7a2517", func := "whirligig/whirligiglaw05.OpcodeDecodes", spec := "opcodeDecodes", named := ["whirligig/opcode.prefixed"], apart := false, laid := [("whirligig/opcode.prefixed", laid_whirligig_opcode_prefixed)], narrowed := true }
def OpcodeDecodesUptoSaid : Prop := opcodeDecodesUptoRow.holds Tryd.pinned (OpenSpec.upto opcodeDecodesSpec)

/-- 'whirligiglaw05.OpcodePrefixes', WHERE WHAT IT READS IS OF BULK AT MOST 1048576: true; the input reads as it did. -/
def opcodePrefixesUptoRow : OpenClaim := { program := "ytcooghpjdjkmhaadoor", sum := "2a7eeb5d502e91b2869c0e794c4375cf545ab6f9a098ab55e549697b6f7a2517", func := "whirligig/whirligiglaw05.OpcodePrefixes", spec := "opcodePrefixes", named := ["whirligig/opcode.prefixed"], apart := false, laid := [("whirligig/opcode.prefixed", laid_whirligig_opcode_prefixed)], narrowed := true }
def OpcodePrefixesUptoSaid : Prop := opcodePrefixesUptoRow.holds Tryd.pinned (OpenSpec.upto opcodePrefixesSpec)

/-- 'whirligiglaw05.OpcodeIllegals', WHERE WHAT IT READS IS OF BULK AT MOST 1048576: true; the input reads as it did. -/
def opcodeIllegalsUptoRow : OpenClaim := { program := "ytcooghpjdjkmhaadoor", sum := "2a7eeb5d502e91b2869c0e794c4375cf545ab6f9a098ab55e549697b6f7a2517", func := "whirligig/whirligiglaw05.OpcodeIllegals", spec := "opcodeIllegals", named := ["whirligig/opcode.prefixed"], apart := false, laid := [("whirligig/opcode.prefixed", laid_whirligig_opcode_prefixed)], narrowed := true }
def OpcodeIllegalsUptoSaid : Prop := opcodeIllegalsUptoRow.holds Tryd.pinned (OpenSpec.upto opcodeIllegalsSpec)

/-- 'whirligiglaw05.OpcodeEncodes', WHERE WHAT IT READS IS OF BULK AT MOST 1048576: true; the input reads as it did. -/
def opcodeEncodesUptoRow : OpenClaim := { program := "ytcooghpjdjkmhaadoor", sum := "2a7eeb5d502e91b2869c0e794c4375cf545ab6f9a098ab55e549697b6f7a2517", func := "whirligig/whirligiglaw05.OpcodeEncodes", spec := "opcodeEncodes", named := ["whirligig/opcode.prefixed"], apart := false, laid := [("whirligig/opcode.prefixed", laid_whirligig_opcode_prefixed)], narrowed := true }
def OpcodeEncodesUptoSaid : Prop := opcodeEncodesUptoRow.holds Tryd.pinned (OpenSpec.upto opcodeEncodesSpec)

/-- 'whirligiglaw05.OpcodeBack', WHERE WHAT IT READS IS OF BULK AT MOST 1048576: true; the input reads as it did. -/
def opcodeBackUptoRow : OpenClaim := { program := "ytcooghpjdjkmhaadoor", sum := "2a7eeb5d502e91b2869c0e794c4375cf545ab6f9a098ab55e549697b6f7a2517", func := "whirligig/whirligiglaw05.OpcodeBack", spec := "opcodeBack", named := ["whirligig/opcode.prefixed"], apart := false, laid := [("whirligig/opcode.prefixed", laid_whirligig_opcode_prefixed)], narrowed := true }
def OpcodeBackUptoSaid : Prop := opcodeBackUptoRow.holds Tryd.pinned (OpenSpec.upto opcodeBackSpec)

/-- 'whirligiglaw05.OpcodeTimes', WHERE WHAT IT READS IS OF BULK AT MOST 1048576: true; the input reads as it did. -/
def opcodeTimesUptoRow : OpenClaim := { program := "ytcooghpjdjkmhaadoor", sum := "2a7eeb5d502e91b2869c0e794c4375cf545ab6f9a098ab55e549697b6f7a2517", func := "whirligig/whirligiglaw05.OpcodeTimes", spec := "opcodeTimes", named := ["whirligig/opcode.prefixed"], apart := false, laid := [("whirligig/opcode.prefixed", laid_whirligig_opcode_prefixed)], narrowed := true }
def OpcodeTimesUptoSaid : Prop := opcodeTimesUptoRow.holds Tryd.pinned (OpenSpec.upto opcodeTimesSpec)

end Rows
end Go.Proofs.YtcooghpjdjkmhaaDoor
