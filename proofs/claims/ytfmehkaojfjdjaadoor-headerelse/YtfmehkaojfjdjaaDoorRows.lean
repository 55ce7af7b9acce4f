/-
  NARROWER THAN 'FOR EVERY INPUT', by the rows' own cells (each row's printed sentence says how): HeaderParses: laid · HeaderSums: laid · HeaderMakes: laid · HeaderBack: laid · HeaderTurned: laid · HeaderElse: laid.
  DERIVED. THE GIVEN ROWS OF THIS SEAT. 6 by the template 'for every input the law returns true; each argument reads behind the call as it read before'; 0 by the template 'total and deterministic' (their statements: YtfmehkaojfjdjaaDoorTotals.lean).
  GIVEN WITH THE SEED: the statements are not yours to turn. If you find one false, say at which input.
  Laid BY PROGRAM, IN A SANDBOX (cutbox-rows.mjs): the forced cells as the released guide's own fill.sh prints them over the translation 544f6a6d464f978d… (all of the seat's roots in one cut). By AI agents, Wed Nov 11 2026. No macro, syntax, notation, axiom, sorry.
-/
import Derived.Test.YtfmehkaojfjdjaaDoorChecked
import GoSem.Claim
import GoSem.ClaimJoined
import GoSem.ClaimMapViews
import Derived.JoinedTies
import Derived.KernelRfl
namespace Go.Proofs.YtfmehkaojfjdjaaDoor
/- THE CELL 'sum', in the pinned program and in every row, IS THE sha256 OF THE DUMP (.gsa) THAT YtfmehkaojfjdjaaDoorProg.lean LOADS. Nothing in Lean hashes anything: it is a label: what it is worth is what the hold of that sum in a sandbox is worth. -/
noncomputable def Tryd.pinned : Pinned := { name := "ytfmehkaojfjdjaadoor", sum := "544f6a6d464f978d35cd3d353f4c50aa402ea08f4272779101d418abdcf7ad98", checked := Tryd.checked }
namespace Rows
def none {H : Type} : Left H := { results := [], args := [] }

/- WHAT THE LISTED PACKAGE-LEVEL VARIABLES READ AS WHEN THE CALL BEGINS. Each datum BY PROGRAM (the guide's laid-datum.mjs) off the statement by which the dump's own 'gosem.cut.vars' lays the variable. In a bare row this is a premise. The card (YtfmehkaojfjdjaaDoorCards.lean) ties it to the program's text. -/
def laid_whirligig_header_kinds {H : Type} : DataW H := .agg [.agg [.lit (.int .u8 0), .lit (.int .i64 0), .lit (.bool false), .lit (.bool false), .lit (.bool false)], .agg [.lit (.int .u8 8), .lit (.int .i64 0), .lit (.bool true), .lit (.bool false), .lit (.bool false)], .agg [.lit (.int .u8 9), .lit (.int .i64 0), .lit (.bool true), .lit (.bool true), .lit (.bool false)], .agg [.lit (.int .u8 1), .lit (.int .i64 1), .lit (.bool false), .lit (.bool false), .lit (.bool false)], .agg [.lit (.int .u8 2), .lit (.int .i64 1), .lit (.bool true), .lit (.bool false), .lit (.bool false)], .agg [.lit (.int .u8 3), .lit (.int .i64 1), .lit (.bool true), .lit (.bool true), .lit (.bool false)], .agg [.lit (.int .u8 15), .lit (.int .i64 3), .lit (.bool false), .lit (.bool true), .lit (.bool true)], .agg [.lit (.int .u8 16), .lit (.int .i64 3), .lit (.bool true), .lit (.bool true), .lit (.bool true)], .agg [.lit (.int .u8 17), .lit (.int .i64 3), .lit (.bool false), .lit (.bool false), .lit (.bool false)], .agg [.lit (.int .u8 18), .lit (.int .i64 3), .lit (.bool true), .lit (.bool false), .lit (.bool false)], .agg [.lit (.int .u8 19), .lit (.int .i64 3), .lit (.bool true), .lit (.bool true), .lit (.bool false)], .agg [.lit (.int .u8 25), .lit (.int .i64 5), .lit (.bool false), .lit (.bool false), .lit (.bool false)], .agg [.lit (.int .u8 26), .lit (.int .i64 5), .lit (.bool true), .lit (.bool false), .lit (.bool false)], .agg [.lit (.int .u8 27), .lit (.int .i64 5), .lit (.bool true), .lit (.bool true), .lit (.bool false)], .agg [.lit (.int .u8 28), .lit (.int .i64 5), .lit (.bool false), .lit (.bool false), .lit (.bool false)], .agg [.lit (.int .u8 29), .lit (.int .i64 5), .lit (.bool true), .lit (.bool false), .lit (.bool false)], .agg [.lit (.int .u8 30), .lit (.int .i64 5), .lit (.bool true), .lit (.bool true), .lit (.bool false)]]
def laid_whirligig_header_ramSizes {H : Type} : DataW H := .agg [.lit (.int .i64 0), .lit (.int .i64 2048), .lit (.int .i64 8192), .lit (.int .i64 32768), .lit (.int .i64 131072), .lit (.int .i64 65536)]

/-- 'whirligiglaw07.HeaderParses': WHATEVER THE INPUT: true; the input reads as it did. -/
def headerParsesSpec : ChangeSpec := { name := "headerParses", fn := fun _ => fun
  | [d] => { results := [.lit (.bool true)], args := [d] }
  | _ => none }
def headerParsesRow : OpenClaim := { program := "ytfmehkaojfjdjaadoor", sum := "544f6a6d464f978d35cd3d353f4c50aa402ea08f4272779101d418abdcf7ad98", func := "whirligig/whirligiglaw07.HeaderParses", spec := "headerParses", unfollowed := true, recurses := true, named := ["whirligig/header.kinds", "whirligig/header.ramSizes"], apart := false, laid := [("whirligig/header.kinds", laid_whirligig_header_kinds), ("whirligig/header.ramSizes", laid_whirligig_header_ramSizes)] }
def HeaderParsesSaid : Prop := headerParsesRow.holds Tryd.pinned (OpenSpec.ofChange headerParsesSpec)

/-- ITS FALSE NEIGHBOUR: 'it returns false'. Refute it at one input. -/
def headerParsesWrong : ChangeSpec := { name := "headerParses", fn := fun _ => fun
  | [d] => { results := [.lit (.bool false)], args := [d] }
  | _ => none }
def HeaderParsesWrongFalsely : Prop := headerParsesRow.holds Tryd.pinned (OpenSpec.ofChange headerParsesWrong)

/-- 'whirligiglaw07.HeaderSums': WHATEVER THE INPUT: true; the input reads as it did. -/
def headerSumsSpec : ChangeSpec := { name := "headerSums", fn := fun _ => fun
  | [d] => { results := [.lit (.bool true)], args := [d] }
  | _ => none }
def headerSumsRow : OpenClaim := { program := "ytfmehkaojfjdjaadoor", sum := "544f6a6d464f978d35cd3d353f4c50aa402ea08f4272779101d418abdcf7ad98", func := "whirligig/whirligiglaw07.HeaderSums", spec := "headerSums", unfollowed := true, recurses := true, named := ["whirligig/header.kinds", "whirligig/header.ramSizes"], apart := false, laid := [("whirligig/header.kinds", laid_whirligig_header_kinds), ("whirligig/header.ramSizes", laid_whirligig_header_ramSizes)] }
def HeaderSumsSaid : Prop := headerSumsRow.holds Tryd.pinned (OpenSpec.ofChange headerSumsSpec)

/-- ITS FALSE NEIGHBOUR: 'it returns false'. Refute it at one input. -/
def headerSumsWrong : ChangeSpec := { name := "headerSums", fn := fun _ => fun
  | [d] => { results := [.lit (.bool false)], args := [d] }
  | _ => none }
def HeaderSumsWrongFalsely : Prop := headerSumsRow.holds Tryd.pinned (OpenSpec.ofChange headerSumsWrong)

/-- 'whirligiglaw07.HeaderMakes': WHATEVER THE INPUT: true; the input reads as it did. -/
def headerMakesSpec : ChangeSpec := { name := "headerMakes", fn := fun _ => fun
  | [d] => { results := [.lit (.bool true)], args := [d] }
  | _ => none }
def headerMakesRow : OpenClaim := { program := "ytfmehkaojfjdjaadoor", sum := "544f6a6d464f978d35cd3d353f4c50aa402ea08f4272779101d418abdcf7ad98", func := "whirligig/whirligiglaw07.HeaderMakes", spec := "headerMakes", unfollowed := true, recurses := true, named := ["whirligig/header.kinds", "whirligig/header.ramSizes"], apart := false, laid := [("whirligig/header.kinds", laid_whirligig_header_kinds), ("whirligig/header.ramSizes", laid_whirligig_header_ramSizes)] }
def HeaderMakesSaid : Prop := headerMakesRow.holds Tryd.pinned (OpenSpec.ofChange headerMakesSpec)

/-- ITS FALSE NEIGHBOUR: 'it returns false'. Refute it at one input. -/
def headerMakesWrong : ChangeSpec := { name := "headerMakes", fn := fun _ => fun
  | [d] => { results := [.lit (.bool false)], args := [d] }
  | _ => none }
def HeaderMakesWrongFalsely : Prop := headerMakesRow.holds Tryd.pinned (OpenSpec.ofChange headerMakesWrong)

/-- 'whirligiglaw07.HeaderBack': WHATEVER THE INPUT: true; the input reads as it did. -/
def headerBackSpec : ChangeSpec := { name := "headerBack", fn := fun _ => fun
  | [d] => { results := [.lit (.bool true)], args := [d] }
  | _ => none }
def headerBackRow : OpenClaim := { program := "ytfmehkaojfjdjaadoor", sum := "544f6a6d464f978d35cd3d353f4c50aa402ea08f4272779101d418abdcf7ad98", func := "whirligig/whirligiglaw07.HeaderBack", spec := "headerBack", unfollowed := true, recurses := true, named := ["whirligig/header.kinds", "whirligig/header.ramSizes"], apart := false, laid := [("whirligig/header.kinds", laid_whirligig_header_kinds), ("whirligig/header.ramSizes", laid_whirligig_header_ramSizes)] }
def HeaderBackSaid : Prop := headerBackRow.holds Tryd.pinned (OpenSpec.ofChange headerBackSpec)

/-- ITS FALSE NEIGHBOUR: 'it returns false'. Refute it at one input. -/
def headerBackWrong : ChangeSpec := { name := "headerBack", fn := fun _ => fun
  | [d] => { results := [.lit (.bool false)], args := [d] }
  | _ => none }
def HeaderBackWrongFalsely : Prop := headerBackRow.holds Tryd.pinned (OpenSpec.ofChange headerBackWrong)

/-- 'whirligiglaw07.HeaderTurned': WHATEVER THE INPUT: true; the input reads as it did. -/
def headerTurnedSpec : ChangeSpec := { name := "headerTurned", fn := fun _ => fun
  | [d1, d2, d3] => { results := [.lit (.bool true)], args := [d1, d2, d3] }
  | _ => none }
def headerTurnedRow : OpenClaim := { program := "ytfmehkaojfjdjaadoor", sum := "544f6a6d464f978d35cd3d353f4c50aa402ea08f4272779101d418abdcf7ad98", func := "whirligig/whirligiglaw07.HeaderTurned", spec := "headerTurned", unfollowed := true, recurses := true, named := ["whirligig/header.kinds", "whirligig/header.ramSizes"], apart := false, laid := [("whirligig/header.kinds", laid_whirligig_header_kinds), ("whirligig/header.ramSizes", laid_whirligig_header_ramSizes)] }
def HeaderTurnedSaid : Prop := headerTurnedRow.holds Tryd.pinned (OpenSpec.ofChange headerTurnedSpec)

/-- ITS FALSE NEIGHBOUR: 'it returns false'. Refute it at one input. -/
def headerTurnedWrong : ChangeSpec := { name := "headerTurned", fn := fun _ => fun
  | [d1, d2, d3] => { results := [.lit (.bool false)], args := [d1, d2, d3] }
  | _ => none }
def HeaderTurnedWrongFalsely : Prop := headerTurnedRow.holds Tryd.pinned (OpenSpec.ofChange headerTurnedWrong)

/-- 'whirligiglaw07.HeaderElse': WHATEVER THE INPUT: true; the input reads as it did. -/
def headerElseSpec : ChangeSpec := { name := "headerElse", fn := fun _ => fun
  | [d1, d2, d3] => { results := [.lit (.bool true)], args := [d1, d2, d3] }
  | _ => none }
def headerElseRow : OpenClaim := { program := "ytfmehkaojfjdjaadoor", sum := "544f6a6d464f978d35cd3d353f4c50aa402ea08f4272779101d418abdcf7ad98", func := "whirligig/whirligiglaw07.HeaderElse", spec := "headerElse", unfollowed := true, recurses := true, named := ["whirligig/header.kinds", "whirligig/header.ramSizes"], apart := false, laid := [("whirligig/header.kinds", laid_whirligig_header_kinds), ("whirligig/header.ramSizes", laid_whirligig_header_ramSizes)] }
def HeaderElseSaid : Prop := headerElseRow.holds Tryd.pinned (OpenSpec.ofChange headerElseSpec)

/-- ITS FALSE NEIGHBOUR: 'it returns false'. Refute it at one input. -/
def headerElseWrong : ChangeSpec := { name := "headerElse", fn := fun _ => fun
  | [d1, d2, d3] => { results := [.lit (.bool false)], args := [d1, d2, d3] }
  | _ => none }
def HeaderElseWrongFalsely : Prop := headerElseRow.holds Tryd.pinned (OpenSpec.ofChange headerElseWrong)

/- THE SECOND FORM. 'bulk': how many values and letters a reading holds, each counted each time it is reached (what is shared counts as often as it is met; a slice's spare places count too). A statement '..UptoSaid' is the law's where the arguments, and the package variables that the reading takes, are together of bulk at most 1048576: NARROWER than '..Said'. Prove '..Said' where nothing that the law and all that it calls make is longer than what came in: it says more and counts as full. Else prove '..UptoSaid'. A law counts once. -/
mutual
def uptoBulk {H : Type} : DataW H → Nat
  | .lit (.string bytes) => bytes.length + 1
  | .lit _ => 1
  | .nil => 1
  | .ptr d => uptoBulk d + 1
  | .slice elems spare => uptoBulkAll elems + uptoBulkAll spare + 1
  | .agg parts => uptoBulkAll parts + 1
  | .iface _ d => uptoBulk d + 1
  | .map entries => uptoBulkEntries entries + 1
  | .held _ => 1
def uptoBulkAll {H : Type} : List (DataW H) → Nat
  | [] => 0
  | d :: r => uptoBulk d + uptoBulkAll r
def uptoBulkEntries {H : Type} : List (Lit × DataW H) → Nat
  | [] => 0
  | x :: r => uptoBulkEntry x + uptoBulkEntries r
def uptoBulkEntry {H : Type} : Lit × DataW H → Nat
  | (.string bytes, d) => bytes.length + uptoBulk d + 1
  | (_, d) => uptoBulk d + 1
 end
def uptoSmall : (H : Type) → List (DataW H) → Bool := fun _ ds => decide (uptoBulkAll ds ≤ 1048576)
def OpenSpec.upto (s : _root_.Go.ChangeSpec) : _root_.Go.OpenSpec := { _root_.Go.OpenSpec.ofChange s with cond := some uptoSmall }

/-- 'whirligiglaw07.HeaderParses', WHERE WHAT IT READS IS OF BULK AT MOST 1048576: true; the input reads as it did. -/
def headerParsesUptoRow : OpenClaim := { program := "ytfmehkaojfjdjaadoor", sum := "544f6a6d464f978d35cd3d353f4c50aa402ea08f4272779101d418abdcf7ad98", func := "whirligig/whirligiglaw07.HeaderParses", spec := "headerParses", unfollowed := true, recurses := true, named := ["whirligig/header.kinds", "whirligig/header.ramSizes"], apart := false, laid := [("whirligig/header.kinds", laid_whirligig_header_kinds), ("whirligig/header.ramSizes", laid_whirligig_header_ramSizes)], narrowed := true }
def HeaderParsesUptoSaid : Prop := headerParsesUptoRow.holds Tryd.pinned (OpenSpec.upto headerParsesSpec)

/-- 'whirligiglaw07.HeaderSums', WHERE WHAT IT READS IS OF BULK AT MOST 1048576: true; the input reads as it did. -/
def headerSumsUptoRow : OpenClaim := { program := "ytfmehkaojfjdjaadoor", sum := "544f6a6d464f978d35cd3d353f4c50aa402ea08f4272779101d418abdcf7ad98", func := "whirligig/whirligiglaw07.HeaderSums", spec := "headerSums", unfollowed := true, recurses := true, named := ["whirligig/header.kinds", "whirligig/header.ramSizes"], apart := false, laid := [("whirligig/header.kinds", laid_whirligig_header_kinds), ("whirligig/header.ramSizes", laid_whirligig_header_ramSizes)], narrowed := true }
def HeaderSumsUptoSaid : Prop := headerSumsUptoRow.holds Tryd.pinned (OpenSpec.upto headerSumsSpec)

/-- 'whirligiglaw07.HeaderMakes', WHERE WHAT IT READS IS OF BULK AT MOST 1048576: true; the input reads as it did. -/
def headerMakesUptoRow : OpenClaim := { program := "ytfmehkaojfjdjaadoor", sum := "544f6a6d464f978d35cd3d353f4c50aa402ea08f4272779101d418abdcf7ad98", func := "whirligig/whirligiglaw07.HeaderMakes", spec := "headerMakes", unfollowed := true, recurses := true, named := ["whirligig/header.kinds", "whirligig/header.ramSizes"], apart := false, laid := [("whirligig/header.kinds", laid_whirligig_header_kinds), ("whirligig/header.ramSizes", laid_whirligig_header_ramSizes)], narrowed := true }
def HeaderMakesUptoSaid : Prop := headerMakesUptoRow.holds Tryd.pinned (OpenSpec.upto headerMakesSpec)

/-- 'whirligiglaw07.HeaderBack', WHERE WHAT IT READS IS OF BULK AT MOST 1048576: true; the input reads as it did. -/
def headerBackUptoRow : OpenClaim := { program := "ytfmehkaojfjdjaadoor", sum := "544f6a6d464f978d35cd3d353f4c50aa402ea08f4272779101d418abdcf7ad98", func := "whirligig/whirligiglaw07.HeaderBack", spec := "headerBack", unfollowed := true, recurses := true, named := ["whirligig/header.kinds", "whirligig/header.ramSizes"], apart := false, laid := [("whirligig/header.kinds", laid_whirligig_header_kinds), ("whirligig/header.ramSizes", laid_whirligig_header_ramSizes)], narrowed := true }
def HeaderBackUptoSaid : Prop := headerBackUptoRow.holds Tryd.pinned (OpenSpec.upto headerBackSpec)

/-- 'whirligiglaw07.HeaderTurned', WHERE WHAT IT READS IS OF BULK AT MOST 1048576: true; the input reads as it did. -/
def headerTurnedUptoRow : OpenClaim := { program := "ytfmehkaojfjdjaadoor", sum := "544f6a6d464f978d35cd3d353f4c50aa402ea08f4272779101d418abdcf7ad98", func := "whirligig/whirligiglaw07.HeaderTurned", spec := "headerTurned", unfollowed := true, recurses := true, named := ["whirligig/header.kinds", "whirligig/header.ramSizes"], apart := false, laid := [("whirligig/header.kinds", laid_whirligig_header_kinds), ("whirligig/header.ramSizes", laid_whirligig_header_ramSizes)], narrowed := true }
def HeaderTurnedUptoSaid : Prop := headerTurnedUptoRow.holds Tryd.pinned (OpenSpec.upto headerTurnedSpec)

/-- 'whirligiglaw07.HeaderElse', WHERE WHAT IT READS IS OF BULK AT MOST 1048576: true; the input reads as it did. -/
def headerElseUptoRow : OpenClaim := { program := "ytfmehkaojfjdjaadoor", sum := "544f6a6d464f978d35cd3d353f4c50aa402ea08f4272779101d418abdcf7ad98", func := "whirligig/whirligiglaw07.HeaderElse", spec := "headerElse", unfollowed := true, recurses := true, named := ["whirligig/header.kinds", "whirligig/header.ramSizes"], apart := false, laid := [("whirligig/header.kinds", laid_whirligig_header_kinds), ("whirligig/header.ramSizes", laid_whirligig_header_ramSizes)], narrowed := true }
def HeaderElseUptoSaid : Prop := headerElseUptoRow.holds Tryd.pinned (OpenSpec.upto headerElseSpec)

end Rows
end Go.Proofs.YtfmehkaojfjdjaaDoor
