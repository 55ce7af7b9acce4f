/-
  NARROWER THAN 'FOR EVERY INPUT', by the rows' own cells (each row's printed sentence says how): CartPlays: laid.
  DERIVED. THE GIVEN ROWS OF THIS SEAT. 1 by the template 'for every input the law returns true; each argument reads behind the call as it read before'; 0 by the template 'total and deterministic' (their statements: YtfmddnekooojkaaGreatDoorTotals.lean).
  GIVEN WITH THE SEED: the statements are not yours to turn. If you find one false, say at which input.
  Laid BY PROGRAM, IN A SANDBOX (cutbox-rows.mjs): the forced cells as the released guide's own fill.sh prints them over the translation 8e89131d9fba39d9… (all of the seat's roots in one cut). By AI agents, Wed Nov 11 2026. No macro, syntax, notation, axiom, sorry.
-/
import Derived.Test.YtfmddnekooojkaaGreatDoorChecked
import GoSem.Claim
import GoSem.ClaimJoined
import GoSem.ClaimMapViews
import Derived.JoinedTies
import Derived.KernelRfl
namespace Go.Proofs.YtfmddnekooojkaaGreatDoor
/- THE CELL 'sum', in the pinned program and in every row, IS THE sha256 OF THE DUMP (.gsa) THAT YtfmddnekooojkaaGreatDoorProg.lean LOADS. Nothing in Lean hashes anything: it is a label: what it is worth is what the hold of that sum in a sandbox is worth. -/
noncomputable def Tryz.pinned : Pinned := { name := "ytfmddnekooojkaagreatdoor", sum := "8e89131d9fba39d9494d580938f5313a366650ab670a790421411b8c0df7d660", checked := Tryz.checked }
namespace Rows
def none {H : Type} : Left H := { results := [], args := [] }

/- WHAT THE LISTED PACKAGE-LEVEL VARIABLES READ AS WHEN THE CALL BEGINS. Each datum BY PROGRAM (the guide's laid-datum.mjs) off the statement by which the dump's own 'gosem.cut.vars' lays the variable. In a bare row this is a premise. The card (YtfmddnekooojkaaGreatDoorCards.lean) ties it to the program's text. -/
def laid_whirligig_header_kinds {H : Type} : DataW H := .agg [.agg [.lit (.int .u8 0), .lit (.int .i64 0), .lit (.bool false), .lit (.bool false), .lit (.bool false)], .agg [.lit (.int .u8 8), .lit (.int .i64 0), .lit (.bool true), .lit (.bool false), .lit (.bool false)], .agg [.lit (.int .u8 9), .lit (.int .i64 0), .lit (.bool true), .lit (.bool true), .lit (.bool false)], .agg [.lit (.int .u8 1), .lit (.int .i64 1), .lit (.bool false), .lit (.bool false), .lit (.bool false)], .agg [.lit (.int .u8 2), .lit (.int .i64 1), .lit (.bool true), .lit (.bool false), .lit (.bool false)], .agg [.lit (.int .u8 3), .lit (.int .i64 1), .lit (.bool true), .lit (.bool true), .lit (.bool false)], .agg [.lit (.int .u8 15), .lit (.int .i64 3), .lit (.bool false), .lit (.bool true), .lit (.bool true)], .agg [.lit (.int .u8 16), .lit (.int .i64 3), .lit (.bool true), .lit (.bool true), .lit (.bool true)], .agg [.lit (.int .u8 17), .lit (.int .i64 3), .lit (.bool false), .lit (.bool false), .lit (.bool false)], .agg [.lit (.int .u8 18), .lit (.int .i64 3), .lit (.bool true), .lit (.bool false), .lit (.bool false)], .agg [.lit (.int .u8 19), .lit (.int .i64 3), .lit (.bool true), .lit (.bool true), .lit (.bool false)], .agg [.lit (.int .u8 25), .lit (.int .i64 5), .lit (.bool false), .lit (.bool false), .lit (.bool false)], .agg [.lit (.int .u8 26), .lit (.int .i64 5), .lit (.bool true), .lit (.bool false), .lit (.bool false)], .agg [.lit (.int .u8 27), .lit (.int .i64 5), .lit (.bool true), .lit (.bool true), .lit (.bool false)], .agg [.lit (.int .u8 28), .lit (.int .i64 5), .lit (.bool false), .lit (.bool false), .lit (.bool false)], .agg [.lit (.int .u8 29), .lit (.int .i64 5), .lit (.bool true), .lit (.bool false), .lit (.bool false)], .agg [.lit (.int .u8 30), .lit (.int .i64 5), .lit (.bool true), .lit (.bool true), .lit (.bool false)]]
def laid_whirligig_header_ramSizes {H : Type} : DataW H := .agg [.lit (.int .i64 0), .lit (.int .i64 2048), .lit (.int .i64 8192), .lit (.int .i64 32768), .lit (.int .i64 131072), .lit (.int .i64 65536)]

/-- 'whirligiglaw10.CartPlays': WHATEVER THE INPUT: true; the input reads as it did. -/
def cartPlaysSpec : ChangeSpec := { name := "cartPlays", fn := fun _ => fun
  | [d1, d2] => { results := [.lit (.bool true)], args := [d1, d2] }
  | _ => none }
def cartPlaysRow : OpenClaim := { program := "ytfmddnekooojkaagreatdoor", sum := "8e89131d9fba39d9494d580938f5313a366650ab670a790421411b8c0df7d660", func := "whirligig/whirligiglaw10.CartPlays", spec := "cartPlays", unfollowed := true, recurses := true, named := ["whirligig/header.kinds", "whirligig/header.ramSizes"], apart := false, laid := [("whirligig/header.kinds", laid_whirligig_header_kinds), ("whirligig/header.ramSizes", laid_whirligig_header_ramSizes)] }
def CartPlaysSaid : Prop := cartPlaysRow.holds Tryz.pinned (OpenSpec.ofChange cartPlaysSpec)

/-- ITS FALSE NEIGHBOUR: 'it returns false'. Refute it at one input. -/
def cartPlaysWrong : ChangeSpec := { name := "cartPlays", fn := fun _ => fun
  | [d1, d2] => { results := [.lit (.bool false)], args := [d1, d2] }
  | _ => none }
def CartPlaysWrongFalsely : Prop := cartPlaysRow.holds Tryz.pinned (OpenSpec.ofChange cartPlaysWrong)

/- THE SECOND FORM. 'bulk': how many values and letters a reading holds, each counted each time it is reached (what is shared counts as often as it is met; a slice's spare places count too). A statement '..UptoSaid' is the law's where the arguments, and the package variables that the reading takes, are together of bulk at most 1048576: NARROWER than '..Said'. Prove '..Said' where nothing that the law and all that it calls make is longer than what came in: it says more and counts as full. Else prove '..UptoSaid'. A law counts once. -/
mutual
def uptoBulk {H : Type} : DataW H → Nat
  | .lit (.string bytes) => bytes.length + 1
  | .lit _ => 1
  | .nil => 1
  | .ptr d => uptoBulk d + 1
  | .slice elems spare => uptoBulkAll elems + uptoBulkAll spare + 1
  | .agg parts => uptoBulkAll parts + 1
  | .iface _ d => uptoBulk d + 1
  | .map entries => uptoBulkEntries entries + 1
  | .held _ => 1
def uptoBulkAll {H : Type} : List (DataW H) → Nat
  | [] => 0
  | d :: r => uptoBulk d + uptoBulkAll r
def uptoBulkEntries {H : Type} : List (Lit × DataW H) → Nat
  | [] => 0
  | x :: r => uptoBulkEntry x + uptoBulkEntries r
def uptoBulkEntry {H : Type} : Lit × DataW H → Nat
  | (.string bytes, d) => bytes.length + uptoBulk d + 1
  | (_, d) => uptoBulk d + 1
 end
def uptoSmall : (H : Type) → List (DataW H) → Bool := fun _ ds => decide (uptoBulkAll ds ≤ 1048576)
def OpenSpec.upto (s : _root_.Go.ChangeSpec) : _root_.Go.OpenSpec := { _root_.Go.OpenSpec.ofChange s with cond := some uptoSmall }

/-- 'whirligiglaw10.CartPlays', WHERE WHAT IT READS IS OF BULK AT MOST 1048576: true; the input reads as it did. -/
def cartPlaysUptoRow : OpenClaim := { program := "ytfmddnekooojkaagreatdoor", sum := "8e89131d9fba39d9494d580938f5313a366650ab670a790421411b8c0df7d660", func := "whirligig/whirligiglaw10.CartPlays", spec := "cartPlays", unfollowed := true, recurses := true, named := ["whirligig/header.kinds", "whirligig/header.ramSizes"], apart := false, laid := [("whirligig/header.kinds", laid_whirligig_header_kinds), ("whirligig/header.ramSizes", laid_whirligig_header_ramSizes)], narrowed := true }
def CartPlaysUptoSaid : Prop := cartPlaysUptoRow.holds Tryz.pinned (OpenSpec.upto cartPlaysSpec)

end Rows
end Go.Proofs.YtfmddnekooojkaaGreatDoor
