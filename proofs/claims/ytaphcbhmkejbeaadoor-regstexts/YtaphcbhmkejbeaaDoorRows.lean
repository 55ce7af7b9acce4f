/-
  NARROWER THAN 'FOR EVERY INPUT', by the rows' own cells (each row's printed sentence says how): RegsGets: laid · RegsPuts: laid · RegsPairs: laid · RegsPutPairs: laid · RegsFlags: laid · RegsTexts: laid.
  DERIVED. THE GIVEN ROWS OF THIS SEAT. 6 by the template 'for every input the law returns true; each argument reads behind the call as it read before'; 0 by the template 'total and deterministic' (their statements: YtaphcbhmkejbeaaDoorTotals.lean).
  GIVEN WITH THE SEED: the statements are not yours to turn. If you find one false, say at which input.
  Laid BY PROGRAM, IN A SANDBOX (cutbox-rows.mjs): the forced cells as the released guide's own fill.sh prints them over the translation 623c1928a8850095… (all of the seat's roots in one cut). By AI agents, Wed Nov 11 2026. No macro, syntax, notation, axiom, sorry.
-/
import Derived.Test.YtaphcbhmkejbeaaDoorChecked
import GoSem.Claim
import GoSem.ClaimJoined
import GoSem.ClaimMapViews
import Derived.JoinedTies
import Derived.KernelRfl
namespace Go.Proofs.YtaphcbhmkejbeaaDoor
/- THE CELL 'sum', in the pinned program and in every row, IS THE sha256 OF THE DUMP (.gsa) THAT YtaphcbhmkejbeaaDoorProg.lean LOADS. Nothing in Lean hashes anything: it is a label: what it is worth is what the hold of that sum in a sandbox is worth. -/
noncomputable def Tryd.pinned : Pinned := { name := "ytaphcbhmkejbeaadoor", sum := "623c1928a88500959c2f44b06e45812e2c9a8b5cbedc2c30d9f9f2771455b941", checked := Tryd.checked }
namespace Rows
def none {H : Type} : Left H := { results := [], args := [] }

/- WHAT THE LISTED PACKAGE-LEVEL VARIABLES READ AS WHEN THE CALL BEGINS. Each datum BY PROGRAM (the guide's laid-datum.mjs) off the statement by which the dump's own 'gosem.cut.vars' lays the variable. In a bare row this is a premise. The card (YtaphcbhmkejbeaaDoorCards.lean) ties it to the program's text. -/
def laid_whirligig_regs_textPairs {H : Type} : DataW H := .agg [.agg [.lit (.string [65, 70]), .lit (.int .i64 4)], .agg [.lit (.string [66, 67]), .lit (.int .i64 0)], .agg [.lit (.string [68, 69]), .lit (.int .i64 1)], .agg [.lit (.string [72, 76]), .lit (.int .i64 2)], .agg [.lit (.string [83, 80]), .lit (.int .i64 3)]]

/-- 'whirligiglaw04.RegsGets': WHATEVER THE INPUT: true; the input reads as it did. -/
def regsGetsSpec : ChangeSpec := { name := "regsGets", fn := fun _ => fun
  | [d1, d2] => { results := [.lit (.bool true)], args := [d1, d2] }
  | _ => none }
def regsGetsRow : OpenClaim := { program := "ytaphcbhmkejbeaadoor", sum := "623c1928a88500959c2f44b06e45812e2c9a8b5cbedc2c30d9f9f2771455b941", func := "whirligig/whirligiglaw04.RegsGets", spec := "regsGets", named := ["whirligig/regs.textPairs"], apart := false, laid := [("whirligig/regs.textPairs", laid_whirligig_regs_textPairs)] }
def RegsGetsSaid : Prop := regsGetsRow.holds Tryd.pinned (OpenSpec.ofChange regsGetsSpec)

/-- ITS FALSE NEIGHBOUR: 'it returns false'. Refute it at one input. -/
def regsGetsWrong : ChangeSpec := { name := "regsGets", fn := fun _ => fun
  | [d1, d2] => { results := [.lit (.bool false)], args := [d1, d2] }
  | _ => none }
def RegsGetsWrongFalsely : Prop := regsGetsRow.holds Tryd.pinned (OpenSpec.ofChange regsGetsWrong)

/-- 'whirligiglaw04.RegsPuts': WHATEVER THE INPUT: true; the input reads as it did. -/
def regsPutsSpec : ChangeSpec := { name := "regsPuts", fn := fun _ => fun
  | [d1, d2, d3] => { results := [.lit (.bool true)], args := [d1, d2, d3] }
  | _ => none }
def regsPutsRow : OpenClaim := { program := "ytaphcbhmkejbeaadoor", sum := "623c1928a88500959c2f44b06e45812e2c9a8b5cbedc2c30d9f9f2771455b941", func := "whirligig/whirligiglaw04.RegsPuts", spec := "regsPuts", named := ["whirligig/regs.textPairs"], apart := false, laid := [("whirligig/regs.textPairs", laid_whirligig_regs_textPairs)] }
def RegsPutsSaid : Prop := regsPutsRow.holds Tryd.pinned (OpenSpec.ofChange regsPutsSpec)

/-- ITS FALSE NEIGHBOUR: 'it returns false'. Refute it at one input. -/
def regsPutsWrong : ChangeSpec := { name := "regsPuts", fn := fun _ => fun
  | [d1, d2, d3] => { results := [.lit (.bool false)], args := [d1, d2, d3] }
  | _ => none }
def RegsPutsWrongFalsely : Prop := regsPutsRow.holds Tryd.pinned (OpenSpec.ofChange regsPutsWrong)

/-- 'whirligiglaw04.RegsPairs': WHATEVER THE INPUT: true; the input reads as it did. -/
def regsPairsSpec : ChangeSpec := { name := "regsPairs", fn := fun _ => fun
  | [d1, d2] => { results := [.lit (.bool true)], args := [d1, d2] }
  | _ => none }
def regsPairsRow : OpenClaim := { program := "ytaphcbhmkejbeaadoor", sum := "623c1928a88500959c2f44b06e45812e2c9a8b5cbedc2c30d9f9f2771455b941", func := "whirligig/whirligiglaw04.RegsPairs", spec := "regsPairs", named := ["whirligig/regs.textPairs"], apart := false, laid := [("whirligig/regs.textPairs", laid_whirligig_regs_textPairs)] }
def RegsPairsSaid : Prop := regsPairsRow.holds Tryd.pinned (OpenSpec.ofChange regsPairsSpec)

/-- ITS FALSE NEIGHBOUR: 'it returns false'. Refute it at one input. -/
def regsPairsWrong : ChangeSpec := { name := "regsPairs", fn := fun _ => fun
  | [d1, d2] => { results := [.lit (.bool false)], args := [d1, d2] }
  | _ => none }
def RegsPairsWrongFalsely : Prop := regsPairsRow.holds Tryd.pinned (OpenSpec.ofChange regsPairsWrong)

/-- 'whirligiglaw04.RegsPutPairs': WHATEVER THE INPUT: true; the input reads as it did. -/
def regsPutPairsSpec : ChangeSpec := { name := "regsPutPairs", fn := fun _ => fun
  | [d1, d2, d3] => { results := [.lit (.bool true)], args := [d1, d2, d3] }
  | _ => none }
def regsPutPairsRow : OpenClaim := { program := "ytaphcbhmkejbeaadoor", sum := "623c1928a88500959c2f44b06e45812e2c9a8b5cbedc2c30d9f9f2771455b941", func := "whirligig/whirligiglaw04.RegsPutPairs", spec := "regsPutPairs", named := ["whirligig/regs.textPairs"], apart := false, laid := [("whirligig/regs.textPairs", laid_whirligig_regs_textPairs)] }
def RegsPutPairsSaid : Prop := regsPutPairsRow.holds Tryd.pinned (OpenSpec.ofChange regsPutPairsSpec)

/-- ITS FALSE NEIGHBOUR: 'it returns false'. Refute it at one input. -/
def regsPutPairsWrong : ChangeSpec := { name := "regsPutPairs", fn := fun _ => fun
  | [d1, d2, d3] => { results := [.lit (.bool false)], args := [d1, d2, d3] }
  | _ => none }
def RegsPutPairsWrongFalsely : Prop := regsPutPairsRow.holds Tryd.pinned (OpenSpec.ofChange regsPutPairsWrong)

/-- 'whirligiglaw04.RegsFlags': WHATEVER THE INPUT: true; the input reads as it did. -/
def regsFlagsSpec : ChangeSpec := { name := "regsFlags", fn := fun _ => fun
  | [d1, d2, d3] => { results := [.lit (.bool true)], args := [d1, d2, d3] }
  | _ => none }
def regsFlagsRow : OpenClaim := { program := "ytaphcbhmkejbeaadoor", sum := "623c1928a88500959c2f44b06e45812e2c9a8b5cbedc2c30d9f9f2771455b941", func := "whirligig/whirligiglaw04.RegsFlags", spec := "regsFlags", named := ["whirligig/regs.textPairs"], apart := false, laid := [("whirligig/regs.textPairs", laid_whirligig_regs_textPairs)] }
def RegsFlagsSaid : Prop := regsFlagsRow.holds Tryd.pinned (OpenSpec.ofChange regsFlagsSpec)

/-- ITS FALSE NEIGHBOUR: 'it returns false'. Refute it at one input. -/
def regsFlagsWrong : ChangeSpec := { name := "regsFlags", fn := fun _ => fun
  | [d1, d2, d3] => { results := [.lit (.bool false)], args := [d1, d2, d3] }
  | _ => none }
def RegsFlagsWrongFalsely : Prop := regsFlagsRow.holds Tryd.pinned (OpenSpec.ofChange regsFlagsWrong)

/-- 'whirligiglaw04.RegsTexts': WHATEVER THE INPUT: true; the input reads as it did. -/
def regsTextsSpec : ChangeSpec := { name := "regsTexts", fn := fun _ => fun
  | [d] => { results := [.lit (.bool true)], args := [d] }
  | _ => none }
def regsTextsRow : OpenClaim := { program := "ytaphcbhmkejbeaadoor", sum := "623c1928a88500959c2f44b06e45812e2c9a8b5cbedc2c30d9f9f2771455b941", func := "whirligig/whirligiglaw04.RegsTexts", spec := "regsTexts", named := ["whirligig/regs.textPairs"], apart := false, laid := [("whirligig/regs.textPairs", laid_whirligig_regs_textPairs)] }
def RegsTextsSaid : Prop := regsTextsRow.holds Tryd.pinned (OpenSpec.ofChange regsTextsSpec)

/-- ITS FALSE NEIGHBOUR: 'it returns false'. Refute it at one input. -/
def regsTextsWrong : ChangeSpec := { name := "regsTexts", fn := fun _ => fun
  | [d] => { results := [.lit (.bool false)], args := [d] }
  | _ => none }
def RegsTextsWrongFalsely : Prop := regsTextsRow.holds Tryd.pinned (OpenSpec.ofChange regsTextsWrong)

/- THE SECOND FORM. 'bulk': how many values and letters a reading holds, each counted each time it is reached (what is shared counts as often as it is met; a slice's spare places count too). A statement '..UptoSaid' is the law's where the arguments, and the package variables that the reading takes, are together of bulk at most 1048576: NARROWER than '..Said'. Prove '..Said' where nothing that the law and all that it calls make is longer than what came in: it says more and counts as full. Else prove '..UptoSaid'. A law counts once. -/
mutual
def uptoBulk {H : Type} : DataW H → Nat
  | .lit (.string bytes) => bytes.length + 1
  | .lit _ => 1
  | .nil => 1
  | .ptr d => uptoBulk d + 1
  | .slice elems spare => uptoBulkAll elems + uptoBulkAll spare + 1
  | .agg parts => uptoBulkAll parts + 1
  | .iface _ d => uptoBulk d + 1
  | .map entries => uptoBulkEntries entries + 1
  | .held _ => 1
def uptoBulkAll {H : Type} : List (DataW H) → Nat
  | [] => 0
  | d :: r => uptoBulk d + uptoBulkAll r
def uptoBulkEntries {H : Type} : List (Lit × DataW H) → Nat
  | [] => 0
  | x :: r => uptoBulkEntry x + uptoBulkEntries r
def uptoBulkEntry {H : Type} : Lit × DataW H → Nat
  | (.string bytes, d) => bytes.length + uptoBulk d + 1
  | (_, d) => uptoBulk d + 1
 end
def uptoSmall : (H : Type) → List (DataW H) → Bool := fun _ ds => decide (uptoBulkAll ds ≤ 1048576)
def OpenSpec.upto (s : _root_.Go.ChangeSpec) : _root_.Go.OpenSpec := { _root_.Go.OpenSpec.ofChange s with cond := some uptoSmall }

/-- 'whirligiglaw04.RegsGets', WHERE WHAT IT READS IS OF BULK AT MOST 1048576: true; the input reads as it did. -/
def regsGetsUptoRow : OpenClaim := { program := "ytaphcbhmkejbeaadoor", sum := "623c1928a88500959c2f44b06e45812e2c9a8b5cbedc2c30d9f9f2771455b941", func := "whirligig/whirligiglaw04.RegsGets", spec := "regsGets", named := ["whirligig/regs.textPairs"], apart := false, laid := [("whirligig/regs.textPairs", laid_whirligig_regs_textPairs)], narrowed := true }
def RegsGetsUptoSaid : Prop := regsGetsUptoRow.holds Tryd.pinned (OpenSpec.upto regsGetsSpec)

/-- 'whirligiglaw04.RegsPuts', WHERE WHAT IT READS IS OF BULK AT MOST 1048576: true; the input reads as it did. -/
def regsPutsUptoRow : OpenClaim := { program := "ytaphcbhmkejbeaadoor", sum := "623c1928a88500959c2f44b06e45812e2c9a8b5cbedc2c30d9f9f2771455b941", func := "whirligig/whirligiglaw04.RegsPuts", spec := "regsPuts", named := ["whirligig/regs.textPairs"], apart := false, laid := [("whirligig/regs.textPairs", laid_whirligig_regs_textPairs)], narrowed := true }
def RegsPutsUptoSaid : Prop := regsPutsUptoRow.holds Tryd.pinned (OpenSpec.upto regsPutsSpec)

/-- 'whirligiglaw04.RegsPairs', WHERE WHAT IT READS IS OF BULK AT MOST 1048576: true; the input reads as it did. -/
def regsPairsUptoRow : OpenClaim := { program := "ytaphcbhmkejbeaadoor", sum := "623c1928a88500959c2f44b06e45812e2c9a8b5cbedc2c30d9f9f2771455b941", func := "whirligig/whirligiglaw04.RegsPairs", spec := "regsPairs", named := ["whirligig/regs.textPairs"], apart := false, laid := [("whirligig/regs.textPairs", laid_whirligig_regs_textPairs)], narrowed := true }
def RegsPairsUptoSaid : Prop := regsPairsUptoRow.holds Tryd.pinned (OpenSpec.upto regsPairsSpec)

/-- 'whirligiglaw04.RegsPutPairs', WHERE WHAT IT READS IS OF BULK AT MOST 1048576: true; the input reads as it did. -/
def regsPutPairsUptoRow : OpenClaim := { program := "ytaphcbhmkejbeaadoor", sum := "623c1928a88500959c2f44b06e45812e2c9a8b5cbedc2c30d9f9f2771455b941", func := "whirligig/whirligiglaw04.RegsPutPairs", spec := "regsPutPairs", named := ["whirligig/regs.textPairs"], apart := false, laid := [("whirligig/regs.textPairs", laid_whirligig_regs_textPairs)], narrowed := true }
def RegsPutPairsUptoSaid : Prop := regsPutPairsUptoRow.holds Tryd.pinned (OpenSpec.upto regsPutPairsSpec)

/-- 'whirligiglaw04.RegsFlags', WHERE WHAT IT READS IS OF BULK AT MOST 1048576: true; the input reads as it did. -/
def regsFlagsUptoRow : OpenClaim := { program := "ytaphcbhmkejbeaadoor", sum := "623c1928a88500959c2f44b06e45812e2c9a8b5cbedc2c30d9f9f2771455b941", func := "whirligig/whirligiglaw04.RegsFlags", spec := "regsFlags", named := ["whirligig/regs.textPairs"], apart := false, laid := [("whirligig/regs.textPairs", laid_whirligig_regs_textPairs)], narrowed := true }
def RegsFlagsUptoSaid : Prop := regsFlagsUptoRow.holds Tryd.pinned (OpenSpec.upto regsFlagsSpec)

/-- 'whirligiglaw04.RegsTexts', WHERE WHAT IT READS IS OF BULK AT MOST 1048576: true; the input reads as it did. -/
def regsTextsUptoRow : OpenClaim := { program := "ytaphcbhmkejbeaadoor", sum := "623c1928a88500959c2f44b06e45812e2c9a8b5cbedc2c30d9f9f2771455b941", func := "whirligig/whirligiglaw04.RegsTexts", spec := "regsTexts", named := ["whirligig/regs.textPairs"], apart := false, laid := [("whirligig/regs.textPairs", laid_whirligig_regs_textPairs)], narrowed := true }
def RegsTextsUptoSaid : Prop := regsTextsUptoRow.holds Tryd.pinned (OpenSpec.upto regsTextsSpec)

end Rows
end Go.Proofs.YtaphcbhmkejbeaaDoor
