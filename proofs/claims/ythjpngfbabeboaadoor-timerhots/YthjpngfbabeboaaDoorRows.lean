/-
  NARROWER THAN 'FOR EVERY INPUT', by the rows' own cells (each row's printed sentence says how): TimerHots: laid · TimerSteps: laid · TimerReads: laid · TimerWrites: laid · TimerDivs: laid · TimerRate: laid.
  DERIVED. THE GIVEN ROWS OF THIS SEAT. 6 by the template 'for every input the law returns true; each argument reads behind the call as it read before'; 0 by the template 'total and deterministic' (their statements: YthjpngfbabeboaaDoorTotals.lean).
  GIVEN WITH THE SEED: the statements are not yours to turn. If you find one false, say at which input.
  Laid BY PROGRAM, IN A SANDBOX (cutbox-rows.mjs): the forced cells as the released guide's own fill.sh prints them over the translation 47654d2d7bb7d68a… (all of the seat's roots in one cut). By AI agents, Wed Nov 11 2026. No macro, syntax, notation, axiom, sorry.
-/
import Derived.Test.YthjpngfbabeboaaDoorChecked
import GoSem.Claim
import GoSem.ClaimJoined
import GoSem.ClaimMapViews
import Derived.JoinedTies
import Derived.KernelRfl
namespace Go.Proofs.YthjpngfbabeboaaDoor
/- THE CELL 'sum', in the pinned program and in every row, IS THE sha256 OF THE DUMP (.gsa) THAT YthjpngfbabeboaaDoorProg.lean LOADS. Nothing in Lean hashes anything: it is a label: what it is worth is what the hold of that sum in a sandbox is worth. -/
noncomputable def Tryd.pinned : Pinned := { name := "ythjpngfbabeboaadoor", sum := "47654d2d7bb7d68adf77f7892fbe48333f927ad82659115e93b330f49b2457e4", checked := Tryd.checked }
namespace Rows
def none {H : Type} : Left H := { results := [], args := [] }

/- WHAT THE LISTED PACKAGE-LEVEL VARIABLES READ AS WHEN THE CALL BEGINS. Each datum BY PROGRAM (the guide's laid-datum.mjs) off the statement by which the dump's own 'gosem.cut.vars' lays the variable. In a bare row this is a premise. The card (YthjpngfbabeboaaDoorCards.lean) ties it to the program's text. -/
def laid_whirligig_timer_lineBits {H : Type} : DataW H := .agg [.lit (.int .i64 9), .lit (.int .i64 3), .lit (.int .i64 5), .lit (.int .i64 7)]

/-- 'whirligiglaw11.TimerHots': WHATEVER THE INPUT: true; the input reads as it did. -/
def timerHotsSpec : ChangeSpec := { name := "timerHots", fn := fun _ => fun
  | [d] => { results := [.lit (.bool true)], args := [d] }
  | _ => none }
def timerHotsRow : OpenClaim := { program := "ythjpngfbabeboaadoor", sum := "47654d2d7bb7d68adf77f7892fbe48333f927ad82659115e93b330f49b2457e4", func := "whirligig/whirligiglaw11.TimerHots", spec := "timerHots", named := ["whirligig/timer.lineBits"], apart := false, laid := [("whirligig/timer.lineBits", laid_whirligig_timer_lineBits)] }
def TimerHotsSaid : Prop := timerHotsRow.holds Tryd.pinned (OpenSpec.ofChange timerHotsSpec)

/-- ITS FALSE NEIGHBOUR: 'it returns false'. Refute it at one input. -/
def timerHotsWrong : ChangeSpec := { name := "timerHots", fn := fun _ => fun
  | [d] => { results := [.lit (.bool false)], args := [d] }
  | _ => none }
def TimerHotsWrongFalsely : Prop := timerHotsRow.holds Tryd.pinned (OpenSpec.ofChange timerHotsWrong)

/-- 'whirligiglaw11.TimerSteps': WHATEVER THE INPUT: true; the input reads as it did. -/
def timerStepsSpec : ChangeSpec := { name := "timerSteps", fn := fun _ => fun
  | [d] => { results := [.lit (.bool true)], args := [d] }
  | _ => none }
def timerStepsRow : OpenClaim := { program := "ythjpngfbabeboaadoor", sum := "47654d2d7bb7d68adf77f7892fbe48333f927ad82659115e93b330f49b2457e4", func := "whirligig/whirligiglaw11.TimerSteps", spec := "timerSteps", named := ["whirligig/timer.lineBits"], apart := false, laid := [("whirligig/timer.lineBits", laid_whirligig_timer_lineBits)] }
def TimerStepsSaid : Prop := timerStepsRow.holds Tryd.pinned (OpenSpec.ofChange timerStepsSpec)

/-- ITS FALSE NEIGHBOUR: 'it returns false'. Refute it at one input. -/
def timerStepsWrong : ChangeSpec := { name := "timerSteps", fn := fun _ => fun
  | [d] => { results := [.lit (.bool false)], args := [d] }
  | _ => none }
def TimerStepsWrongFalsely : Prop := timerStepsRow.holds Tryd.pinned (OpenSpec.ofChange timerStepsWrong)

/-- 'whirligiglaw11.TimerReads': WHATEVER THE INPUT: true; the input reads as it did. -/
def timerReadsSpec : ChangeSpec := { name := "timerReads", fn := fun _ => fun
  | [d1, d2] => { results := [.lit (.bool true)], args := [d1, d2] }
  | _ => none }
def timerReadsRow : OpenClaim := { program := "ythjpngfbabeboaadoor", sum := "47654d2d7bb7d68adf77f7892fbe48333f927ad82659115e93b330f49b2457e4", func := "whirligig/whirligiglaw11.TimerReads", spec := "timerReads", named := ["whirligig/timer.lineBits"], apart := false, laid := [("whirligig/timer.lineBits", laid_whirligig_timer_lineBits)] }
def TimerReadsSaid : Prop := timerReadsRow.holds Tryd.pinned (OpenSpec.ofChange timerReadsSpec)

/-- ITS FALSE NEIGHBOUR: 'it returns false'. Refute it at one input. -/
def timerReadsWrong : ChangeSpec := { name := "timerReads", fn := fun _ => fun
  | [d1, d2] => { results := [.lit (.bool false)], args := [d1, d2] }
  | _ => none }
def TimerReadsWrongFalsely : Prop := timerReadsRow.holds Tryd.pinned (OpenSpec.ofChange timerReadsWrong)

/-- 'whirligiglaw11.TimerWrites': WHATEVER THE INPUT: true; the input reads as it did. -/
def timerWritesSpec : ChangeSpec := { name := "timerWrites", fn := fun _ => fun
  | [d1, d2, d3] => { results := [.lit (.bool true)], args := [d1, d2, d3] }
  | _ => none }
def timerWritesRow : OpenClaim := { program := "ythjpngfbabeboaadoor", sum := "47654d2d7bb7d68adf77f7892fbe48333f927ad82659115e93b330f49b2457e4", func := "whirligig/whirligiglaw11.TimerWrites", spec := "timerWrites", named := ["whirligig/timer.lineBits"], apart := false, laid := [("whirligig/timer.lineBits", laid_whirligig_timer_lineBits)] }
def TimerWritesSaid : Prop := timerWritesRow.holds Tryd.pinned (OpenSpec.ofChange timerWritesSpec)

/-- ITS FALSE NEIGHBOUR: 'it returns false'. Refute it at one input. -/
def timerWritesWrong : ChangeSpec := { name := "timerWrites", fn := fun _ => fun
  | [d1, d2, d3] => { results := [.lit (.bool false)], args := [d1, d2, d3] }
  | _ => none }
def TimerWritesWrongFalsely : Prop := timerWritesRow.holds Tryd.pinned (OpenSpec.ofChange timerWritesWrong)

/-- 'whirligiglaw11.TimerDivs': WHATEVER THE INPUT: true; the input reads as it did. -/
def timerDivsSpec : ChangeSpec := { name := "timerDivs", fn := fun _ => fun
  | [d1, d2] => { results := [.lit (.bool true)], args := [d1, d2] }
  | _ => none }
def timerDivsRow : OpenClaim := { program := "ythjpngfbabeboaadoor", sum := "47654d2d7bb7d68adf77f7892fbe48333f927ad82659115e93b330f49b2457e4", func := "whirligig/whirligiglaw11.TimerDivs", spec := "timerDivs", named := ["whirligig/timer.lineBits"], apart := false, laid := [("whirligig/timer.lineBits", laid_whirligig_timer_lineBits)] }
def TimerDivsSaid : Prop := timerDivsRow.holds Tryd.pinned (OpenSpec.ofChange timerDivsSpec)

/-- ITS FALSE NEIGHBOUR: 'it returns false'. Refute it at one input. -/
def timerDivsWrong : ChangeSpec := { name := "timerDivs", fn := fun _ => fun
  | [d1, d2] => { results := [.lit (.bool false)], args := [d1, d2] }
  | _ => none }
def TimerDivsWrongFalsely : Prop := timerDivsRow.holds Tryd.pinned (OpenSpec.ofChange timerDivsWrong)

/-- 'whirligiglaw11.TimerRate': WHATEVER THE INPUT: true; the input reads as it did. -/
def timerRateSpec : ChangeSpec := { name := "timerRate", fn := fun _ => fun
  | [d1, d2] => { results := [.lit (.bool true)], args := [d1, d2] }
  | _ => none }
def timerRateRow : OpenClaim := { program := "ythjpngfbabeboaadoor", sum := "47654d2d7bb7d68adf77f7892fbe48333f927ad82659115e93b330f49b2457e4", func := "whirligig/whirligiglaw11.TimerRate", spec := "timerRate", named := ["whirligig/timer.lineBits"], apart := false, laid := [("whirligig/timer.lineBits", laid_whirligig_timer_lineBits)] }
def TimerRateSaid : Prop := timerRateRow.holds Tryd.pinned (OpenSpec.ofChange timerRateSpec)

/-- ITS FALSE NEIGHBOUR: 'it returns false'. Refute it at one input. -/
def timerRateWrong : ChangeSpec := { name := "timerRate", fn := fun _ => fun
  | [d1, d2] => { results := [.lit (.bool false)], args := [d1, d2] }
  | _ => none }
def TimerRateWrongFalsely : Prop := timerRateRow.holds Tryd.pinned (OpenSpec.ofChange timerRateWrong)

/- THE SECOND FORM. 'bulk': how many values and letters a reading holds, each counted each time it is reached (what is shared counts as often as it is met; a slice's spare places count too). A statement '..UptoSaid' is the law's where the arguments, and the package variables that the reading takes, are together of bulk at most 1048576: NARROWER than '..Said'. Prove '..Said' where nothing that the law and all that it calls make is longer than what came in: it says more and counts as full. Else prove '..UptoSaid'. A law counts once. -/
mutual
def uptoBulk {H : Type} : DataW H → Nat
  | .lit (.string bytes) => bytes.length + 1
  | .lit _ => 1
  | .nil => 1
  | .ptr d => uptoBulk d + 1
  | .slice elems spare => uptoBulkAll elems + uptoBulkAll spare + 1
  | .agg parts => uptoBulkAll parts + 1
  | .iface _ d => uptoBulk d + 1
  | .map entries => uptoBulkEntries entries + 1
  | .held _ => 1
def uptoBulkAll {H : Type} : List (DataW H) → Nat
  | [] => 0
  | d :: r => uptoBulk d + uptoBulkAll r
def uptoBulkEntries {H : Type} : List (Lit × DataW H) → Nat
  | [] => 0
  | x :: r => uptoBulkEntry x + uptoBulkEntries r
def uptoBulkEntry {H : Type} : Lit × DataW H → Nat
  | (.string bytes, d) => bytes.length + uptoBulk d + 1
  | (_, d) => uptoBulk d + 1
 end
def uptoSmall : (H : Type) → List (DataW H) → Bool := fun _ ds => decide (uptoBulkAll ds ≤ 1048576)
def OpenSpec.upto (s : _root_.Go.ChangeSpec) : _root_.Go.OpenSpec := { _root_.Go.OpenSpec.ofChange s with cond := some uptoSmall }

/-- 'whirligiglaw11.TimerHots', WHERE WHAT IT READS IS OF BULK AT MOST 1048576: true; the input reads as it did. -/
def timerHotsUptoRow : OpenClaim := { program := "ythjpngfbabeboaadoor", sum := "47654d2d7bb7d68adf77f7892fbe48333f927ad82659115e93b330f49b2457e4", func := "whirligig/whirligiglaw11.TimerHots", spec := "timerHots", named := ["whirligig/timer.lineBits"], apart := false, laid := [("whirligig/timer.lineBits", laid_whirligig_timer_lineBits)], narrowed := true }
def TimerHotsUptoSaid : Prop := timerHotsUptoRow.holds Tryd.pinned (OpenSpec.upto timerHotsSpec)

/-- 'whirligiglaw11.TimerSteps', WHERE WHAT IT READS IS OF BULK AT MOST 1048576: true; the input reads as it did. -/
def timerStepsUptoRow : OpenClaim := { program := "ythjpngfbabeboaadoor", sum := "47654d2d7bb7d68adf77f7892fbe48333f927ad82659115e93b330f49b2457e4", func := "whirligig/whirligiglaw11.TimerSteps", spec := "timerSteps", named := ["whirligig/timer.lineBits"], apart := false, laid := [("whirligig/timer.lineBits", laid_whirligig_timer_lineBits)], narrowed := true }
def TimerStepsUptoSaid : Prop := timerStepsUptoRow.holds Tryd.pinned (OpenSpec.upto timerStepsSpec)

/-- 'whirligiglaw11.TimerReads', WHERE WHAT IT READS IS OF BULK AT MOST 1048576: true; the input reads as it did. -/
def timerReadsUptoRow : OpenClaim := { program := "ythjpngfbabeboaadoor", sum := "47654d2d7bb7d68adf77f7892fbe48333f927ad82659115e93b330f49b2457e4", func := "whirligig/whirligiglaw11.TimerReads", spec := "timerReads", named := ["whirligig/timer.lineBits"], apart := false, laid := [("whirligig/timer.lineBits", laid_whirligig_timer_lineBits)], narrowed := true }
def TimerReadsUptoSaid : Prop := timerReadsUptoRow.holds Tryd.pinned (OpenSpec.upto timerReadsSpec)

/-- 'whirligiglaw11.TimerWrites', WHERE WHAT IT READS IS OF BULK AT MOST 1048576: true; the input reads as it did. -/
def timerWritesUptoRow : OpenClaim := { program := "ythjpngfbabeboaadoor", sum := "47654d2d7bb7d68adf77f7892fbe48333f927ad82659115e93b330f49b2457e4", func := "whirligig/whirligiglaw11.TimerWrites", spec := "timerWrites", named := ["whirligig/timer.lineBits"], apart := false, laid := [("whirligig/timer.lineBits", laid_whirligig_timer_lineBits)], narrowed := true }
def TimerWritesUptoSaid : Prop := timerWritesUptoRow.holds Tryd.pinned (OpenSpec.upto timerWritesSpec)

/-- 'whirligiglaw11.TimerDivs', WHERE WHAT IT READS IS OF BULK AT MOST 1048576: true; the input reads as it did. -/
def timerDivsUptoRow : OpenClaim := { program := "ythjpngfbabeboaadoor", sum := "47654d2d7bb7d68adf77f7892fbe48333f927ad82659115e93b330f49b2457e4", func := "whirligig/whirligiglaw11.TimerDivs", spec := "timerDivs", named := ["whirligig/timer.lineBits"], apart := false, laid := [("whirligig/timer.lineBits", laid_whirligig_timer_lineBits)], narrowed := true }
def TimerDivsUptoSaid : Prop := timerDivsUptoRow.holds Tryd.pinned (OpenSpec.upto timerDivsSpec)

/-- 'whirligiglaw11.TimerRate', WHERE WHAT IT READS IS OF BULK AT MOST 1048576: true; the input reads as it did. -/
def timerRateUptoRow : OpenClaim := { program := "ythjpngfbabeboaadoor", sum := "47654d2d7bb7d68adf77f7892fbe48333f927ad82659115e93b330f49b2457e4", func := "whirligig/whirligiglaw11.TimerRate", spec := "timerRate", named := ["whirligig/timer.lineBits"], apart := false, laid := [("whirligig/timer.lineBits", laid_whirligig_timer_lineBits)], narrowed := true }
def TimerRateUptoSaid : Prop := timerRateUptoRow.holds Tryd.pinned (OpenSpec.upto timerRateSpec)

end Rows
end Go.Proofs.YthjpngfbabeboaaDoor
