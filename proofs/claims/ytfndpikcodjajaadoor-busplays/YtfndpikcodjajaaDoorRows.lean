/-
  NARROWER THAN 'FOR EVERY INPUT', by the rows' own cells (each row's printed sentence says how): BusRegions: laid · BusShuts: laid · BusMeets: laid · BusPlays: laid · BusBack: laid · BusPlaces: laid.
  DERIVED. THE GIVEN ROWS OF THIS SEAT. 6 by the template 'for every input the law returns true; each argument reads behind the call as it read before'; 0 by the template 'total and deterministic' (their statements: YtfndpikcodjajaaDoorTotals.lean).
  GIVEN WITH THE SEED: the statements are not yours to turn. If you find one false, say at which input.
  Laid BY PROGRAM, IN A SANDBOX (cutbox-rows.mjs): the forced cells as the released guide's own fill.sh prints them over the translation da1a9a6b46cacbfb… (all of the seat's roots in one cut). By AI agents, Wed Nov 11 2026. No macro, syntax, notation, axiom, sorry.
-/
import Derived.Test.YtfndpikcodjajaaDoorChecked
import GoSem.Claim
import GoSem.ClaimJoined
import GoSem.ClaimMapViews
import Derived.JoinedTies
import Derived.KernelRfl
namespace Go.Proofs.YtfndpikcodjajaaDoor
/- THE CELL 'sum', in the pinned program and in every row, IS THE sha256 OF THE DUMP (.gsa) THAT YtfndpikcodjajaaDoorProg.lean LOADS. Nothing in Lean hashes anything: it is a label: what it is worth is what the hold of that sum in a sandbox is worth. -/
noncomputable def Tryd.pinned : Pinned := { name := "ytfndpikcodjajaadoor", sum := "da1a9a6b46cacbfba0a8ea90d0f1e99bf1711297804f040ee9dd2a182322496b", checked := Tryd.checked }
namespace Rows
def none {H : Type} : Left H := { results := [], args := [] }

/- WHAT THE LISTED PACKAGE-LEVEL VARIABLES READ AS WHEN THE CALL BEGINS. Each datum BY PROGRAM (the guide's laid-datum.mjs) off the statement by which the dump's own 'gosem.cut.vars' lays the variable. In a bare row this is a premise. The card (YtfndpikcodjajaaDoorCards.lean) ties it to the program's text. -/
def laid_whirligig_bus_rows {H : Type} : DataW H := .agg [.agg [.lit (.int .u16 0), .lit (.int .u16 32767), .lit (.int .i64 0), .lit (.int .i64 0)], .agg [.lit (.int .u16 32768), .lit (.int .u16 40959), .lit (.int .i64 1), .lit (.int .i64 1)], .agg [.lit (.int .u16 40960), .lit (.int .u16 49151), .lit (.int .i64 2), .lit (.int .i64 0)], .agg [.lit (.int .u16 49152), .lit (.int .u16 57343), .lit (.int .i64 3), .lit (.int .i64 0)], .agg [.lit (.int .u16 57344), .lit (.int .u16 65023), .lit (.int .i64 3), .lit (.int .i64 0)], .agg [.lit (.int .u16 65024), .lit (.int .u16 65183), .lit (.int .i64 4), .lit (.int .i64 2)], .agg [.lit (.int .u16 65184), .lit (.int .u16 65279), .lit (.int .i64 5), .lit (.int .i64 2)], .agg [.lit (.int .u16 65280), .lit (.int .u16 65407), .lit (.int .i64 6), .lit (.int .i64 2)], .agg [.lit (.int .u16 65408), .lit (.int .u16 65534), .lit (.int .i64 7), .lit (.int .i64 2)], .agg [.lit (.int .u16 65535), .lit (.int .u16 65535), .lit (.int .i64 8), .lit (.int .i64 2)]]

/-- 'whirligiglaw20.BusRegions': WHATEVER THE INPUT: true; the input reads as it did. -/
def busRegionsSpec : ChangeSpec := { name := "busRegions", fn := fun _ => fun
  | [d] => { results := [.lit (.bool true)], args := [d] }
  | _ => none }
def busRegionsRow : OpenClaim := { program := "ytfndpikcodjajaadoor", sum := "da1a9a6b46cacbfba0a8ea90d0f1e99bf1711297804f040ee9dd2a182322496b", func := "whirligig/whirligiglaw20.BusRegions", spec := "busRegions", named := ["whirligig/bus.rows"], apart := false, laid := [("whirligig/bus.rows", laid_whirligig_bus_rows)] }
def BusRegionsSaid : Prop := busRegionsRow.holds Tryd.pinned (OpenSpec.ofChange busRegionsSpec)

/-- ITS FALSE NEIGHBOUR: 'it returns false'. Refute it at one input. -/
def busRegionsWrong : ChangeSpec := { name := "busRegions", fn := fun _ => fun
  | [d] => { results := [.lit (.bool false)], args := [d] }
  | _ => none }
def BusRegionsWrongFalsely : Prop := busRegionsRow.holds Tryd.pinned (OpenSpec.ofChange busRegionsWrong)

/-- 'whirligiglaw20.BusShuts': WHATEVER THE INPUT: true; the input reads as it did. -/
def busShutsSpec : ChangeSpec := { name := "busShuts", fn := fun _ => fun
  | [d1, d2, d3, d4] => { results := [.lit (.bool true)], args := [d1, d2, d3, d4] }
  | _ => none }
def busShutsRow : OpenClaim := { program := "ytfndpikcodjajaadoor", sum := "da1a9a6b46cacbfba0a8ea90d0f1e99bf1711297804f040ee9dd2a182322496b", func := "whirligig/whirligiglaw20.BusShuts", spec := "busShuts", named := ["whirligig/bus.rows"], apart := false, laid := [("whirligig/bus.rows", laid_whirligig_bus_rows)] }
def BusShutsSaid : Prop := busShutsRow.holds Tryd.pinned (OpenSpec.ofChange busShutsSpec)

/-- ITS FALSE NEIGHBOUR: 'it returns false'. Refute it at one input. -/
def busShutsWrong : ChangeSpec := { name := "busShuts", fn := fun _ => fun
  | [d1, d2, d3, d4] => { results := [.lit (.bool false)], args := [d1, d2, d3, d4] }
  | _ => none }
def BusShutsWrongFalsely : Prop := busShutsRow.holds Tryd.pinned (OpenSpec.ofChange busShutsWrong)

/-- 'whirligiglaw20.BusMeets': WHATEVER THE INPUT: true; the input reads as it did. -/
def busMeetsSpec : ChangeSpec := { name := "busMeets", fn := fun _ => fun
  | [d1, d2, d3] => { results := [.lit (.bool true)], args := [d1, d2, d3] }
  | _ => none }
def busMeetsRow : OpenClaim := { program := "ytfndpikcodjajaadoor", sum := "da1a9a6b46cacbfba0a8ea90d0f1e99bf1711297804f040ee9dd2a182322496b", func := "whirligig/whirligiglaw20.BusMeets", spec := "busMeets", named := ["whirligig/bus.rows"], apart := false, laid := [("whirligig/bus.rows", laid_whirligig_bus_rows)] }
def BusMeetsSaid : Prop := busMeetsRow.holds Tryd.pinned (OpenSpec.ofChange busMeetsSpec)

/-- ITS FALSE NEIGHBOUR: 'it returns false'. Refute it at one input. -/
def busMeetsWrong : ChangeSpec := { name := "busMeets", fn := fun _ => fun
  | [d1, d2, d3] => { results := [.lit (.bool false)], args := [d1, d2, d3] }
  | _ => none }
def BusMeetsWrongFalsely : Prop := busMeetsRow.holds Tryd.pinned (OpenSpec.ofChange busMeetsWrong)

/-- 'whirligiglaw20.BusPlays': WHATEVER THE INPUT: true; the input reads as it did. -/
def busPlaysSpec : ChangeSpec := { name := "busPlays", fn := fun _ => fun
  | [d] => { results := [.lit (.bool true)], args := [d] }
  | _ => none }
def busPlaysRow : OpenClaim := { program := "ytfndpikcodjajaadoor", sum := "da1a9a6b46cacbfba0a8ea90d0f1e99bf1711297804f040ee9dd2a182322496b", func := "whirligig/whirligiglaw20.BusPlays", spec := "busPlays", named := ["whirligig/bus.rows"], apart := false, laid := [("whirligig/bus.rows", laid_whirligig_bus_rows)] }
def BusPlaysSaid : Prop := busPlaysRow.holds Tryd.pinned (OpenSpec.ofChange busPlaysSpec)

/-- ITS FALSE NEIGHBOUR: 'it returns false'. Refute it at one input. -/
def busPlaysWrong : ChangeSpec := { name := "busPlays", fn := fun _ => fun
  | [d] => { results := [.lit (.bool false)], args := [d] }
  | _ => none }
def BusPlaysWrongFalsely : Prop := busPlaysRow.holds Tryd.pinned (OpenSpec.ofChange busPlaysWrong)

/-- 'whirligiglaw20.BusBack': WHATEVER THE INPUT: true; the input reads as it did. -/
def busBackSpec : ChangeSpec := { name := "busBack", fn := fun _ => fun
  | [d1, d2, d3, d4] => { results := [.lit (.bool true)], args := [d1, d2, d3, d4] }
  | _ => none }
def busBackRow : OpenClaim := { program := "ytfndpikcodjajaadoor", sum := "da1a9a6b46cacbfba0a8ea90d0f1e99bf1711297804f040ee9dd2a182322496b", func := "whirligig/whirligiglaw20.BusBack", spec := "busBack", named := ["whirligig/bus.rows"], apart := false, laid := [("whirligig/bus.rows", laid_whirligig_bus_rows)] }
def BusBackSaid : Prop := busBackRow.holds Tryd.pinned (OpenSpec.ofChange busBackSpec)

/-- ITS FALSE NEIGHBOUR: 'it returns false'. Refute it at one input. -/
def busBackWrong : ChangeSpec := { name := "busBack", fn := fun _ => fun
  | [d1, d2, d3, d4] => { results := [.lit (.bool false)], args := [d1, d2, d3, d4] }
  | _ => none }
def BusBackWrongFalsely : Prop := busBackRow.holds Tryd.pinned (OpenSpec.ofChange busBackWrong)

/-- 'whirligiglaw20.BusPlaces': WHATEVER THE INPUT: true; the input reads as it did. -/
def busPlacesSpec : ChangeSpec := { name := "busPlaces", fn := fun _ => fun
  | [d] => { results := [.lit (.bool true)], args := [d] }
  | _ => none }
def busPlacesRow : OpenClaim := { program := "ytfndpikcodjajaadoor", sum := "da1a9a6b46cacbfba0a8ea90d0f1e99bf1711297804f040ee9dd2a182322496b", func := "whirligig/whirligiglaw20.BusPlaces", spec := "busPlaces", named := ["whirligig/bus.rows"], apart := false, laid := [("whirligig/bus.rows", laid_whirligig_bus_rows)] }
def BusPlacesSaid : Prop := busPlacesRow.holds Tryd.pinned (OpenSpec.ofChange busPlacesSpec)

/-- ITS FALSE NEIGHBOUR: 'it returns false'. Refute it at one input. -/
def busPlacesWrong : ChangeSpec := { name := "busPlaces", fn := fun _ => fun
  | [d] => { results := [.lit (.bool false)], args := [d] }
  | _ => none }
def BusPlacesWrongFalsely : Prop := busPlacesRow.holds Tryd.pinned (OpenSpec.ofChange busPlacesWrong)

/- THE SECOND FORM. 'bulk': how many values and letters a reading holds, each counted each time it is reached (what is shared counts as often as it is met; a slice's spare places count too). A statement '..UptoSaid' is the law's where the arguments, and the package variables that the reading takes, are together of bulk at most 1048576: NARROWER than '..Said'. Prove '..Said' where nothing that the law and all that it calls make is longer than what came in: it says more and counts as full. Else prove '..UptoSaid'. A law counts once. -/
mutual
def uptoBulk {H : Type} : DataW H → Nat
  | .lit (.string bytes) => bytes.length + 1
  | .lit _ => 1
  | .nil => 1
  | .ptr d => uptoBulk d + 1
  | .slice elems spare => uptoBulkAll elems + uptoBulkAll spare + 1
  | .agg parts => uptoBulkAll parts + 1
  | .iface _ d => uptoBulk d + 1
  | .map entries => uptoBulkEntries entries + 1
  | .held _ => 1
def uptoBulkAll {H : Type} : List (DataW H) → Nat
  | [] => 0
  | d :: r => uptoBulk d + uptoBulkAll r
def uptoBulkEntries {H : Type} : List (Lit × DataW H) → Nat
  | [] => 0
  | x :: r => uptoBulkEntry x + uptoBulkEntries r
def uptoBulkEntry {H : Type} : Lit × DataW H → Nat
  | (.string bytes, d) => bytes.length + uptoBulk d + 1
  | (_, d) => uptoBulk d + 1
 end
def uptoSmall : (H : Type) → List (DataW H) → Bool := fun _ ds => decide (uptoBulkAll ds ≤ 1048576)
def OpenSpec.upto (s : _root_.Go.ChangeSpec) : _root_.Go.OpenSpec := { _root_.Go.OpenSpec.ofChange s with cond := some uptoSmall }

/-- 'whirligiglaw20.BusRegions', WHERE WHAT IT READS IS OF BULK AT MOST 1048576: true; the input reads as it did. -/
def busRegionsUptoRow : OpenClaim := { program := "ytfndpikcodjajaadoor", sum := "da1a9a6b46cacbfba0a8ea90d0f1e99bf1711297804f040ee9dd2a182322496b", func := "whirligig/whirligiglaw20.BusRegions", spec := "busRegions", named := ["whirligig/bus.rows"], apart := false, laid := [("whirligig/bus.rows", laid_whirligig_bus_rows)], narrowed := true }
def BusRegionsUptoSaid : Prop := busRegionsUptoRow.holds Tryd.pinned (OpenSpec.upto busRegionsSpec)

/-- 'whirligiglaw20.BusShuts', WHERE WHAT IT READS IS OF BULK AT MOST 1048576: true; the input reads as it did. -/
def busShutsUptoRow : OpenClaim := { program := "ytfndpikcodjajaadoor", sum := "da1a9a6b46cacbfba0a8ea90d0f1e99bf1711297804f040ee9dd2a182322496b", func := "whirligig/whirligiglaw20.BusShuts", spec := "busShuts", named := ["whirligig/bus.rows"], apart := false, laid := [("whirligig/bus.rows", laid_whirligig_bus_rows)], narrowed := true }
def BusShutsUptoSaid : Prop := busShutsUptoRow.holds Tryd.pinned (OpenSpec.upto busShutsSpec)

/-- 'whirligiglaw20.BusMeets', WHERE WHAT IT READS IS OF BULK AT MOST 1048576: true; the input reads as it did. -/
def busMeetsUptoRow : OpenClaim := { program := "ytfndpikcodjajaadoor", sum := "da1a9a6b46cacbfba0a8ea90d0f1e99bf1711297804f040ee9dd2a182322496b", func := "whirligig/whirligiglaw20.BusMeets", spec := "busMeets", named := ["whirligig/bus.rows"], apart := false, laid := [("whirligig/bus.rows", laid_whirligig_bus_rows)], narrowed := true }
def BusMeetsUptoSaid : Prop := busMeetsUptoRow.holds Tryd.pinned (OpenSpec.upto busMeetsSpec)

/-- 'whirligiglaw20.BusPlays', WHERE WHAT IT READS IS OF BULK AT MOST 1048576: true; the input reads as it did. -/
def busPlaysUptoRow : OpenClaim := { program := "ytfndpikcodjajaadoor", sum := "da1a9a6b46cacbfba0a8ea90d0f1e99bf1711297804f040ee9dd2a182322496b", func := "whirligig/whirligiglaw20.BusPlays", spec := "busPlays", named := ["whirligig/bus.rows"], apart := false, laid := [("whirligig/bus.rows", laid_whirligig_bus_rows)], narrowed := true }
def BusPlaysUptoSaid : Prop := busPlaysUptoRow.holds Tryd.pinned (OpenSpec.upto busPlaysSpec)

/-- 'whirligiglaw20.BusBack', WHERE WHAT IT READS IS OF BULK AT MOST 1048576: true; the input reads as it did. -/
def busBackUptoRow : OpenClaim := { program := "ytfndpikcodjajaadoor", sum := "da1a9a6b46cacbfba0a8ea90d0f1e99bf1711297804f040ee9dd2a182322496b", func := "whirligig/whirligiglaw20.BusBack", spec := "busBack", named := ["whirligig/bus.rows"], apart := false, laid := [("whirligig/bus.rows", laid_whirligig_bus_rows)], narrowed := true }
def BusBackUptoSaid : Prop := busBackUptoRow.holds Tryd.pinned (OpenSpec.upto busBackSpec)

/-- 'whirligiglaw20.BusPlaces', WHERE WHAT IT READS IS OF BULK AT MOST 1048576: true; the input reads as it did. -/
def busPlacesUptoRow : OpenClaim := { program := "ytfndpikcodjajaadoor", sum := "da1a9a6b46cacbfba0a8ea90d0f1e99bf1711297804f040ee9dd2a182322496b", func := "whirligig/whirligiglaw20.BusPlaces", spec := "busPlaces", named := ["whirligig/bus.rows"], apart := false, laid := [("whirligig/bus.rows", laid_whirligig_bus_rows)], narrowed := true }
def BusPlacesUptoSaid : Prop := busPlacesUptoRow.holds Tryd.pinned (OpenSpec.upto busPlacesSpec)

end Rows
end Go.Proofs.YtfndpikcodjajaaDoor
