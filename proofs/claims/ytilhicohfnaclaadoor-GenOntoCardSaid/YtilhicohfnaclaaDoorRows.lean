/-
  NARROWER THAN 'FOR EVERY INPUT', by the rows' own cells (each row's printed sentence says how): AttackOn: laid · AttackAll: laid · AttackChecks: laid · AttackPins: laid · AttackMore: laid · AttackKings: laid · GenAll: laid · GenOnto: laid · GenPromotes: laid · GenFree: laid · GenTurns: laid · GenOnce: laid.
  DERIVED. THE GIVEN ROWS OF THIS SEAT. 12 by the template 'for every input the law returns true; each argument reads behind the call as it read before'; 0 by the template 'total and deterministic' (their statements: YtilhicohfnaclaaDoorTotals.lean).
  GIVEN WITH THE SEED: the statements are not yours to turn. If you find one false, say at which input.
  Laid BY PROGRAM, IN A SANDBOX (cutbox-rows.mjs): the forced cells as the released guide's own fill.sh prints them over the translation 84bc789a92518b86… (all of the seat's roots in one cut). By AI agents, Wed Nov 11 2026. No macro, syntax, notation, axiom, sorry.
-/
import Derived.Test.YtilhicohfnaclaaDoorChecked
import GoSem.Claim
import GoSem.ClaimJoined
import GoSem.ClaimMapViews
import Derived.JoinedTies
import Derived.KernelRfl
namespace Go.Proofs.YtilhicohfnaclaaDoor
/- THE CELL 'sum', in the pinned program and in every row, IS THE sha256 OF THE DUMP (.gsa) THAT YtilhicohfnaclaaDoorProg.lean LOADS. Nothing in Lean hashes anything: it is a label: what it is worth is what the hold of that sum in a sandbox is worth. -/
noncomputable def Tryd.pinned : Pinned := { name := "ytilhicohfnaclaadoor", sum := "84bc789a92518b86f7e345da9001091289a7bb5a0cce418ac1ee65df13aa4753", checked := Tryd.checked }
namespace Rows
def none {H : Type} : Left H := { results := [], args := [] }

/- WHAT THE LISTED PACKAGE-LEVEL VARIABLES READ AS WHEN THE CALL BEGINS. Each datum BY PROGRAM (the guide's laid-datum.mjs) off the statement by which the dump's own 'gosem.cut.vars' lays the variable. In a bare row this is a premise. The card (YtilhicohfnaclaaDoorCards.lean) ties it to the program's text. -/
def laid_math_bits_deBruijn64tab {H : Type} : DataW H := .agg [.lit (.int .u8 0), .lit (.int .u8 1), .lit (.int .u8 56), .lit (.int .u8 2), .lit (.int .u8 57), .lit (.int .u8 49), .lit (.int .u8 28), .lit (.int .u8 3), .lit (.int .u8 61), .lit (.int .u8 58), .lit (.int .u8 42), .lit (.int .u8 50), .lit (.int .u8 38), .lit (.int .u8 29), .lit (.int .u8 17), .lit (.int .u8 4), .lit (.int .u8 62), .lit (.int .u8 47), .lit (.int .u8 59), .lit (.int .u8 36), .lit (.int .u8 45), .lit (.int .u8 43), .lit (.int .u8 51), .lit (.int .u8 22), .lit (.int .u8 53), .lit (.int .u8 39), .lit (.int .u8 33), .lit (.int .u8 30), .lit (.int .u8 24), .lit (.int .u8 18), .lit (.int .u8 12), .lit (.int .u8 5), .lit (.int .u8 63), .lit (.int .u8 55), .lit (.int .u8 48), .lit (.int .u8 27), .lit (.int .u8 60), .lit (.int .u8 41), .lit (.int .u8 37), .lit (.int .u8 16), .lit (.int .u8 46), .lit (.int .u8 35), .lit (.int .u8 44), .lit (.int .u8 21), .lit (.int .u8 52), .lit (.int .u8 32), .lit (.int .u8 23), .lit (.int .u8 11), .lit (.int .u8 54), .lit (.int .u8 26), .lit (.int .u8 40), .lit (.int .u8 15), .lit (.int .u8 34), .lit (.int .u8 20), .lit (.int .u8 31), .lit (.int .u8 10), .lit (.int .u8 25), .lit (.int .u8 14), .lit (.int .u8 19), .lit (.int .u8 9), .lit (.int .u8 13), .lit (.int .u8 8), .lit (.int .u8 7), .lit (.int .u8 6)]
def laid_kakugyo_board_home {H : Type} : DataW H := .agg [.lit (.int .i64 2), .lit (.int .i64 3), .lit (.int .i64 4), .lit (.int .i64 5), .lit (.int .i64 8), .lit (.int .i64 5), .lit (.int .i64 4), .lit (.int .i64 3), .lit (.int .i64 2)]

/-- 'kakugyolaw08.AttackOn': WHATEVER THE INPUT: true; the input reads as it did. -/
def attackOnSpec : ChangeSpec := { name := "attackOn", fn := fun _ => fun
  | [d1, d2, d3] => { results := [.lit (.bool true)], args := [d1, d2, d3] }
  | _ => none }
def attackOnRow : OpenClaim := { program := "ytilhicohfnaclaadoor", sum := "84bc789a92518b86f7e345da9001091289a7bb5a0cce418ac1ee65df13aa4753", func := "kakugyo/kakugyolaw08.AttackOn", spec := "attackOn", named := ["math/bits.deBruijn64tab"], plainKeys := false, apart := false, laid := [("math/bits.deBruijn64tab", laid_math_bits_deBruijn64tab)] }
def AttackOnSaid : Prop := attackOnRow.holds Tryd.pinned (OpenSpec.ofChange attackOnSpec)

/-- ITS FALSE NEIGHBOUR: 'it returns false'. Refute it at one input. -/
def attackOnWrong : ChangeSpec := { name := "attackOn", fn := fun _ => fun
  | [d1, d2, d3] => { results := [.lit (.bool false)], args := [d1, d2, d3] }
  | _ => none }
def AttackOnWrongFalsely : Prop := attackOnRow.holds Tryd.pinned (OpenSpec.ofChange attackOnWrong)

/-- 'kakugyolaw08.AttackAll': WHATEVER THE INPUT: true; the input reads as it did. -/
def attackAllSpec : ChangeSpec := { name := "attackAll", fn := fun _ => fun
  | [d1, d2] => { results := [.lit (.bool true)], args := [d1, d2] }
  | _ => none }
def attackAllRow : OpenClaim := { program := "ytilhicohfnaclaadoor", sum := "84bc789a92518b86f7e345da9001091289a7bb5a0cce418ac1ee65df13aa4753", func := "kakugyo/kakugyolaw08.AttackAll", spec := "attackAll", named := ["math/bits.deBruijn64tab"], plainKeys := false, apart := false, laid := [("math/bits.deBruijn64tab", laid_math_bits_deBruijn64tab)] }
def AttackAllSaid : Prop := attackAllRow.holds Tryd.pinned (OpenSpec.ofChange attackAllSpec)

/-- ITS FALSE NEIGHBOUR: 'it returns false'. Refute it at one input. -/
def attackAllWrong : ChangeSpec := { name := "attackAll", fn := fun _ => fun
  | [d1, d2] => { results := [.lit (.bool false)], args := [d1, d2] }
  | _ => none }
def AttackAllWrongFalsely : Prop := attackAllRow.holds Tryd.pinned (OpenSpec.ofChange attackAllWrong)

/-- 'kakugyolaw08.AttackChecks': WHATEVER THE INPUT: true; the input reads as it did. -/
def attackChecksSpec : ChangeSpec := { name := "attackChecks", fn := fun _ => fun
  | [d] => { results := [.lit (.bool true)], args := [d] }
  | _ => none }
def attackChecksRow : OpenClaim := { program := "ytilhicohfnaclaadoor", sum := "84bc789a92518b86f7e345da9001091289a7bb5a0cce418ac1ee65df13aa4753", func := "kakugyo/kakugyolaw08.AttackChecks", spec := "attackChecks", named := ["math/bits.deBruijn64tab"], plainKeys := false, apart := false, laid := [("math/bits.deBruijn64tab", laid_math_bits_deBruijn64tab)] }
def AttackChecksSaid : Prop := attackChecksRow.holds Tryd.pinned (OpenSpec.ofChange attackChecksSpec)

/-- ITS FALSE NEIGHBOUR: 'it returns false'. Refute it at one input. -/
def attackChecksWrong : ChangeSpec := { name := "attackChecks", fn := fun _ => fun
  | [d] => { results := [.lit (.bool false)], args := [d] }
  | _ => none }
def AttackChecksWrongFalsely : Prop := attackChecksRow.holds Tryd.pinned (OpenSpec.ofChange attackChecksWrong)

/-- 'kakugyolaw08.AttackPins': WHATEVER THE INPUT: true; the input reads as it did. -/
def attackPinsSpec : ChangeSpec := { name := "attackPins", fn := fun _ => fun
  | [d1, d2] => { results := [.lit (.bool true)], args := [d1, d2] }
  | _ => none }
def attackPinsRow : OpenClaim := { program := "ytilhicohfnaclaadoor", sum := "84bc789a92518b86f7e345da9001091289a7bb5a0cce418ac1ee65df13aa4753", func := "kakugyo/kakugyolaw08.AttackPins", spec := "attackPins", named := ["math/bits.deBruijn64tab"], plainKeys := false, apart := false, laid := [("math/bits.deBruijn64tab", laid_math_bits_deBruijn64tab)] }
def AttackPinsSaid : Prop := attackPinsRow.holds Tryd.pinned (OpenSpec.ofChange attackPinsSpec)

/-- ITS FALSE NEIGHBOUR: 'it returns false'. Refute it at one input. -/
def attackPinsWrong : ChangeSpec := { name := "attackPins", fn := fun _ => fun
  | [d1, d2] => { results := [.lit (.bool false)], args := [d1, d2] }
  | _ => none }
def AttackPinsWrongFalsely : Prop := attackPinsRow.holds Tryd.pinned (OpenSpec.ofChange attackPinsWrong)

/-- 'kakugyolaw08.AttackMore': WHATEVER THE INPUT: true; the input reads as it did. -/
def attackMoreSpec : ChangeSpec := { name := "attackMore", fn := fun _ => fun
  | [d1, d2, d3] => { results := [.lit (.bool true)], args := [d1, d2, d3] }
  | _ => none }
def attackMoreRow : OpenClaim := { program := "ytilhicohfnaclaadoor", sum := "84bc789a92518b86f7e345da9001091289a7bb5a0cce418ac1ee65df13aa4753", func := "kakugyo/kakugyolaw08.AttackMore", spec := "attackMore", named := ["math/bits.deBruijn64tab"], plainKeys := false, apart := false, laid := [("math/bits.deBruijn64tab", laid_math_bits_deBruijn64tab)] }
def AttackMoreSaid : Prop := attackMoreRow.holds Tryd.pinned (OpenSpec.ofChange attackMoreSpec)

/-- ITS FALSE NEIGHBOUR: 'it returns false'. Refute it at one input. -/
def attackMoreWrong : ChangeSpec := { name := "attackMore", fn := fun _ => fun
  | [d1, d2, d3] => { results := [.lit (.bool false)], args := [d1, d2, d3] }
  | _ => none }
def AttackMoreWrongFalsely : Prop := attackMoreRow.holds Tryd.pinned (OpenSpec.ofChange attackMoreWrong)

/-- 'kakugyolaw08.AttackKings': WHATEVER THE INPUT: true; the input reads as it did. -/
def attackKingsSpec : ChangeSpec := { name := "attackKings", fn := fun _ => fun
  | [d1, d2] => { results := [.lit (.bool true)], args := [d1, d2] }
  | _ => none }
def attackKingsRow : OpenClaim := { program := "ytilhicohfnaclaadoor", sum := "84bc789a92518b86f7e345da9001091289a7bb5a0cce418ac1ee65df13aa4753", func := "kakugyo/kakugyolaw08.AttackKings", spec := "attackKings", named := ["math/bits.deBruijn64tab"], plainKeys := false, apart := false, laid := [("math/bits.deBruijn64tab", laid_math_bits_deBruijn64tab)] }
def AttackKingsSaid : Prop := attackKingsRow.holds Tryd.pinned (OpenSpec.ofChange attackKingsSpec)

/-- ITS FALSE NEIGHBOUR: 'it returns false'. Refute it at one input. -/
def attackKingsWrong : ChangeSpec := { name := "attackKings", fn := fun _ => fun
  | [d1, d2] => { results := [.lit (.bool false)], args := [d1, d2] }
  | _ => none }
def AttackKingsWrongFalsely : Prop := attackKingsRow.holds Tryd.pinned (OpenSpec.ofChange attackKingsWrong)

/-- 'kakugyolaw10.GenAll': WHATEVER THE INPUT: true; the input reads as it did. -/
def genAllSpec : ChangeSpec := { name := "genAll", fn := fun _ => fun
  | [d] => { results := [.lit (.bool true)], args := [d] }
  | _ => none }
def genAllRow : OpenClaim := { program := "ytilhicohfnaclaadoor", sum := "84bc789a92518b86f7e345da9001091289a7bb5a0cce418ac1ee65df13aa4753", func := "kakugyo/kakugyolaw10.GenAll", spec := "genAll", named := ["kakugyo/board.home", "math/bits.deBruijn64tab"], plainKeys := false, apart := false, laid := [("math/bits.deBruijn64tab", laid_math_bits_deBruijn64tab), ("kakugyo/board.home", laid_kakugyo_board_home)] }
def GenAllSaid : Prop := genAllRow.holds Tryd.pinned (OpenSpec.ofChange genAllSpec)

/-- ITS FALSE NEIGHBOUR: 'it returns false'. Refute it at one input. -/
def genAllWrong : ChangeSpec := { name := "genAll", fn := fun _ => fun
  | [d] => { results := [.lit (.bool false)], args := [d] }
  | _ => none }
def GenAllWrongFalsely : Prop := genAllRow.holds Tryd.pinned (OpenSpec.ofChange genAllWrong)

/-- 'kakugyolaw10.GenOnto': WHATEVER THE INPUT: true; the input reads as it did. -/
def genOntoSpec : ChangeSpec := { name := "genOnto", fn := fun _ => fun
  | [d1, d2] => { results := [.lit (.bool true)], args := [d1, d2] }
  | _ => none }
def genOntoRow : OpenClaim := { program := "ytilhicohfnaclaadoor", sum := "84bc789a92518b86f7e345da9001091289a7bb5a0cce418ac1ee65df13aa4753", func := "kakugyo/kakugyolaw10.GenOnto", spec := "genOnto", named := ["kakugyo/board.home", "math/bits.deBruijn64tab"], plainKeys := false, apart := false, laid := [("math/bits.deBruijn64tab", laid_math_bits_deBruijn64tab), ("kakugyo/board.home", laid_kakugyo_board_home)] }
def GenOntoSaid : Prop := genOntoRow.holds Tryd.pinned (OpenSpec.ofChange genOntoSpec)

/-- ITS FALSE NEIGHBOUR: 'it returns false'. Refute it at one input. -/
def genOntoWrong : ChangeSpec := { name := "genOnto", fn := fun _ => fun
  | [d1, d2] => { results := [.lit (.bool false)], args := [d1, d2] }
  | _ => none }
def GenOntoWrongFalsely : Prop := genOntoRow.holds Tryd.pinned (OpenSpec.ofChange genOntoWrong)

/-- 'kakugyolaw10.GenPromotes': WHATEVER THE INPUT: true; the input reads as it did. -/
def genPromotesSpec : ChangeSpec := { name := "genPromotes", fn := fun _ => fun
  | [d1, d2, d3] => { results := [.lit (.bool true)], args := [d1, d2, d3] }
  | _ => none }
def genPromotesRow : OpenClaim := { program := "ytilhicohfnaclaadoor", sum := "84bc789a92518b86f7e345da9001091289a7bb5a0cce418ac1ee65df13aa4753", func := "kakugyo/kakugyolaw10.GenPromotes", spec := "genPromotes", named := ["kakugyo/board.home", "math/bits.deBruijn64tab"], plainKeys := false, apart := false, laid := [("math/bits.deBruijn64tab", laid_math_bits_deBruijn64tab), ("kakugyo/board.home", laid_kakugyo_board_home)] }
def GenPromotesSaid : Prop := genPromotesRow.holds Tryd.pinned (OpenSpec.ofChange genPromotesSpec)

/-- ITS FALSE NEIGHBOUR: 'it returns false'. Refute it at one input. -/
def genPromotesWrong : ChangeSpec := { name := "genPromotes", fn := fun _ => fun
  | [d1, d2, d3] => { results := [.lit (.bool false)], args := [d1, d2, d3] }
  | _ => none }
def GenPromotesWrongFalsely : Prop := genPromotesRow.holds Tryd.pinned (OpenSpec.ofChange genPromotesWrong)

/-- 'kakugyolaw10.GenFree': WHATEVER THE INPUT: true; the input reads as it did. -/
def genFreeSpec : ChangeSpec := { name := "genFree", fn := fun _ => fun
  | [d1, d2, d3] => { results := [.lit (.bool true)], args := [d1, d2, d3] }
  | _ => none }
def genFreeRow : OpenClaim := { program := "ytilhicohfnaclaadoor", sum := "84bc789a92518b86f7e345da9001091289a7bb5a0cce418ac1ee65df13aa4753", func := "kakugyo/kakugyolaw10.GenFree", spec := "genFree", named := ["kakugyo/board.home", "math/bits.deBruijn64tab"], plainKeys := false, apart := false, laid := [("math/bits.deBruijn64tab", laid_math_bits_deBruijn64tab), ("kakugyo/board.home", laid_kakugyo_board_home)] }
def GenFreeSaid : Prop := genFreeRow.holds Tryd.pinned (OpenSpec.ofChange genFreeSpec)

/-- ITS FALSE NEIGHBOUR: 'it returns false'. Refute it at one input. -/
def genFreeWrong : ChangeSpec := { name := "genFree", fn := fun _ => fun
  | [d1, d2, d3] => { results := [.lit (.bool false)], args := [d1, d2, d3] }
  | _ => none }
def GenFreeWrongFalsely : Prop := genFreeRow.holds Tryd.pinned (OpenSpec.ofChange genFreeWrong)

/-- 'kakugyolaw10.GenTurns': WHATEVER THE INPUT: true; the input reads as it did. -/
def genTurnsSpec : ChangeSpec := { name := "genTurns", fn := fun _ => fun
  | [d] => { results := [.lit (.bool true)], args := [d] }
  | _ => none }
def genTurnsRow : OpenClaim := { program := "ytilhicohfnaclaadoor", sum := "84bc789a92518b86f7e345da9001091289a7bb5a0cce418ac1ee65df13aa4753", func := "kakugyo/kakugyolaw10.GenTurns", spec := "genTurns", named := ["kakugyo/board.home", "math/bits.deBruijn64tab"], plainKeys := false, apart := false, laid := [("math/bits.deBruijn64tab", laid_math_bits_deBruijn64tab), ("kakugyo/board.home", laid_kakugyo_board_home)] }
def GenTurnsSaid : Prop := genTurnsRow.holds Tryd.pinned (OpenSpec.ofChange genTurnsSpec)

/-- ITS FALSE NEIGHBOUR: 'it returns false'. Refute it at one input. -/
def genTurnsWrong : ChangeSpec := { name := "genTurns", fn := fun _ => fun
  | [d] => { results := [.lit (.bool false)], args := [d] }
  | _ => none }
def GenTurnsWrongFalsely : Prop := genTurnsRow.holds Tryd.pinned (OpenSpec.ofChange genTurnsWrong)

/-- 'kakugyolaw10.GenOnce': WHATEVER THE INPUT: true; the input reads as it did. -/
def genOnceSpec : ChangeSpec := { name := "genOnce", fn := fun _ => fun
  | [d] => { results := [.lit (.bool true)], args := [d] }
  | _ => none }
def genOnceRow : OpenClaim := { program := "ytilhicohfnaclaadoor", sum := "84bc789a92518b86f7e345da9001091289a7bb5a0cce418ac1ee65df13aa4753", func := "kakugyo/kakugyolaw10.GenOnce", spec := "genOnce", named := ["kakugyo/board.home", "math/bits.deBruijn64tab"], plainKeys := false, apart := false, laid := [("math/bits.deBruijn64tab", laid_math_bits_deBruijn64tab), ("kakugyo/board.home", laid_kakugyo_board_home)] }
def GenOnceSaid : Prop := genOnceRow.holds Tryd.pinned (OpenSpec.ofChange genOnceSpec)

/-- ITS FALSE NEIGHBOUR: 'it returns false'. Refute it at one input. -/
def genOnceWrong : ChangeSpec := { name := "genOnce", fn := fun _ => fun
  | [d] => { results := [.lit (.bool false)], args := [d] }
  | _ => none }
def GenOnceWrongFalsely : Prop := genOnceRow.holds Tryd.pinned (OpenSpec.ofChange genOnceWrong)

/- THE SECOND FORM. 'bulk': how many values and letters a reading holds, each counted each time it is reached (what is shared counts as often as it is met; a slice's spare places count too). A statement '..UptoSaid' is the law's where the arguments, and the package variables that the reading takes, are together of bulk at most 1048576: NARROWER than '..Said'. Prove '..Said' where nothing that the law and all that it calls make is longer than what came in: it says more and counts as full. Else prove '..UptoSaid'. A law counts once. -/
mutual
def uptoBulk {H : Type} : DataW H → Nat
  | .lit (.string bytes) => bytes.length + 1
  | .lit _ => 1
  | .nil => 1
  | .ptr d => uptoBulk d + 1
  | .slice elems spare => uptoBulkAll elems + uptoBulkAll spare + 1
  | .agg parts => uptoBulkAll parts + 1
  | .iface _ d => uptoBulk d + 1
  | .map entries => uptoBulkEntries entries + 1
  | .held _ => 1
def uptoBulkAll {H : Type} : List (DataW H) → Nat
  | [] => 0
  | d :: r => uptoBulk d + uptoBulkAll r
def uptoBulkEntries {H : Type} : List (Lit × DataW H) → Nat
  | [] => 0
  | x :: r => uptoBulkEntry x + uptoBulkEntries r
def uptoBulkEntry {H : Type} : Lit × DataW H → Nat
  | (.string bytes, d) => bytes.length + uptoBulk d + 1
  | (_, d) => uptoBulk d + 1
 end
def uptoSmall : (H : Type) → List (DataW H) → Bool := fun _ ds => decide (uptoBulkAll ds ≤ 1048576)
def OpenSpec.upto (s : _root_.Go.ChangeSpec) : _root_.Go.OpenSpec := { _root_.Go.OpenSpec.ofChange s with cond := some uptoSmall }

/-- 'kakugyolaw08.AttackOn', WHERE WHAT IT READS IS OF BULK AT MOST 1048576: true; the input reads as it did. -/
def attackOnUptoRow : OpenClaim := { program := "ytilhicohfnaclaadoor", sum := "84bc789a92518b86f7e345da9001091289a7bb5a0cce418ac1ee65df13aa4753", func := "kakugyo/kakugyolaw08.AttackOn", spec := "attackOn", named := ["math/bits.deBruijn64tab"], plainKeys := false, apart := false, laid := [("math/bits.deBruijn64tab", laid_math_bits_deBruijn64tab)], narrowed := true }
def AttackOnUptoSaid : Prop := attackOnUptoRow.holds Tryd.pinned (OpenSpec.upto attackOnSpec)

/-- 'kakugyolaw08.AttackAll', WHERE WHAT IT READS IS OF BULK AT MOST 1048576: true; the input reads as it did. -/
def attackAllUptoRow : OpenClaim := { program := "ytilhicohfnaclaadoor", sum := "84bc789a92518b86f7e345da9001091289a7bb5a0cce418ac1ee65df13aa4753", func := "kakugyo/kakugyolaw08.AttackAll", spec := "attackAll", named := ["math/bits.deBruijn64tab"], plainKeys := false, apart := false, laid := [("math/bits.deBruijn64tab", laid_math_bits_deBruijn64tab)], narrowed := true }
def AttackAllUptoSaid : Prop := attackAllUptoRow.holds Tryd.pinned (OpenSpec.upto attackAllSpec)

/-- 'kakugyolaw08.AttackChecks', WHERE WHAT IT READS IS OF BULK AT MOST 1048576: true; the input reads as it did. -/
def attackChecksUptoRow : OpenClaim := { program := "ytilhicohfnaclaadoor", sum := "84bc789a92518b86f7e345da9001091289a7bb5a0cce418ac1ee65df13aa4753", func := "kakugyo/kakugyolaw08.AttackChecks", spec := "attackChecks", named := ["math/bits.deBruijn64tab"], plainKeys := false, apart := false, laid := [("math/bits.deBruijn64tab", laid_math_bits_deBruijn64tab)], narrowed := true }
def AttackChecksUptoSaid : Prop := attackChecksUptoRow.holds Tryd.pinned (OpenSpec.upto attackChecksSpec)

/-- 'kakugyolaw08.AttackPins', WHERE WHAT IT READS IS OF BULK AT MOST 1048576: true; the input reads as it did. -/
def attackPinsUptoRow : OpenClaim := { program := "ytilhicohfnaclaadoor", sum := "84bc789a92518b86f7e345da9001091289a7bb5a0cce418ac1ee65df13aa4753", func := "kakugyo/kakugyolaw08.AttackPins", spec := "attackPins", named := ["math/bits.deBruijn64tab"], plainKeys := false, apart := false, laid := [("math/bits.deBruijn64tab", laid_math_bits_deBruijn64tab)], narrowed := true }
def AttackPinsUptoSaid : Prop := attackPinsUptoRow.holds Tryd.pinned (OpenSpec.upto attackPinsSpec)

/-- 'kakugyolaw08.AttackMore', WHERE WHAT IT READS IS OF BULK AT MOST 1048576: true; the input reads as it did. -/
def attackMoreUptoRow : OpenClaim := { program := "ytilhicohfnaclaadoor", sum := "84bc789a92518b86f7e345da9001091289a7bb5a0cce418ac1ee65df13aa4753", func := "kakugyo/kakugyolaw08.AttackMore", spec := "attackMore", named := ["math/bits.deBruijn64tab"], plainKeys := false, apart := false, laid := [("math/bits.deBruijn64tab", laid_math_bits_deBruijn64tab)], narrowed := true }
def AttackMoreUptoSaid : Prop := attackMoreUptoRow.holds Tryd.pinned (OpenSpec.upto attackMoreSpec)

/-- 'kakugyolaw08.AttackKings', WHERE WHAT IT READS IS OF BULK AT MOST 1048576: true; the input reads as it did. -/
def attackKingsUptoRow : OpenClaim := { program := "ytilhicohfnaclaadoor", sum := "84bc789a92518b86f7e345da9001091289a7bb5a0cce418ac1ee65df13aa4753", func := "kakugyo/kakugyolaw08.AttackKings", spec := "attackKings", named := ["math/bits.deBruijn64tab"], plainKeys := false, apart := false, laid := [("math/bits.deBruijn64tab", laid_math_bits_deBruijn64tab)], narrowed := true }
def AttackKingsUptoSaid : Prop := attackKingsUptoRow.holds Tryd.pinned (OpenSpec.upto attackKingsSpec)

/-- 'kakugyolaw10.GenAll', WHERE WHAT IT READS IS OF BULK AT MOST 1048576: true; the input reads as it did. -/
def genAllUptoRow : OpenClaim := { program := "ytilhicohfnaclaadoor", sum := "84bc789a92518b86f7e345da9001091289a7bb5a0cce418ac1ee65df13aa4753", func := "kakugyo/kakugyolaw10.GenAll", spec := "genAll", named := ["kakugyo/board.home", "math/bits.deBruijn64tab"], plainKeys := false, apart := false, laid := [("math/bits.deBruijn64tab", laid_math_bits_deBruijn64tab), ("kakugyo/board.home", laid_kakugyo_board_home)], narrowed := true }
def GenAllUptoSaid : Prop := genAllUptoRow.holds Tryd.pinned (OpenSpec.upto genAllSpec)

/-- 'kakugyolaw10.GenOnto', WHERE WHAT IT READS IS OF BULK AT MOST 1048576: true; the input reads as it did. -/
def genOntoUptoRow : OpenClaim := { program := "ytilhicohfnaclaadoor", sum := "84bc789a92518b86f7e345da9001091289a7bb5a0cce418ac1ee65df13aa4753", func := "kakugyo/kakugyolaw10.GenOnto", spec := "genOnto", named := ["kakugyo/board.home", "math/bits.deBruijn64tab"], plainKeys := false, apart := false, laid := [("math/bits.deBruijn64tab", laid_math_bits_deBruijn64tab), ("kakugyo/board.home", laid_kakugyo_board_home)], narrowed := true }
def GenOntoUptoSaid : Prop := genOntoUptoRow.holds Tryd.pinned (OpenSpec.upto genOntoSpec)

/-- 'kakugyolaw10.GenPromotes', WHERE WHAT IT READS IS OF BULK AT MOST 1048576: true; the input reads as it did. -/
def genPromotesUptoRow : OpenClaim := { program := "ytilhicohfnaclaadoor", sum := "84bc789a92518b86f7e345da9001091289a7bb5a0cce418ac1ee65df13aa4753", func := "kakugyo/kakugyolaw10.GenPromotes", spec := "genPromotes", named := ["kakugyo/board.home", "math/bits.deBruijn64tab"], plainKeys := false, apart := false, laid := [("math/bits.deBruijn64tab", laid_math_bits_deBruijn64tab), ("kakugyo/board.home", laid_kakugyo_board_home)], narrowed := true }
def GenPromotesUptoSaid : Prop := genPromotesUptoRow.holds Tryd.pinned (OpenSpec.upto genPromotesSpec)

/-- 'kakugyolaw10.GenFree', WHERE WHAT IT READS IS OF BULK AT MOST 1048576: true; the input reads as it did. -/
def genFreeUptoRow : OpenClaim := { program := "ytilhicohfnaclaadoor", sum := "84bc789a92518b86f7e345da9001091289a7bb5a0cce418ac1ee65df13aa4753", func := "kakugyo/kakugyolaw10.GenFree", spec := "genFree", named := ["kakugyo/board.home", "math/bits.deBruijn64tab"], plainKeys := false, apart := false, laid := [("math/bits.deBruijn64tab", laid_math_bits_deBruijn64tab), ("kakugyo/board.home", laid_kakugyo_board_home)], narrowed := true }
def GenFreeUptoSaid : Prop := genFreeUptoRow.holds Tryd.pinned (OpenSpec.upto genFreeSpec)

/-- 'kakugyolaw10.GenTurns', WHERE WHAT IT READS IS OF BULK AT MOST 1048576: true; the input reads as it did. -/
def genTurnsUptoRow : OpenClaim := { program := "ytilhicohfnaclaadoor", sum := "84bc789a92518b86f7e345da9001091289a7bb5a0cce418ac1ee65df13aa4753", func := "kakugyo/kakugyolaw10.GenTurns", spec := "genTurns", named := ["kakugyo/board.home", "math/bits.deBruijn64tab"], plainKeys := false, apart := false, laid := [("math/bits.deBruijn64tab", laid_math_bits_deBruijn64tab), ("kakugyo/board.home", laid_kakugyo_board_home)], narrowed := true }
def GenTurnsUptoSaid : Prop := genTurnsUptoRow.holds Tryd.pinned (OpenSpec.upto genTurnsSpec)

/-- 'kakugyolaw10.GenOnce', WHERE WHAT IT READS IS OF BULK AT MOST 1048576: true; the input reads as it did. -/
def genOnceUptoRow : OpenClaim := { program := "ytilhicohfnaclaadoor", sum := "84bc789a92518b86f7e345da9001091289a7bb5a0cce418ac1ee65df13aa4753", func := "kakugyo/kakugyolaw10.GenOnce", spec := "genOnce", named := ["kakugyo/board.home", "math/bits.deBruijn64tab"], plainKeys := false, apart := false, laid := [("math/bits.deBruijn64tab", laid_math_bits_deBruijn64tab), ("kakugyo/board.home", laid_kakugyo_board_home)], narrowed := true }
def GenOnceUptoSaid : Prop := genOnceUptoRow.holds Tryd.pinned (OpenSpec.upto genOnceSpec)

end Rows
end Go.Proofs.YtilhicohfnaclaaDoor
