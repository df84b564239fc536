/-
  NARROWER THAN 'FOR EVERY INPUT', by the rows' own cells (each row's printed sentence says how): BoardHolds: laid · DeedBack: laid · DeedKeys: laid · DeedPieces: laid · DeedHands: laid · DeedTwice: laid · AttackOn: laid · AttackAll: laid · AttackChecks: laid · AttackPins: laid · AttackMore: laid · AttackKings: laid.
  DERIVED. THE GIVEN ROWS OF THIS SEAT. 12 by the template 'for every input the law returns true; each argument reads behind the call as it read before'; 0 by the template 'total and deterministic' (their statements: YtbopbekehccdmaaDoorTotals.lean).
  GIVEN WITH THE SEED: the statements are not yours to turn. If you find one false, say at which input.
  Laid BY PROGRAM, IN A SANDBOX (cutbox-rows.mjs): the forced cells as the released guide's own fill.sh prints them over the translation ca8955ddad2f9e3e… (all of the seat's roots in one cut). By AI agents, Wed Nov 11 2026. No macro, syntax, notation, axiom, sorry.
-/
import Derived.Test.YtbopbekehccdmaaDoorChecked
import GoSem.Claim
import GoSem.ClaimJoined
import GoSem.ClaimMapViews
import Derived.JoinedTies
import Derived.KernelRfl
namespace Go.Proofs.YtbopbekehccdmaaDoor
/- THE CELL 'sum', in the pinned program and in every row, IS THE sha256 OF THE DUMP (.gsa) THAT YtbopbekehccdmaaDoorProg.lean LOADS. Nothing in Lean hashes anything: it is a label: what it is worth is what the hold of that sum in a sandbox is worth. -/
noncomputable def Tryd.pinned : Pinned := { name := "ytbopbekehccdmaadoor", sum := "ca8955ddad2f9e3e3afe46ff5cc425fa9714ede53b05ac82635e872672d17e9f", checked := Tryd.checked }
namespace Rows
def none {H : Type} : Left H := { results := [], args := [] }

/- WHAT THE LISTED PACKAGE-LEVEL VARIABLES READ AS WHEN THE CALL BEGINS. Each datum BY PROGRAM (the guide's laid-datum.mjs) off the statement by which the dump's own 'gosem.cut.vars' lays the variable. In a bare row this is a premise. The card (YtbopbekehccdmaaDoorCards.lean) ties it to the program's text. -/
def laid_math_bits_deBruijn64tab {H : Type} : DataW H := .agg [.lit (.int .u8 0), .lit (.int .u8 1), .lit (.int .u8 56), .lit (.int .u8 2), .lit (.int .u8 57), .lit (.int .u8 49), .lit (.int .u8 28), .lit (.int .u8 3), .lit (.int .u8 61), .lit (.int .u8 58), .lit (.int .u8 42), .lit (.int .u8 50), .lit (.int .u8 38), .lit (.int .u8 29), .lit (.int .u8 17), .lit (.int .u8 4), .lit (.int .u8 62), .lit (.int .u8 47), .lit (.int .u8 59), .lit (.int .u8 36), .lit (.int .u8 45), .lit (.int .u8 43), .lit (.int .u8 51), .lit (.int .u8 22), .lit (.int .u8 53), .lit (.int .u8 39), .lit (.int .u8 33), .lit (.int .u8 30), .lit (.int .u8 24), .lit (.int .u8 18), .lit (.int .u8 12), .lit (.int .u8 5), .lit (.int .u8 63), .lit (.int .u8 55), .lit (.int .u8 48), .lit (.int .u8 27), .lit (.int .u8 60), .lit (.int .u8 41), .lit (.int .u8 37), .lit (.int .u8 16), .lit (.int .u8 46), .lit (.int .u8 35), .lit (.int .u8 44), .lit (.int .u8 21), .lit (.int .u8 52), .lit (.int .u8 32), .lit (.int .u8 23), .lit (.int .u8 11), .lit (.int .u8 54), .lit (.int .u8 26), .lit (.int .u8 40), .lit (.int .u8 15), .lit (.int .u8 34), .lit (.int .u8 20), .lit (.int .u8 31), .lit (.int .u8 10), .lit (.int .u8 25), .lit (.int .u8 14), .lit (.int .u8 19), .lit (.int .u8 9), .lit (.int .u8 13), .lit (.int .u8 8), .lit (.int .u8 7), .lit (.int .u8 6)]
def laid_kakugyo_board_home {H : Type} : DataW H := .agg [.lit (.int .i64 2), .lit (.int .i64 3), .lit (.int .i64 4), .lit (.int .i64 5), .lit (.int .i64 8), .lit (.int .i64 5), .lit (.int .i64 4), .lit (.int .i64 3), .lit (.int .i64 2)]

/-- 'kakugyolaw05.BoardHolds': WHATEVER THE INPUT: true; the input reads as it did. -/
def boardHoldsSpec : ChangeSpec := { name := "boardHolds", fn := fun _ => fun
  | [d1, d2] => { results := [.lit (.bool true)], args := [d1, d2] }
  | _ => none }
def boardHoldsRow : OpenClaim := { program := "ytbopbekehccdmaadoor", sum := "ca8955ddad2f9e3e3afe46ff5cc425fa9714ede53b05ac82635e872672d17e9f", func := "kakugyo/kakugyolaw05.BoardHolds", spec := "boardHolds", named := ["kakugyo/board.home", "math/bits.deBruijn64tab"], apart := false, laid := [("math/bits.deBruijn64tab", laid_math_bits_deBruijn64tab), ("kakugyo/board.home", laid_kakugyo_board_home)] }
def BoardHoldsSaid : Prop := boardHoldsRow.holds Tryd.pinned (OpenSpec.ofChange boardHoldsSpec)

/-- ITS FALSE NEIGHBOUR: 'it returns false'. Refute it at one input. -/
def boardHoldsWrong : ChangeSpec := { name := "boardHolds", fn := fun _ => fun
  | [d1, d2] => { results := [.lit (.bool false)], args := [d1, d2] }
  | _ => none }
def BoardHoldsWrongFalsely : Prop := boardHoldsRow.holds Tryd.pinned (OpenSpec.ofChange boardHoldsWrong)

/-- 'kakugyolaw09.DeedBack': WHATEVER THE INPUT: true; the input reads as it did. -/
def deedBackSpec : ChangeSpec := { name := "deedBack", fn := fun _ => fun
  | [d1, d2] => { results := [.lit (.bool true)], args := [d1, d2] }
  | _ => none }
def deedBackRow : OpenClaim := { program := "ytbopbekehccdmaadoor", sum := "ca8955ddad2f9e3e3afe46ff5cc425fa9714ede53b05ac82635e872672d17e9f", func := "kakugyo/kakugyolaw09.DeedBack", spec := "deedBack", named := ["kakugyo/board.home", "math/bits.deBruijn64tab"], apart := false, laid := [("math/bits.deBruijn64tab", laid_math_bits_deBruijn64tab), ("kakugyo/board.home", laid_kakugyo_board_home)] }
def DeedBackSaid : Prop := deedBackRow.holds Tryd.pinned (OpenSpec.ofChange deedBackSpec)

/-- ITS FALSE NEIGHBOUR: 'it returns false'. Refute it at one input. -/
def deedBackWrong : ChangeSpec := { name := "deedBack", fn := fun _ => fun
  | [d1, d2] => { results := [.lit (.bool false)], args := [d1, d2] }
  | _ => none }
def DeedBackWrongFalsely : Prop := deedBackRow.holds Tryd.pinned (OpenSpec.ofChange deedBackWrong)

/-- 'kakugyolaw09.DeedKeys': WHATEVER THE INPUT: true; the input reads as it did. -/
def deedKeysSpec : ChangeSpec := { name := "deedKeys", fn := fun _ => fun
  | [d1, d2] => { results := [.lit (.bool true)], args := [d1, d2] }
  | _ => none }
def deedKeysRow : OpenClaim := { program := "ytbopbekehccdmaadoor", sum := "ca8955ddad2f9e3e3afe46ff5cc425fa9714ede53b05ac82635e872672d17e9f", func := "kakugyo/kakugyolaw09.DeedKeys", spec := "deedKeys", named := ["kakugyo/board.home"], apart := false, laid := [("kakugyo/board.home", laid_kakugyo_board_home)] }
def DeedKeysSaid : Prop := deedKeysRow.holds Tryd.pinned (OpenSpec.ofChange deedKeysSpec)

/-- ITS FALSE NEIGHBOUR: 'it returns false'. Refute it at one input. -/
def deedKeysWrong : ChangeSpec := { name := "deedKeys", fn := fun _ => fun
  | [d1, d2] => { results := [.lit (.bool false)], args := [d1, d2] }
  | _ => none }
def DeedKeysWrongFalsely : Prop := deedKeysRow.holds Tryd.pinned (OpenSpec.ofChange deedKeysWrong)

/-- 'kakugyolaw09.DeedPieces': WHATEVER THE INPUT: true; the input reads as it did. -/
def deedPiecesSpec : ChangeSpec := { name := "deedPieces", fn := fun _ => fun
  | [d1, d2] => { results := [.lit (.bool true)], args := [d1, d2] }
  | _ => none }
def deedPiecesRow : OpenClaim := { program := "ytbopbekehccdmaadoor", sum := "ca8955ddad2f9e3e3afe46ff5cc425fa9714ede53b05ac82635e872672d17e9f", func := "kakugyo/kakugyolaw09.DeedPieces", spec := "deedPieces", named := ["kakugyo/board.home"], apart := false, laid := [("kakugyo/board.home", laid_kakugyo_board_home)] }
def DeedPiecesSaid : Prop := deedPiecesRow.holds Tryd.pinned (OpenSpec.ofChange deedPiecesSpec)

/-- ITS FALSE NEIGHBOUR: 'it returns false'. Refute it at one input. -/
def deedPiecesWrong : ChangeSpec := { name := "deedPieces", fn := fun _ => fun
  | [d1, d2] => { results := [.lit (.bool false)], args := [d1, d2] }
  | _ => none }
def DeedPiecesWrongFalsely : Prop := deedPiecesRow.holds Tryd.pinned (OpenSpec.ofChange deedPiecesWrong)

/-- 'kakugyolaw09.DeedHands': WHATEVER THE INPUT: true; the input reads as it did. -/
def deedHandsSpec : ChangeSpec := { name := "deedHands", fn := fun _ => fun
  | [d1, d2] => { results := [.lit (.bool true)], args := [d1, d2] }
  | _ => none }
def deedHandsRow : OpenClaim := { program := "ytbopbekehccdmaadoor", sum := "ca8955ddad2f9e3e3afe46ff5cc425fa9714ede53b05ac82635e872672d17e9f", func := "kakugyo/kakugyolaw09.DeedHands", spec := "deedHands", named := ["kakugyo/board.home"], apart := false, laid := [("kakugyo/board.home", laid_kakugyo_board_home)] }
def DeedHandsSaid : Prop := deedHandsRow.holds Tryd.pinned (OpenSpec.ofChange deedHandsSpec)

/-- ITS FALSE NEIGHBOUR: 'it returns false'. Refute it at one input. -/
def deedHandsWrong : ChangeSpec := { name := "deedHands", fn := fun _ => fun
  | [d1, d2] => { results := [.lit (.bool false)], args := [d1, d2] }
  | _ => none }
def DeedHandsWrongFalsely : Prop := deedHandsRow.holds Tryd.pinned (OpenSpec.ofChange deedHandsWrong)

/-- 'kakugyolaw09.DeedTwice': WHATEVER THE INPUT: true; the input reads as it did. -/
def deedTwiceSpec : ChangeSpec := { name := "deedTwice", fn := fun _ => fun
  | [d1, d2] => { results := [.lit (.bool true)], args := [d1, d2] }
  | _ => none }
def deedTwiceRow : OpenClaim := { program := "ytbopbekehccdmaadoor", sum := "ca8955ddad2f9e3e3afe46ff5cc425fa9714ede53b05ac82635e872672d17e9f", func := "kakugyo/kakugyolaw09.DeedTwice", spec := "deedTwice", named := ["kakugyo/board.home"], apart := false, laid := [("kakugyo/board.home", laid_kakugyo_board_home)] }
def DeedTwiceSaid : Prop := deedTwiceRow.holds Tryd.pinned (OpenSpec.ofChange deedTwiceSpec)

/-- ITS FALSE NEIGHBOUR: 'it returns false'. Refute it at one input. -/
def deedTwiceWrong : ChangeSpec := { name := "deedTwice", fn := fun _ => fun
  | [d1, d2] => { results := [.lit (.bool false)], args := [d1, d2] }
  | _ => none }
def DeedTwiceWrongFalsely : Prop := deedTwiceRow.holds Tryd.pinned (OpenSpec.ofChange deedTwiceWrong)

/-- 'kakugyolaw08.AttackOn': WHATEVER THE INPUT: true; the input reads as it did. -/
def attackOnSpec : ChangeSpec := { name := "attackOn", fn := fun _ => fun
  | [d1, d2, d3] => { results := [.lit (.bool true)], args := [d1, d2, d3] }
  | _ => none }
def attackOnRow : OpenClaim := { program := "ytbopbekehccdmaadoor", sum := "ca8955ddad2f9e3e3afe46ff5cc425fa9714ede53b05ac82635e872672d17e9f", func := "kakugyo/kakugyolaw08.AttackOn", spec := "attackOn", named := ["math/bits.deBruijn64tab"], apart := false, laid := [("math/bits.deBruijn64tab", laid_math_bits_deBruijn64tab)] }
def AttackOnSaid : Prop := attackOnRow.holds Tryd.pinned (OpenSpec.ofChange attackOnSpec)

/-- ITS FALSE NEIGHBOUR: 'it returns false'. Refute it at one input. -/
def attackOnWrong : ChangeSpec := { name := "attackOn", fn := fun _ => fun
  | [d1, d2, d3] => { results := [.lit (.bool false)], args := [d1, d2, d3] }
  | _ => none }
def AttackOnWrongFalsely : Prop := attackOnRow.holds Tryd.pinned (OpenSpec.ofChange attackOnWrong)

/-- 'kakugyolaw08.AttackAll': WHATEVER THE INPUT: true; the input reads as it did. -/
def attackAllSpec : ChangeSpec := { name := "attackAll", fn := fun _ => fun
  | [d1, d2] => { results := [.lit (.bool true)], args := [d1, d2] }
  | _ => none }
def attackAllRow : OpenClaim := { program := "ytbopbekehccdmaadoor", sum := "ca8955ddad2f9e3e3afe46ff5cc425fa9714ede53b05ac82635e872672d17e9f", func := "kakugyo/kakugyolaw08.AttackAll", spec := "attackAll", named := ["math/bits.deBruijn64tab"], apart := false, laid := [("math/bits.deBruijn64tab", laid_math_bits_deBruijn64tab)] }
def AttackAllSaid : Prop := attackAllRow.holds Tryd.pinned (OpenSpec.ofChange attackAllSpec)

/-- ITS FALSE NEIGHBOUR: 'it returns false'. Refute it at one input. -/
def attackAllWrong : ChangeSpec := { name := "attackAll", fn := fun _ => fun
  | [d1, d2] => { results := [.lit (.bool false)], args := [d1, d2] }
  | _ => none }
def AttackAllWrongFalsely : Prop := attackAllRow.holds Tryd.pinned (OpenSpec.ofChange attackAllWrong)

/-- 'kakugyolaw08.AttackChecks': WHATEVER THE INPUT: true; the input reads as it did. -/
def attackChecksSpec : ChangeSpec := { name := "attackChecks", fn := fun _ => fun
  | [d] => { results := [.lit (.bool true)], args := [d] }
  | _ => none }
def attackChecksRow : OpenClaim := { program := "ytbopbekehccdmaadoor", sum := "ca8955ddad2f9e3e3afe46ff5cc425fa9714ede53b05ac82635e872672d17e9f", func := "kakugyo/kakugyolaw08.AttackChecks", spec := "attackChecks", named := ["math/bits.deBruijn64tab"], apart := false, laid := [("math/bits.deBruijn64tab", laid_math_bits_deBruijn64tab)] }
def AttackChecksSaid : Prop := attackChecksRow.holds Tryd.pinned (OpenSpec.ofChange attackChecksSpec)

/-- ITS FALSE NEIGHBOUR: 'it returns false'. Refute it at one input. -/
def attackChecksWrong : ChangeSpec := { name := "attackChecks", fn := fun _ => fun
  | [d] => { results := [.lit (.bool false)], args := [d] }
  | _ => none }
def AttackChecksWrongFalsely : Prop := attackChecksRow.holds Tryd.pinned (OpenSpec.ofChange attackChecksWrong)

/-- 'kakugyolaw08.AttackPins': WHATEVER THE INPUT: true; the input reads as it did. -/
def attackPinsSpec : ChangeSpec := { name := "attackPins", fn := fun _ => fun
  | [d1, d2] => { results := [.lit (.bool true)], args := [d1, d2] }
  | _ => none }
def attackPinsRow : OpenClaim := { program := "ytbopbekehccdmaadoor", sum := "ca8955ddad2f9e3e3afe46ff5cc425fa9714ede53b05ac82635e872672d17e9f", func := "kakugyo/kakugyolaw08.AttackPins", spec := "attackPins", named := ["math/bits.deBruijn64tab"], apart := false, laid := [("math/bits.deBruijn64tab", laid_math_bits_deBruijn64tab)] }
def AttackPinsSaid : Prop := attackPinsRow.holds Tryd.pinned (OpenSpec.ofChange attackPinsSpec)

/-- ITS FALSE NEIGHBOUR: 'it returns false'. Refute it at one input. -/
def attackPinsWrong : ChangeSpec := { name := "attackPins", fn := fun _ => fun
  | [d1, d2] => { results := [.lit (.bool false)], args := [d1, d2] }
  | _ => none }
def AttackPinsWrongFalsely : Prop := attackPinsRow.holds Tryd.pinned (OpenSpec.ofChange attackPinsWrong)

/-- 'kakugyolaw08.AttackMore': WHATEVER THE INPUT: true; the input reads as it did. -/
def attackMoreSpec : ChangeSpec := { name := "attackMore", fn := fun _ => fun
  | [d1, d2, d3] => { results := [.lit (.bool true)], args := [d1, d2, d3] }
  | _ => none }
def attackMoreRow : OpenClaim := { program := "ytbopbekehccdmaadoor", sum := "ca8955ddad2f9e3e3afe46ff5cc425fa9714ede53b05ac82635e872672d17e9f", func := "kakugyo/kakugyolaw08.AttackMore", spec := "attackMore", named := ["math/bits.deBruijn64tab"], apart := false, laid := [("math/bits.deBruijn64tab", laid_math_bits_deBruijn64tab)] }
def AttackMoreSaid : Prop := attackMoreRow.holds Tryd.pinned (OpenSpec.ofChange attackMoreSpec)

/-- ITS FALSE NEIGHBOUR: 'it returns false'. Refute it at one input. -/
def attackMoreWrong : ChangeSpec := { name := "attackMore", fn := fun _ => fun
  | [d1, d2, d3] => { results := [.lit (.bool false)], args := [d1, d2, d3] }
  | _ => none }
def AttackMoreWrongFalsely : Prop := attackMoreRow.holds Tryd.pinned (OpenSpec.ofChange attackMoreWrong)

/-- 'kakugyolaw08.AttackKings': WHATEVER THE INPUT: true; the input reads as it did. -/
def attackKingsSpec : ChangeSpec := { name := "attackKings", fn := fun _ => fun
  | [d1, d2] => { results := [.lit (.bool true)], args := [d1, d2] }
  | _ => none }
def attackKingsRow : OpenClaim := { program := "ytbopbekehccdmaadoor", sum := "ca8955ddad2f9e3e3afe46ff5cc425fa9714ede53b05ac82635e872672d17e9f", func := "kakugyo/kakugyolaw08.AttackKings", spec := "attackKings", named := ["math/bits.deBruijn64tab"], apart := false, laid := [("math/bits.deBruijn64tab", laid_math_bits_deBruijn64tab)] }
def AttackKingsSaid : Prop := attackKingsRow.holds Tryd.pinned (OpenSpec.ofChange attackKingsSpec)

/-- ITS FALSE NEIGHBOUR: 'it returns false'. Refute it at one input. -/
def attackKingsWrong : ChangeSpec := { name := "attackKings", fn := fun _ => fun
  | [d1, d2] => { results := [.lit (.bool false)], args := [d1, d2] }
  | _ => none }
def AttackKingsWrongFalsely : Prop := attackKingsRow.holds Tryd.pinned (OpenSpec.ofChange attackKingsWrong)

/- THE SECOND FORM. 'bulk': how many values and letters a reading holds, each counted each time it is reached (what is shared counts as often as it is met; a slice's spare places count too). A statement '..UptoSaid' is the law's where the arguments, and the package variables that the reading takes, are together of bulk at most 1048576: NARROWER than '..Said'. Prove '..Said' where nothing that the law and all that it calls make is longer than what came in: it says more and counts as full. Else prove '..UptoSaid'. A law counts once. -/
mutual
def uptoBulk {H : Type} : DataW H → Nat
  | .lit (.string bytes) => bytes.length + 1
  | .lit _ => 1
  | .nil => 1
  | .ptr d => uptoBulk d + 1
  | .slice elems spare => uptoBulkAll elems + uptoBulkAll spare + 1
  | .agg parts => uptoBulkAll parts + 1
  | .iface _ d => uptoBulk d + 1
  | .map entries => uptoBulkEntries entries + 1
  | .held _ => 1
def uptoBulkAll {H : Type} : List (DataW H) → Nat
  | [] => 0
  | d :: r => uptoBulk d + uptoBulkAll r
def uptoBulkEntries {H : Type} : List (Lit × DataW H) → Nat
  | [] => 0
  | x :: r => uptoBulkEntry x + uptoBulkEntries r
def uptoBulkEntry {H : Type} : Lit × DataW H → Nat
  | (.string bytes, d) => bytes.length + uptoBulk d + 1
  | (_, d) => uptoBulk d + 1
 end
def uptoSmall : (H : Type) → List (DataW H) → Bool := fun _ ds => decide (uptoBulkAll ds ≤ 1048576)
def OpenSpec.upto (s : _root_.Go.ChangeSpec) : _root_.Go.OpenSpec := { _root_.Go.OpenSpec.ofChange s with cond := some uptoSmall }

/-- 'kakugyolaw05.BoardHolds', WHERE WHAT IT READS IS OF BULK AT MOST 1048576: true; the input reads as it did. -/
def boardHoldsUptoRow : OpenClaim := { program := "ytbopbekehccdmaadoor", sum := "ca8955ddad2f9e3e3afe46ff5cc425fa9714ede53b05ac82635e872672d17e9f", func := "kakugyo/kakugyolaw05.BoardHolds", spec := "boardHolds", named := ["kakugyo/board.home", "math/bits.deBruijn64tab"], apart := false, laid := [("math/bits.deBruijn64tab", laid_math_bits_deBruijn64tab), ("kakugyo/board.home", laid_kakugyo_board_home)], narrowed := true }
def BoardHoldsUptoSaid : Prop := boardHoldsUptoRow.holds Tryd.pinned (OpenSpec.upto boardHoldsSpec)

/-- 'kakugyolaw09.DeedBack', WHERE WHAT IT READS IS OF BULK AT MOST 1048576: true; the input reads as it did. -/
def deedBackUptoRow : OpenClaim := { program := "ytbopbekehccdmaadoor", sum := "ca8955ddad2f9e3e3afe46ff5cc425fa9714ede53b05ac82635e872672d17e9f", func := "kakugyo/kakugyolaw09.DeedBack", spec := "deedBack", named := ["kakugyo/board.home", "math/bits.deBruijn64tab"], apart := false, laid := [("math/bits.deBruijn64tab", laid_math_bits_deBruijn64tab), ("kakugyo/board.home", laid_kakugyo_board_home)], narrowed := true }
def DeedBackUptoSaid : Prop := deedBackUptoRow.holds Tryd.pinned (OpenSpec.upto deedBackSpec)

/-- 'kakugyolaw09.DeedKeys', WHERE WHAT IT READS IS OF BULK AT MOST 1048576: true; the input reads as it did. -/
def deedKeysUptoRow : OpenClaim := { program := "ytbopbekehccdmaadoor", sum := "ca8955ddad2f9e3e3afe46ff5cc425fa9714ede53b05ac82635e872672d17e9f", func := "kakugyo/kakugyolaw09.DeedKeys", spec := "deedKeys", named := ["kakugyo/board.home"], apart := false, laid := [("kakugyo/board.home", laid_kakugyo_board_home)], narrowed := true }
def DeedKeysUptoSaid : Prop := deedKeysUptoRow.holds Tryd.pinned (OpenSpec.upto deedKeysSpec)

/-- 'kakugyolaw09.DeedPieces', WHERE WHAT IT READS IS OF BULK AT MOST 1048576: true; the input reads as it did. -/
def deedPiecesUptoRow : OpenClaim := { program := "ytbopbekehccdmaadoor", sum := "ca8955ddad2f9e3e3afe46ff5cc425fa9714ede53b05ac82635e872672d17e9f", func := "kakugyo/kakugyolaw09.DeedPieces", spec := "deedPieces", named := ["kakugyo/board.home"], apart := false, laid := [("kakugyo/board.home", laid_kakugyo_board_home)], narrowed := true }
def DeedPiecesUptoSaid : Prop := deedPiecesUptoRow.holds Tryd.pinned (OpenSpec.upto deedPiecesSpec)

/-- 'kakugyolaw09.DeedHands', WHERE WHAT IT READS IS OF BULK AT MOST 1048576: true; the input reads as it did. -/
def deedHandsUptoRow : OpenClaim := { program := "ytbopbekehccdmaadoor", sum := "ca8955ddad2f9e3e3afe46ff5cc425fa9714ede53b05ac82635e872672d17e9f", func := "kakugyo/kakugyolaw09.DeedHands", spec := "deedHands", named := ["kakugyo/board.home"], apart := false, laid := [("kakugyo/board.home", laid_kakugyo_board_home)], narrowed := true }
def DeedHandsUptoSaid : Prop := deedHandsUptoRow.holds Tryd.pinned (OpenSpec.upto deedHandsSpec)

/-- 'kakugyolaw09.DeedTwice', WHERE WHAT IT READS IS OF BULK AT MOST 1048576: true; the input reads as it did. -/
def deedTwiceUptoRow : OpenClaim := { program := "ytbopbekehccdmaadoor", sum := "ca8955ddad2f9e3e3afe46ff5cc425fa9714ede53b05ac82635e872672d17e9f", func := "kakugyo/kakugyolaw09.DeedTwice", spec := "deedTwice", named := ["kakugyo/board.home"], apart := false, laid := [("kakugyo/board.home", laid_kakugyo_board_home)], narrowed := true }
def DeedTwiceUptoSaid : Prop := deedTwiceUptoRow.holds Tryd.pinned (OpenSpec.upto deedTwiceSpec)

/-- 'kakugyolaw08.AttackOn', WHERE WHAT IT READS IS OF BULK AT MOST 1048576: true; the input reads as it did. -/
def attackOnUptoRow : OpenClaim := { program := "ytbopbekehccdmaadoor", sum := "ca8955ddad2f9e3e3afe46ff5cc425fa9714ede53b05ac82635e872672d17e9f", func := "kakugyo/kakugyolaw08.AttackOn", spec := "attackOn", named := ["math/bits.deBruijn64tab"], apart := false, laid := [("math/bits.deBruijn64tab", laid_math_bits_deBruijn64tab)], narrowed := true }
def AttackOnUptoSaid : Prop := attackOnUptoRow.holds Tryd.pinned (OpenSpec.upto attackOnSpec)

/-- 'kakugyolaw08.AttackAll', WHERE WHAT IT READS IS OF BULK AT MOST 1048576: true; the input reads as it did. -/
def attackAllUptoRow : OpenClaim := { program := "ytbopbekehccdmaadoor", sum := "ca8955ddad2f9e3e3afe46ff5cc425fa9714ede53b05ac82635e872672d17e9f", func := "kakugyo/kakugyolaw08.AttackAll", spec := "attackAll", named := ["math/bits.deBruijn64tab"], apart := false, laid := [("math/bits.deBruijn64tab", laid_math_bits_deBruijn64tab)], narrowed := true }
def AttackAllUptoSaid : Prop := attackAllUptoRow.holds Tryd.pinned (OpenSpec.upto attackAllSpec)

/-- 'kakugyolaw08.AttackChecks', WHERE WHAT IT READS IS OF BULK AT MOST 1048576: true; the input reads as it did. -/
def attackChecksUptoRow : OpenClaim := { program := "ytbopbekehccdmaadoor", sum := "ca8955ddad2f9e3e3afe46ff5cc425fa9714ede53b05ac82635e872672d17e9f", func := "kakugyo/kakugyolaw08.AttackChecks", spec := "attackChecks", named := ["math/bits.deBruijn64tab"], apart := false, laid := [("math/bits.deBruijn64tab", laid_math_bits_deBruijn64tab)], narrowed := true }
def AttackChecksUptoSaid : Prop := attackChecksUptoRow.holds Tryd.pinned (OpenSpec.upto attackChecksSpec)

/-- 'kakugyolaw08.AttackPins', WHERE WHAT IT READS IS OF BULK AT MOST 1048576: true; the input reads as it did. -/
def attackPinsUptoRow : OpenClaim := { program := "ytbopbekehccdmaadoor", sum := "ca8955ddad2f9e3e3afe46ff5cc425fa9714ede53b05ac82635e872672d17e9f", func := "kakugyo/kakugyolaw08.AttackPins", spec := "attackPins", named := ["math/bits.deBruijn64tab"], apart := false, laid := [("math/bits.deBruijn64tab", laid_math_bits_deBruijn64tab)], narrowed := true }
def AttackPinsUptoSaid : Prop := attackPinsUptoRow.holds Tryd.pinned (OpenSpec.upto attackPinsSpec)

/-- 'kakugyolaw08.AttackMore', WHERE WHAT IT READS IS OF BULK AT MOST 1048576: true; the input reads as it did. -/
def attackMoreUptoRow : OpenClaim := { program := "ytbopbekehccdmaadoor", sum := "ca8955ddad2f9e3e3afe46ff5cc425fa9714ede53b05ac82635e872672d17e9f", func := "kakugyo/kakugyolaw08.AttackMore", spec := "attackMore", named := ["math/bits.deBruijn64tab"], apart := false, laid := [("math/bits.deBruijn64tab", laid_math_bits_deBruijn64tab)], narrowed := true }
def AttackMoreUptoSaid : Prop := attackMoreUptoRow.holds Tryd.pinned (OpenSpec.upto attackMoreSpec)

/-- 'kakugyolaw08.AttackKings', WHERE WHAT IT READS IS OF BULK AT MOST 1048576: true; the input reads as it did. -/
def attackKingsUptoRow : OpenClaim := { program := "ytbopbekehccdmaadoor", sum := "ca8955ddad2f9e3e3afe46ff5cc425fa9714ede53b05ac82635e872672d17e9f", func := "kakugyo/kakugyolaw08.AttackKings", spec := "attackKings", named := ["math/bits.deBruijn64tab"], apart := false, laid := [("math/bits.deBruijn64tab", laid_math_bits_deBruijn64tab)], narrowed := true }
def AttackKingsUptoSaid : Prop := attackKingsUptoRow.holds Tryd.pinned (OpenSpec.upto attackKingsSpec)

end Rows
end Go.Proofs.YtbopbekehccdmaaDoor
