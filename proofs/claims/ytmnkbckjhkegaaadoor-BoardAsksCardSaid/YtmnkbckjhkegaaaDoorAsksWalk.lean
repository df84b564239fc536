/-
  The walk of the law BoardAsks: its cases together.
-/
import Derived.Test.YtmnkbckjhkegaaaDoorAsksA1
import Derived.Test.YtmnkbckjhkegaaaDoorAsksAn
import Derived.Test.YtmnkbckjhkegaaaDoorAsksB0
import Derived.Test.YtmnkbckjhkegaaaDoorAsksB1
import Derived.Test.YtmnkbckjhkegaaaDoorAsksBn
import Derived.Test.YtmnkbckjhkegaaaDoorAsksC0
import Derived.Test.YtmnkbckjhkegaaaDoorAsksC1
import Derived.Test.YtmnkbckjhkegaaaDoorAsksCn
namespace Go.Proofs.YtmnkbckjhkegaaaDoor.boardAsks
open Go.RowKit
theorem walk (z : List Int) (q s : Int) (hz : z.length = 98) (h8 : I8s z) (g1 : (Lit.int .i64 q).wf = true) (g2 : (Lit.int .i64 s).wf = true) (w : World) (hT : Tab w) (hH : Home w) :
    Calls Tryd.prog 5 #[.agg (posC z).toArray, .int .i64 q, .int .i64 s] w fun e w' => e = .returned (.bool true) ∧ Below w.heap.size w w' := by
  by_cases hs : s = 0 ∨ s = 1
  · by_cases a : q < 0
    · rcases hs with rfl | rfl
      · exact walkA0 z q a hz h8 g1 w hT hH
      · exact walkA1 z q a hz h8 g1 w hT hH
    · by_cases b : 80 < q
      · rcases hs with rfl | rfl
        · exact walkB0 z q b hz h8 g1 w hT hH
        · exact walkB1 z q b hz h8 g1 w hT hH
      · rcases hs with rfl | rfl
        · exact walkC0 z q (by omega) hz h8 g1 w hT hH
        · exact walkC1 z q (by omega) hz h8 g1 w hT hH
  · by_cases a : q < 0
    · exact walkAn z q s a hs hz h8 g1 g2 w hT hH
    · by_cases b : 80 < q
      · exact walkBn z q s b hs hz h8 g1 g2 w hT hH
      · exact walkCn z q s (by omega) hs hz h8 g1 g2 w hT hH
end Go.Proofs.YtmnkbckjhkegaaaDoor.boardAsks
