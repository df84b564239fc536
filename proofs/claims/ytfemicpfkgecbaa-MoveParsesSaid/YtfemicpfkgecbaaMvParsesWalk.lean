/-
  The walk of the law MoveParses: for every text it returns true.
-/
import Derived.Test.YtfemicpfkgecbaaMvNames
import Derived.Test.YtfemicpfkgecbaaMvName
import Derived.OpenShut
namespace Go.Proofs.Ytfemicpfkgecbaa.moveParses
open Go.RowKit
set_option linter.unusedVariables false
set_option linter.unusedSimpArgs false

set_option maxHeartbeats 1000000 in
theorem walk_yes (s : ByteArray) (f t d : Int) (p : Bool) (hc : checkM f t d p = 0) (ht : textS f t d p = s) (hd : 0 ≤ d ∧ d ≤ 7)
    (hr : ∀ w, Calls Try.prog 14 #[.string s] w fun e w' => e = .returned (.tuple #[.agg #[.int .i64 f, .int .i64 t, .int .i64 d, .bool p], .int .i64 0]) ∧ Below w.heap.size w w') (w : World) :
    Calls Try.prog 4 #[.string s] w fun e w' => e = .returned (.bool true) ∧ Below w.heap.size w w' := by
  have N := Lib.hid (fun W => names_mv W)
  have P := Lib.hid (fun W => parse_good f t d p hc W)
  have T := Lib.hid (fun W => text_mv f t d p W (by omega) (by omega))
  rw [ht] at P T
  have R := Lib.hid hr
  have b1 : (s.toList == s.toList) = true := by simp
  clear hc ht hd hr
  go_enter Try.func4, Try.ntmps4
  go_wp2_with (first
    | (go_at_call 8; refine (N.out _).mono ?_; rintro e w1 ⟨rfl, hb1⟩)
    | (go_at_call 13; refine (P.out _).mono ?_; rintro e w2 ⟨rfl, hb2⟩)
    | (go_at_call 14; refine (R.out _).mono ?_; rintro e w3 ⟨rfl, hb3⟩; obtain ⟨hc3, hf3⟩ := bcells hb3; have z3 := sz1 hb3)
    | (go_at_call 9; refine (T.out _).mono ?_; rintro e w4 ⟨rfl, hb4⟩))
  go_ret
  exact ⟨rfl, bthen (ball (bthen (ball (bthen hb1 hb2) _) hb3) _) hb4⟩
set_option maxHeartbeats 1000000 in
theorem walk_no (s : ByteArray) (hs : s.size ≤ 9223372036854775807) (hn : NoName s)
    (hr : ∀ w, Calls Try.prog 14 #[.string s] w fun e w' => e = .returned (.tuple #[.agg #[.int .i64 0, .int .i64 0, .int .i64 0, .bool false], .int .i64 70]) ∧ Below w.heap.size w w') (w : World) :
    Calls Try.prog 4 #[.string s] w fun e w' => e = .returned (.bool true) ∧ Below w.heap.size w w' := by
  have N := Lib.hid (fun W => names_mv W)
  have P := Lib.hid (fun W => parse_bad s hs hn W)
  have R := Lib.hid hr
  clear hs hn hr
  go_enter Try.func4, Try.ntmps4
  go_wp2_with (first
    | (go_at_call 8; refine (N.out _).mono ?_; rintro e w1 ⟨rfl, hb1⟩)
    | (go_at_call 13; refine (P.out _).mono ?_; rintro e w2 ⟨rfl, hb2⟩)
    | (go_at_call 14; refine (R.out _).mono ?_; rintro e w3 ⟨rfl, hb3⟩; obtain ⟨hc3, hf3⟩ := bcells hb3; have z3 := sz1 hb3))
  go_ret
  exact ⟨rfl, ball (bthen (ball (bthen hb1 hb2) _) hb3) _⟩
theorem walk (s : ByteArray) (hs : s.size ≤ maxLen) (w : World) :
    Calls Try.prog 4 #[.string s] w fun e w' => e = .returned (.bool true) ∧ Below w.heap.size w w' := by
  have hs' : s.size ≤ 9223372036854775807 := hs
  rcases refParse_any s hs' with ⟨f, t, d, p, hc, ht, h0, h7, hr⟩ | ⟨hn, hr⟩
  · exact walk_yes s f t d p hc ht ⟨h0, h7⟩ hr w
  · exact walk_no s hs' hn hr w
end Go.Proofs.Ytfemicpfkgecbaa.moveParses
