/-
  The reference's Small: what it returns for every text that is not too long: each capital letter of its bytes made small.
-/
import Derived.Test.YtpaelhhpaapgmaaRefs
import Derived.Laws.IdiomStrings
namespace Go.Proofs.Ytpaelhhpaapgmaa
open Go.RowKit
set_option linter.unusedVariables false

def lowB (c : UInt8) : UInt8 := if 65 ≤ c.toNat ∧ c.toNat ≤ 90 then c + 32 else c
def smallP (s : ByteArray) (k : Nat) : ByteArray := ⟨((s.data.toList.take k).map lowB).toArray⟩
theorem smallP_size (s : ByteArray) (k : Nat) (h : k ≤ s.size) : (smallP s k).size = k := by
  have : s.data.size = s.size := rfl
  show ((s.data.toList.take k).map lowB).toArray.size = k
  rw [List.size_toArray, List.length_map, List.length_take, Array.length_toList]
  omega
theorem smallP_snoc (s : ByteArray) (k : Nat) (h : k < s.size) : smallP s (k + 1) = smallP s k ++ ⟨#[lowB s[k]]⟩ := by
  have e : s.data.toList.take (k + 1) = s.data.toList.take k ++ [s[k]] := by
    rw [List.take_succ_eq_append_getElem (by rw [Array.length_toList]; exact h)]
    rfl
  apply ByteArray.ext
  rw [ByteArray.data_append]
  show ((s.data.toList.take (k + 1)).map lowB).toArray = ((s.data.toList.take k).map lowB).toArray ++ #[lowB s[k]]
  rw [e]
  simp

theorem conv1 (n : Int) (h0 : 0 ≤ n) (h1 : n < 256) (w : World) :
    (convert 48 9 (.slice (some ⟨w.heap.size, 0, none⟩) 1 1)).run Try.prog (w.alloc (.cells #[.int .u8 n] 5)) = .ok (.string ⟨#[UInt8.ofNat n.toNat]⟩) (w.alloc (.cells #[.int .u8 n] 5)) := by
  have h := run_convert_bytes_back (P := Try.prog) (w.alloc (.cells #[.int .u8 n] 5)) 48 9 5 ⟨w.heap.size, 0, none⟩ 1 [UInt8.ofNat n.toNat] Try.underlying48 Try.underlying5 Try.underlying9
    (by
      intro j hj
      obtain rfl : j = 0 := by simpa using hj
      have e : (((UInt8.ofNat n.toNat).toNat : Nat) : Int) = n := by
        rw [UInt8.toNat_ofNat']
        omega
      show (w.alloc (.cells #[.int .u8 n] 5)).cell? ⟨w.heap.size, 0, none⟩ = some (.int .u8 (((UInt8.ofNat n.toNat).toNat : Nat) : Int))
      rw [e]
      go_simp)
  exact h

theorem small_any (s : ByteArray) (w : World) (hs : s.size ≤ 1000) :
    Calls Try.prog 28 #[.string s] w fun e w' => e = .returned (.string (smallP s s.size)) ∧ Below w.heap.size w w' := by
  go_enter Try.func28, Try.ntmps28
  go_wp2
  go_loopw [3, 4] (fun o i wr => ∃ k : Nat, k ≤ s.size ∧ i = .int .i64 k ∧ o = .string (smallP s k) ∧ Below w.heap.size w wr) (fun _ i _ => s.size - (intOf i).toNat)
  case atStart => exact ⟨0, by omega, rfl, rfl, Below.refl _ _⟩
  case round =>
    obtain ⟨k, hk, rfl, rfl, hB⟩ := hrel
    have hsz := smallP_size s k hk
    have HB := Lib.hid hB
    clear hB
    by_cases hlt : k < s.size
    · have hc := s[k].toNat_lt
      have H := Lib.hid (smallP_snoc s k hlt)
      have fits : ¬ 9223372036854775807 < (smallP s k).size + 1 := by omega
      by_cases h1 : 65 ≤ (s[k].toNat : Int)
      · by_cases h2 : (s[k].toNat : Int) ≤ 90
        · have hv := conv1 (↑s[k].toNat + 32) (by omega) (by omega) wr
          have hl : lowB s[k] = UInt8.ofNat ((s[k].toNat : Int) + 32).toNat := by
            unfold lowB
            rw [if_pos (by omega)]
            apply UInt8.toNat_inj.1
            rw [UInt8.toNat_ofNat', UInt8.toNat_add]
            show (s[k].toNat + 32) % 256 = _
            omega
          rw [hl] at H
          clear hl
          generalize UInt8.ofNat ((s[k].toNat : Int) + 32).toNat = b at hv H
          clear hsz
          go_wp2
          go_roundw
          case rel => exact ⟨k + 1, by omega, by go_num, by rw [H.out], HB.out.alloc HB.out.size _⟩
          case measure => simp [intOf]; omega
        · have hv := conv1 (↑s[k].toNat) (by omega) (by omega) wr
          have hl : lowB s[k] = UInt8.ofNat ((s[k].toNat : Int)).toNat := by
            unfold lowB
            rw [if_neg (by omega)]
            apply UInt8.toNat_inj.1
            rw [UInt8.toNat_ofNat']
            omega
          rw [hl] at H
          clear hl
          generalize UInt8.ofNat ((s[k].toNat : Int)).toNat = b at hv H
          clear hsz
          go_wp2
          go_roundw
          case rel => exact ⟨k + 1, by omega, by go_num, by rw [H.out], HB.out.alloc HB.out.size _⟩
          case measure => simp [intOf]; omega
      · have hv := conv1 (↑s[k].toNat) (by omega) (by omega) wr
        have hl : lowB s[k] = UInt8.ofNat ((s[k].toNat : Int)).toNat := by
          unfold lowB
          rw [if_neg (by omega)]
          apply UInt8.toNat_inj.1
          rw [UInt8.toNat_ofNat']
          omega
        rw [hl] at H
        clear hl
        generalize UInt8.ofNat ((s[k].toNat : Int)).toNat = b at hv H
        clear hsz
        go_wp2
        go_roundw
        case rel => exact ⟨k + 1, by omega, by go_num, by rw [H.out], HB.out.alloc HB.out.size _⟩
        case measure => simp [intOf]; omega
    · obtain rfl : k = s.size := by omega
      go_wp2
      go_ret
      exact ⟨rfl, HB.out⟩
end Go.Proofs.Ytpaelhhpaapgmaa
