/-
  Taking a space off the front of a text, and reading numbers.
-/
import Derived.Test.YtmioocmjlbjfpaaDoorA
import Derived.Outline
namespace Go.Proofs.YtmioocmjlbjfpaaDoor
open Go.RowKit
open Pl

theorem first_extract {s : ByteArray} {c : UInt8} {d : List UInt8} (h : s.data.toList = c :: d) : (s.extract 0 1).toList = [c] := by
  rw [ByteArray.toList_eq, data_extract, h]; rfl
theorem first_drop {s : ByteArray} {c : UInt8} {d : List UInt8} (h : s.data.toList = c :: d) : s.extract 1 s.size = B d := by
  rw [ext_to_end, h]; rfl
theorem ret_sb {a b : ByteArray} {p q : Bool} (h : a = b) (k : p = q) : Ending.returned (.tuple #[.string a, .bool p]) = .returned (.tuple #[.string b, .bool q]) := by rw [h, k]
theorem emptyL {s : ByteArray} (h : s.data.toList = []) : s.size = 0 := by rw [← length_toList, h]; rfl

set_option maxHeartbeats 400000 in
theorem cutPrefix_any (s : ByteArray) (w : World) :
    Calls Tryd.prog 47 #[.string s, .string ⟨#[32]⟩] w fun e w' => e = .returned (.tuple #[.string (B (cutB s.data.toList).1), .bool (cutB s.data.toList).2]) ∧ w = w' := by
  rcases hL : s.data.toList with _ | ⟨c, d⟩
  · have hz := emptyL hL
    have E := Lib.hid (show s = B [] by rw [← hL, B_toList])
    clear hL
    have hl : ¬ (1 : Int) ≤ (s.size : Int) := by omega
    clear hz
    go_enter Tryd.func47, Tryd.ntmps47
    go_wp2
    go_ret2
    exact ⟨ret_sb E.out rfl, rfl⟩
  · have hz := first_size hL
    have E1 := Lib.hid (first_drop hL)
    have E2 := Lib.hid (show s = B (c :: d) by rw [← hL, B_toList])
    have F := first_extract hL
    clear hL
    have hl : (1 : Int) ≤ (s.size : Int) := by omega
    clear hz
    by_cases hc : c = 32
    · subst hc
      have K := Lib.hid (show cutB (32 :: d) = (d, true) by simp [cutB])
      have F2 : ((s.extract 0 1).toList == [32]) = true := by rw [F]; rfl
      clear F
      go_enter Tryd.func47, Tryd.ntmps47
      go_wp2
      go_ret2
      exact ⟨by rw [K.out]; exact ret_sb E1.out rfl, rfl⟩
    · have K := Lib.hid (show cutB (c :: d) = (c :: d, false) by simp [cutB, hc])
      have F2 : ((s.extract 0 1).toList == [32]) = false := by rw [F]; simp [hc]
      clear F hc
      go_enter Tryd.func47, Tryd.ntmps47
      go_wp2
      go_ret2
      exact ⟨by rw [K.out]; exact ret_sb E2.out rfl, rfl⟩
end Go.Proofs.YtmioocmjlbjfpaaDoor
