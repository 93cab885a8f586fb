/-
  scheme.writeText: an empty text is written "-".
-/
import Derived.Test.YtnbiedijofdjhaaDoorSG
namespace Go.Proofs.YtnbiedijofdjhaaDoor
open Go.RowKit
open Pl

def textS (l : List UInt8) : List UInt8 := if l = [] then [45] else l
theorem ret_str {a b : ByteArray} (h : a = b) : Ending.returned (.string a) = .returned (.string b) := by rw [h]
set_option maxHeartbeats 400000 in
theorem writeText_any (l : List UInt8) (w : World) : Calls Tryd.prog 59 #[.string (B l)] w fun e w' => e = .returned (.string (B (textS l))) ∧ w' = w := by
  by_cases h : l = []
  · subst h
    have H0 : (B []).toList.isEmpty = true := by rw [ByteArray.toList_eq, toList_B]; rfl
    go_enter Tryd.func59, Tryd.ntmps59
    go_wp2_with fail
    go_ret
    exact ⟨rfl, rfl⟩
  · have H : (B l).toList.isEmpty = false := by cases l with
      | nil => exact absurd rfl h
      | cons a t => simp [B, ByteArray.toList_eq]
    have E := Lib.hid (show textS l = l from if_neg h)
    clear h
    go_enter Tryd.func59, Tryd.ntmps59
    go_wp2_with fail
    go_ret
    exact ⟨ret_str (by rw [E.out]), rfl⟩
end Go.Proofs.YtnbiedijofdjhaaDoor
