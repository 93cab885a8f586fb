/-
  Letters, Word; modes; the frame of a scheme.
-/
import Derived.Test.YtnbiedijofdjhaaDoorSA
import Derived.Deep.RegionHeld3
namespace Go.Proofs.YtnbiedijofdjhaaDoor
open Go.RowKit
open Pl

set_option maxHeartbeats 400000 in
theorem Letters_any (s : ByteArray) (w : World) (hT : StrTab w) (h0 : 0 < w.heap.size) (hm : s.size ≤ 9223372036854775807) :
    Calls Tryd.prog 28 #[.string s] w fun e w' => e = .returned (.bool (lettersB s.data.toList)) ∧ Below w.heap.size w w' := by
  by_cases hl : (s.size : Int) ≤ 40
  · have C := Lib.hid (only_any s 1 (Or.inl rfl) w hT h0 hm)
    have E := Lib.hid (show onlyB 1 s.data.toList = lettersB s.data.toList by unfold lettersB; rw [length_toList, decide_eq_true (by omega)]; rfl)
    clear hT h0 hm
    go_enter Tryd.func28, Tryd.ntmps28
    go_wp2_with fail
    refine (C.out).mono ?_
    rintro e w' ⟨rfl, hb⟩
    go_wp2_with fail
    go_ret
    exact ⟨ret_bool E.out, hb⟩
  · have E := Lib.hid (show lettersB s.data.toList = false by unfold lettersB; rw [length_toList, decide_eq_false (by omega)]; rfl)
    clear hT h0 hm
    go_enter Tryd.func28, Tryd.ntmps28
    go_wp2_with fail
    go_ret
    exact ⟨ret_bool E.out.symm, Below.refl _ _⟩
set_option maxHeartbeats 400000 in
theorem Word_any (s : ByteArray) (w : World) (hT : StrTab w) (h0 : 0 < w.heap.size) (hm : s.size ≤ 9223372036854775807) :
    Calls Tryd.prog 30 #[.string s] w fun e w' => e = .returned (.bool (wordB s.data.toList)) ∧ Below w.heap.size w w' := by
  by_cases h1 : (1 : Int) ≤ (s.size : Int)
  · by_cases hl : (s.size : Int) ≤ 20
    · have C := Lib.hid (only_any s 7 (Or.inr (Or.inr rfl)) w hT h0 hm)
      have E := Lib.hid (show onlyB 7 s.data.toList = wordB s.data.toList by unfold wordB; rw [length_toList, decide_eq_true (by omega), decide_eq_true (by omega)]; rfl)
      clear hT h0 hm
      go_enter Tryd.func30, Tryd.ntmps30
      go_wp2_with fail
      refine (C.out).mono ?_
      rintro e w' ⟨rfl, hb⟩
      go_wp2_with fail
      go_ret
      exact ⟨ret_bool E.out, hb⟩
    · have E := Lib.hid (show wordB s.data.toList = false by unfold wordB; rw [length_toList, decide_eq_true (by omega), decide_eq_false (by omega)]; rfl)
      clear hT h0 hm
      go_enter Tryd.func30, Tryd.ntmps30
      go_wp2_with fail
      go_ret
      exact ⟨ret_bool E.out.symm, Below.refl _ _⟩
  · have E := Lib.hid (show wordB s.data.toList = false by unfold wordB; rw [length_toList, decide_eq_false (by omega)]; rfl)
    clear hT h0 hm
    go_enter Tryd.func30, Tryd.ntmps30
    go_wp2_with fail
    go_ret
    exact ⟨ret_bool E.out.symm, Below.refl _ _⟩
end Go.Proofs.YtnbiedijofdjhaaDoor
