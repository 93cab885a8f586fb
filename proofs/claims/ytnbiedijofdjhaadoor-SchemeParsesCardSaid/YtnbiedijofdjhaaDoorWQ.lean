/-
  The reference's Number and text.
-/
import Derived.Test.YtnbiedijofdjhaaDoorWP
namespace Go.Proofs.YtnbiedijofdjhaaDoor
open Go.RowKit
open Pl

theorem digit_yes {c : UInt8} (h1 : 48 ≤ (c.toNat : Int)) (h2 : (c.toNat : Int) ≤ 57) : (kindB c &&& 4 != 0) = true := by
  unfold kindB; rw [if_neg (by omega), if_neg (by omega), if_pos (by omega)]; rfl
theorem digit_no {c : UInt8} (h : (c.toNat : Int) < 48 ∨ 57 < (c.toNat : Int)) : kindB c &&& 4 = 0 := by
  unfold kindB
  split
  · rfl
  · split
    · rfl
    · rw [if_neg (by omega)]; rfl
theorem numOf_bd' {t : ByteArray} {j : Nat} (h4 : j ≤ 4) (hd : onlyB 4 (t.data.toList.take j) = true) : (numOf (t.data.toList.take j) : Int) < 10000 := by
  have h := numOf_lt _ (t.data.toList.take j) rfl (onlyB_digit hd)
  have h2 : 10 ^ (t.data.toList.take j).length ≤ 10 ^ 4 := Nat.pow_le_pow_right (by omega) (by rw [List.length_take]; omega)
  omega
theorem rnum_bad {most : Nat} {f : List UInt8} (h : 4 < f.length ∨ onlyB 4 f = false) : rnum most f = (0, false) := by
  unfold rnum
  rw [if_neg]
  rintro ⟨h1, h2⟩
  rcases h with h | h
  · omega
  · rw [h2] at h; cases h
theorem ret_two {a b : Int} {x y : Bool} (h1 : a = b) (h2 : x = y) : Ending.returned (.tuple #[.int .i64 a, .bool x]) = .returned (.tuple #[.int .i64 b, .bool y]) := by rw [h1, h2]
set_option maxHeartbeats 2000000 in
set_option maxRecDepth 100000 in
theorem Number_any (s : ByteArray) (most : Nat) (w : World) (hm : s.size ≤ 9223372036854775807) :
    Calls Tryd.prog 91 #[.string s, .int .i64 (most : Int)] w fun e w' => e = .returned (.tuple #[.int .i64 ((rnum most s.data.toList).1 : Nat), .bool (rnum most s.data.toList).2]) ∧ w' = w := by
  have RB := fun h => Lib.hid (rnum_bad (most := most) (f := s.data.toList) h)
  have RU := Lib.hid (show s.size ≤ 4 → onlyB 4 s.data.toList = true → rnum most s.data.toList = (numOf s.data.toList, decide (s.data.toList ≠ []) && ((decide (s.data.toList.length = 1) || decide (s.data.toList.head? ≠ some 48)) && decide (numOf s.data.toList ≤ most))) from fun h1 h2 => by
    unfold rnum
    rw [if_pos ⟨by rw [length_toList]; exact h1, h2⟩])
  go_enter Tryd.func91, Tryd.ntmps91
  go_wp2_with fail
  go_loopw [6, 7] (fun n i wr => ∃ j : Nat, i = .int .i64 j ∧ j ≤ s.size ∧ j ≤ 4 ∧ n = .int .i64 (numOf (s.data.toList.take j) : Nat) ∧ onlyB 4 (s.data.toList.take j) = true ∧ wr = w) (fun _ i _ => s.size - (intOf i).toNat)
  case atStart => exact ⟨0, rfl, Nat.zero_le _, by omega, rfl, rfl, rfl⟩
  case round =>
    obtain ⟨j, rfl, hj, hj4, rfl, ha, rfl⟩ := hrel
    have HA := Lib.hid ha
    have hbd := numOf_bd' (t := s) hj4 ha
    clear ha
    by_cases hp : j < s.size
    · have hj0 : (0 : Int) ≤ (j : Int) := by omega
      have hj1 : (j : Int) < (s.size : Int) := by omega
      have HS := Lib.hid (onlyB_take_succ 4 s j hp)
      have HN := Lib.hid (onlyB_no 4 s j hp)
      have c1 := fun a b => Lib.hid (digit_yes (c := s[j]'hp) a b)
      have c2 := fun a => Lib.hid (digit_no (c := s[j]'hp) a)
      by_cases h1 : (s[j].toNat : Int) < 48
      · have E := Lib.hid (RB (Or.inr (HN.out (c2 (Or.inl h1)).out)))
        go_wp2_with fail
        go_returns
        rw [E.out.out]
        exact ⟨rfl, rfl⟩
      · by_cases h2 : 57 < (s[j].toNat : Int)
        · have E := Lib.hid (RB (Or.inr (HN.out (c2 (Or.inr h2)).out)))
          go_wp2_with fail
          go_returns
          rw [E.out.out]
          exact ⟨rfl, rfl⟩
        · by_cases h4 : 4 ≤ (j : Int)
          · have E := Lib.hid (RB (Or.inl (by rw [length_toList]; omega)))
            go_wp2_with fail
            go_returns
            rw [E.out.out]
            exact ⟨rfl, rfl⟩
          · have E := Lib.hid (show onlyB 4 (s.data.toList.take (j + 1)) = true by rw [HS.out, HA.out, (c1 (by omega) (by omega)).out]; rfl)
            have d1' : 48 ≤ (s[j].toNat : Int) := by omega
            have d2' : (s[j].toNat : Int) ≤ 57 := by omega
            have E2 := Lib.hid (show (numOf (s.data.toList.take (j + 1)) : Int) = 10 * (numOf (s.data.toList.take j) : Int) + ((s[j].toNat : Int) - 48) by rw [take_snoc s j hp, numOf_snoc]; omega)
            have hb0 : (0 : Int) ≤ (numOf (s.data.toList.take j) : Int) := by omega
            generalize numOf (s.data.toList.take j) = N at *
            clear RB RU HS HN c1 c2
            go_wp2_with fail
            go_roundw
            case rel => exact ⟨j + 1, by go_num, by omega, by omega, by rw [E2.out], E.out, trivial⟩
            case measure => simp [intOf]; omega
    · have hj1 : ¬ (j : Int) < (s.size : Int) := by omega
      have E := Lib.hid (onlyB_all 4 s j hp HA.out)
      have EF : s.data.toList.take j = s.data.toList := List.take_of_length_le (by rw [length_toList]; omega)
      rw [EF] at hbd ⊢
      have RR := Lib.hid (RU.out (by omega) E.out)
      clear RU RB EF HA
      have key : s.size = 0 ∨ (s.size = 1) ∨ (∃ h : 1 < s.size, s[0] = 48) ∨ (∃ h : 1 < s.size, s[0] ≠ 48) := by
        rcases Nat.lt_or_ge 1 s.size with q | q
        · by_cases q2 : s[0] = 48
          · exact Or.inr (Or.inr (Or.inl ⟨q, q2⟩))
          · exact Or.inr (Or.inr (Or.inr ⟨q, q2⟩))
        · omega
      have hN0 : (0 : Int) ≤ (numOf s.data.toList : Int) := by omega
      rcases key with h | h | ⟨h, h0⟩ | ⟨h, h0⟩
      · have e0 : ¬ (0 : Int) < (s.size : Int) := by omega
        have F := Lib.hid (show rnum most s.data.toList = (numOf s.data.toList, false) by
          rw [RR.out, decide_eq_false (fun q => q (List.length_eq_zero_iff.1 (by rw [length_toList]; exact h)))]; rfl)
        clear RR h
        generalize numOf s.data.toList = N at *
        go_wp2_with fail
        go_returns
        rw [F.out]
        exact ⟨rfl, rfl⟩
      · have e0 : (0 : Int) < (s.size : Int) := by omega
        have e1 : ((s.size : Int) == 1) = true := by rw [h]; rfl
        have F := Lib.hid (show rnum most s.data.toList = (numOf s.data.toList, decide (numOf s.data.toList ≤ most)) by
          have q1 : s.data.toList ≠ [] := fun q => by have := length_toList s; rw [q] at this; simp at this; omega
          rw [RR.out, decide_eq_true q1, decide_eq_true (show s.data.toList.length = 1 by rw [length_toList]; exact h)]; simp)
        clear RR h
        generalize numOf s.data.toList = N at *
        go_wp2_with fail
        go_returns
        rw [F.out]
        exact ⟨rfl, rfl⟩
      · have e0 : (0 : Int) < (s.size : Int) := by omega
        have e1 : ((s.size : Int) == 1) = false := by rw [beq_eq_false_iff_ne]; omega
        have e2 : (s[0].toNat : Int) = 48 := by rw [h0]; rfl
        have F := Lib.hid (show rnum most s.data.toList = (numOf s.data.toList, false) by
          have hh : s.data.toList.head? = some 48 := by
            rw [List.head?_eq_getElem?, List.getElem?_eq_getElem (by rw [length_toList]; omega)]
            exact congrArg some h0
          rw [RR.out, decide_eq_false (show ¬ s.data.toList.length = 1 by rw [length_toList]; omega), hh]; simp)
        clear RR h0
        generalize numOf s.data.toList = N at *
        go_wp2_with fail
        go_returns
        rw [F.out]
        exact ⟨ret_two rfl (by simp), rfl⟩
      · have e0 : (0 : Int) < (s.size : Int) := by omega
        have e1 : ((s.size : Int) == 1) = false := by rw [beq_eq_false_iff_ne]; omega
        have e2 : ¬ (s[0].toNat : Int) = 48 := by
          intro q
          exact h0 (UInt8.toNat_inj.1 (by simpa using (by omega : s[0].toNat = 48)))
        have F := Lib.hid (show rnum most s.data.toList = (numOf s.data.toList, decide (numOf s.data.toList ≤ most)) by
          have hh : s.data.toList.head? ≠ some 48 := by
            rw [List.head?_eq_getElem?, List.getElem?_eq_getElem (by rw [length_toList]; omega)]
            intro q
            exact h0 (Option.some.inj q)
          have q1 : s.data.toList ≠ [] := fun q => by have := length_toList s; rw [q] at this; simp at this; omega
          rw [RR.out, decide_eq_true q1, decide_eq_true hh]; simp)
        clear RR h0
        generalize numOf s.data.toList = N at *
        go_wp2_with fail
        go_returns
        rw [F.out]
        exact ⟨ret_two rfl (by simp [e2]), rfl⟩
theorem lit_eq (l z : List UInt8) : ((B l).toList == z) = decide (l = z) := by
  rw [ByteArray.toList_eq, toList_B, Bool.eq_iff_iff]; simp
set_option maxHeartbeats 400000 in
theorem rtext_any (l : List UInt8) (w : World) : Calls Tryd.prog 92 #[.string (B l)] w fun e w' => e = .returned (.string (B (rtext l))) ∧ w' = w := by
  have hq := lit_eq l [45]
  by_cases h : l = [45]
  · have E := Lib.hid (show rtext l = [] from if_pos h)
    rw [decide_eq_true h] at hq
    clear h
    go_enter Tryd.func92, Tryd.ntmps92
    go_wp2_with fail
    go_ret
    exact ⟨ret_str (by rw [E.out]; rfl), rfl⟩
  · have E := Lib.hid (show rtext l = l from if_neg h)
    rw [decide_eq_false h] at hq
    clear h
    go_enter Tryd.func92, Tryd.ntmps92
    go_wp2_with fail
    go_ret
    exact ⟨ret_str (by rw [E.out]), rfl⟩
end Go.Proofs.YtnbiedijofdjhaaDoor
