/-
  The reference on characters: In, Small, Plain, Letters, Word.
-/
import Derived.Test.YtadaijepalhohabDoorSG
import Derived.Deep.RegionHeld3
import Derived.Deep.DeepCutAuto
namespace Go.Proofs.YtadaijepalhohabDoor
open Go.RowKit
open Pl

theorem rl_new (w : World) (r : Rl) (cs : Array Value) (h : cs = #[.int .i64 r.src, .int .i64 r.dst, .string (B r.inp), .string (B r.out), .int .i64 r.cost]) : RlBlock (w.alloc (.cells cs 31)) w.heap.size r := by
  subst h; exact heap_alloc_new w _

set_option maxHeartbeats 400000 in
theorem In_any (n lo hi : Int) (w : World) : Calls Tryd.prog 30 #[.int .i64 n, .int .i64 lo, .int .i64 hi] w fun e w' => e = .returned (.bool (decide (lo ≤ n) && decide (n ≤ hi))) ∧ w' = w := by
  by_cases h1 : lo ≤ n
  · have h1' : n ≥ lo := h1
    have E := Lib.hid (show (decide (lo ≤ n) && decide (n ≤ hi)) = decide (n ≤ hi) by rw [decide_eq_true h1]; rfl)
    go_enter Tryd.func30, Tryd.ntmps30
    go_wp2_with fail
    go_ret
    exact ⟨by rw [E.out]; rfl, rfl⟩
  · have h1' : ¬ n ≥ lo := h1
    have E := Lib.hid (show (decide (lo ≤ n) && decide (n ≤ hi)) = false by rw [decide_eq_false h1]; rfl)
    go_enter Tryd.func30, Tryd.ntmps30
    go_wp2_with fail
    go_ret
    exact ⟨by rw [E.out]; rfl, rfl⟩
theorem small_yes {c : UInt8} (h1 : 97 ≤ (c.toNat : Int)) (h2 : (c.toNat : Int) ≤ 122) : (kindB c &&& 1 != 0) = true := by
  unfold kindB; rw [if_pos (by omega)]; rfl
theorem small_no {c : UInt8} (h : (c.toNat : Int) < 97 ∨ 122 < (c.toNat : Int)) : kindB c &&& 1 = 0 := by
  unfold kindB; rw [if_neg (by omega)]; split
  · rfl
  · split <;> rfl
theorem plain_yes {c : UInt8} (h : (48 ≤ (c.toNat : Int) ∧ (c.toNat : Int) ≤ 57) ∨ (65 ≤ (c.toNat : Int) ∧ (c.toNat : Int) ≤ 90) ∨ (97 ≤ (c.toNat : Int) ∧ (c.toNat : Int) ≤ 122)) : (kindB c &&& 7 != 0) = true := by
  unfold kindB; split
  · rfl
  · split
    · rfl
    · rw [if_pos (by omega)]; rfl
theorem plain_no {c : UInt8} (h : (c.toNat : Int) < 48 ∨ (57 < (c.toNat : Int) ∧ (c.toNat : Int) < 65) ∨ (90 < (c.toNat : Int) ∧ (c.toNat : Int) < 97) ∨ 122 < (c.toNat : Int)) : kindB c &&& 7 = 0 := by
  unfold kindB; rw [if_neg (by omega), if_neg (by omega), if_neg (by omega)]; rfl
set_option maxHeartbeats 1000000 in
set_option maxRecDepth 100000 in
theorem Small_any (s : ByteArray) (w : World) (hm : s.size ≤ 9223372036854775807) :
    Calls Tryd.prog 31 #[.string s] w fun e w' => e = .returned (.bool (onlyB 1 s.data.toList)) ∧ w' = w := by
  go_enter Tryd.func31, Tryd.ntmps31
  go_wp2_with fail
  go_loopw [3] (fun i wr => ∃ j : Nat, i = .int .i64 j ∧ j ≤ s.size ∧ onlyB 1 (s.data.toList.take j) = true ∧ wr = w) (fun i _ => s.size - (intOf i).toNat)
  case atStart => exact ⟨0, rfl, Nat.zero_le _, rfl, rfl⟩
  case round =>
    obtain ⟨j, rfl, hj, ha, rfl⟩ := hrel
    have HA := Lib.hid ha
    clear ha
    by_cases hp : j < s.size
    · have hj0 : (0 : Int) ≤ (j : Int) := by omega
      have hj1 : (j : Int) < (s.size : Int) := by omega
      have HS := Lib.hid (onlyB_take_succ 1 s j hp)
      have HN := Lib.hid (onlyB_no 1 s j hp)
      have c1 := fun a b => Lib.hid (small_yes (c := s[j]'hp) a b)
      have c2 := fun a => Lib.hid (small_no (c := s[j]'hp) a)
      by_cases h1 : (s[j].toNat : Int) < 97
      · have E := Lib.hid (HN.out (c2 (Or.inl h1)).out)
        go_wp2_with fail
        go_returns
        exact ⟨ret_bool E.out.symm, rfl⟩
      · by_cases h2 : 122 < (s[j].toNat : Int)
        · have E := Lib.hid (HN.out (c2 (Or.inr h2)).out)
          go_wp2_with fail
          go_returns
          exact ⟨ret_bool E.out.symm, rfl⟩
        · have E := Lib.hid (show onlyB 1 (s.data.toList.take (j + 1)) = true by rw [HS.out, HA.out, (c1 (by omega) (by omega)).out]; rfl)
          go_wp2_with fail
          go_roundw
          case rel => exact ⟨j + 1, by go_num, by omega, E.out, trivial⟩
          case measure => simp [intOf]; omega
    · have hj1 : ¬ (j : Int) < (s.size : Int) := by omega
      have E := Lib.hid (onlyB_all 1 s j hp HA.out)
      go_wp2_with fail
      go_returns
      exact ⟨ret_bool E.out.symm, rfl⟩
set_option maxHeartbeats 2000000 in
set_option maxRecDepth 100000 in
theorem Plain_any (s : ByteArray) (w : World) (hm : s.size ≤ 9223372036854775807) :
    Calls Tryd.prog 32 #[.string s] w fun e w' => e = .returned (.bool (onlyB 7 s.data.toList)) ∧ w' = w := by
  go_enter Tryd.func32, Tryd.ntmps32
  go_wp2_with fail
  go_loopw [3] (fun i wr => ∃ j : Nat, i = .int .i64 j ∧ j ≤ s.size ∧ onlyB 7 (s.data.toList.take j) = true ∧ wr = w) (fun i _ => s.size - (intOf i).toNat)
  case atStart => exact ⟨0, rfl, Nat.zero_le _, rfl, rfl⟩
  case round =>
    obtain ⟨j, rfl, hj, ha, rfl⟩ := hrel
    have HA := Lib.hid ha
    clear ha
    by_cases hp : j < s.size
    · have hj0 : (0 : Int) ≤ (j : Int) := by omega
      have hj1 : (j : Int) < (s.size : Int) := by omega
      have HS := Lib.hid (onlyB_take_succ 7 s j hp)
      have HN := Lib.hid (onlyB_no 7 s j hp)
      have c1 := fun a => Lib.hid (plain_yes (c := s[j]'hp) a)
      have c2 := fun a => Lib.hid (plain_no (c := s[j]'hp) a)
      rcases (show ((s[j].toNat : Int) < 48) ∨ (48 ≤ (s[j].toNat : Int) ∧ (s[j].toNat : Int) ≤ 57) ∨ (57 < (s[j].toNat : Int) ∧ (s[j].toNat : Int) < 65) ∨ (65 ≤ (s[j].toNat : Int) ∧ (s[j].toNat : Int) ≤ 90) ∨ (90 < (s[j].toNat : Int) ∧ (s[j].toNat : Int) < 97) ∨ (97 ≤ (s[j].toNat : Int) ∧ (s[j].toNat : Int) ≤ 122) ∨ 122 < (s[j].toNat : Int) by omega) with h | ⟨h, h'⟩ | ⟨h, h'⟩ | ⟨h, h'⟩ | ⟨h, h'⟩ | ⟨h, h'⟩ | h
      · have E := Lib.hid (HN.out (c2 (by omega)).out)
        go_wp2_with fail
        go_returns
        exact ⟨ret_bool E.out.symm, rfl⟩
      · have E := Lib.hid (show onlyB 7 (s.data.toList.take (j + 1)) = true by rw [HS.out, HA.out, (c1 (by omega)).out]; rfl)
        go_wp2_with fail
        go_roundw
        case rel => exact ⟨j + 1, by go_num, by omega, E.out, trivial⟩
        case measure => simp [intOf]; omega
      · have E := Lib.hid (HN.out (c2 (by omega)).out)
        go_wp2_with fail
        go_returns
        exact ⟨ret_bool E.out.symm, rfl⟩
      · have E := Lib.hid (show onlyB 7 (s.data.toList.take (j + 1)) = true by rw [HS.out, HA.out, (c1 (by omega)).out]; rfl)
        go_wp2_with fail
        go_roundw
        case rel => exact ⟨j + 1, by go_num, by omega, E.out, trivial⟩
        case measure => simp [intOf]; omega
      · have E := Lib.hid (HN.out (c2 (by omega)).out)
        go_wp2_with fail
        go_returns
        exact ⟨ret_bool E.out.symm, rfl⟩
      · have E := Lib.hid (show onlyB 7 (s.data.toList.take (j + 1)) = true by rw [HS.out, HA.out, (c1 (by omega)).out]; rfl)
        go_wp2_with fail
        go_roundw
        case rel => exact ⟨j + 1, by go_num, by omega, E.out, trivial⟩
        case measure => simp [intOf]; omega
      · have E := Lib.hid (HN.out (c2 (by omega)).out)
        go_wp2_with fail
        go_returns
        exact ⟨ret_bool E.out.symm, rfl⟩
    · have hj1 : ¬ (j : Int) < (s.size : Int) := by omega
      have E := Lib.hid (onlyB_all 7 s j hp HA.out)
      go_wp2_with fail
      go_returns
      exact ⟨ret_bool E.out.symm, rfl⟩
end Go.Proofs.YtadaijepalhohabDoor
