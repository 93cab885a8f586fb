/-
  The reference's own tests: ranges, letters, rising letters, points.
-/
import Derived.Test.YtmioocmjlbjfpaaDoorMM
namespace Go.Proofs.YtmioocmjlbjfpaaDoor
open Go.RowKit
open Pl

set_option maxHeartbeats 400000 in
theorem In_is (n a b : Int) (r : Bool) (h : hasB a b n = r) (w : World) :
    Calls Tryd.prog 41 #[.int .i64 n, .int .i64 a, .int .i64 b] w fun e w' => e = .returned (.bool r) ∧ w = w' := by
  subst h
  by_cases h1 : a ≤ n
  · by_cases h2 : n ≤ b
    · have E := Lib.hid (hasB_yes h1 h2)
      go_enter Tryd.func41, Tryd.ntmps41
      go_wp2
      go_ret
      exact ⟨ret_bool E.out.symm, rfl⟩
    · have E := Lib.hid (hasB_no2 (a := a) (by omega : b < n))
      go_enter Tryd.func41, Tryd.ntmps41
      go_wp2
      go_ret
      exact ⟨ret_bool E.out.symm, rfl⟩
  · have E := Lib.hid (hasB_no1 (b := b) (by omega : n < a))
    go_enter Tryd.func41, Tryd.ntmps41
    go_wp2
    go_ret
    exact ⟨ret_bool E.out.symm, rfl⟩

set_option maxHeartbeats 800000 in
set_option maxRecDepth 100000 in
theorem Letters_is (s : ByteArray) (r : Bool) (h : lettersB s.data.toList = r) (w : World) (hm : s.size ≤ 1000000) :
    Calls Tryd.prog 40 #[.string s] w fun e w' => e = .returned (.bool r) ∧ w = w' := by
  subst h
  go_enter Tryd.func40, Tryd.ntmps40
  go_wp2_with fail
  go_loop [3] (fun i => ∃ k : Nat, i = .int .i64 k ∧ k ≤ s.size ∧ lettersB (s.data.toList.take k) = true) (fun i => s.size - (intOf i).toNat)
  case atStart => exact ⟨0, rfl, Nat.zero_le _, rfl⟩
  case round =>
    obtain ⟨k, rfl, hk, hl⟩ := hrel
    have Hl := Lib.hid hl
    clear hl
    by_cases hp : k < s.size
    · have Hs := Lib.hid (lettersB_take_succ s k hp)
      have Hn := Lib.hid (lettersB_no s k hp)
      have hk0 : (0 : Int) ≤ (k : Int) := by omega
      have hk1 : (k : Int) < (s.size : Int) := by omega
      by_cases h1 : ((s[k]'hp).toNat : Int) < 97
      · have Hi := Lib.hid (Hn.out (isLow_no (Or.inl h1)))
        clear Hn Hs
        go_wp2_with fail
        go_ret
        exact ⟨ret_bool Hi.out.symm, rfl⟩
      · by_cases h2 : 122 < ((s[k]'hp).toNat : Int)
        · have Hi := Lib.hid (Hn.out (isLow_no (Or.inr h2)))
          clear Hn Hs
          go_wp2_with fail
          go_ret
          exact ⟨ret_bool Hi.out.symm, rfl⟩
        · have Hi := Lib.hid (isLow_true (c := s[k]'hp) (by omega) (by omega))
          clear Hn
          go_wp2_with fail
          go_round
          case rel => exact ⟨k + 1, by go_num, by omega, by rw [Hs.out, Hl.out, Hi.out]; rfl⟩
          case measure => simp [intOf]; omega
    · have Hi := Lib.hid (lettersB_all s k hp Hl.out)
      have hk1 : ¬ (k : Int) < (s.size : Int) := by omega
      go_wp2_with fail
      go_ret
      exact ⟨ret_bool Hi.out.symm, rfl⟩
end Go.Proofs.YtmioocmjlbjfpaaDoor
