/-
  The reference's tests of rising letters and of points.
-/
import Derived.Test.YtmioocmjlbjfpaaDoorNN
namespace Go.Proofs.YtmioocmjlbjfpaaDoor
open Go.RowKit
open Pl

theorem incB_one (l : List UInt8) : incB (l.take 1) = true := by
  rcases l with _ | ⟨a, r⟩ <;> rfl
set_option maxHeartbeats 800000 in
set_option maxRecDepth 100000 in
theorem rising_is (s : ByteArray) (r : Bool) (h : incB s.data.toList = r) (w : World) (hm : s.size ≤ 1000000) :
    Calls Tryd.prog 42 #[.string s] w fun e w' => e = .returned (.bool r) ∧ ∃ n, w' = w.drewN n := by
  subst h
  go_enter Tryd.func42, Tryd.ntmps42
  go_wp2_with fail
  go_loopw [3] (fun i wr => ∃ j : Nat, i = .int .i64 ((j : Int) + 1) ∧ (j + 1 ≤ s.size ∨ j = 0) ∧ incB (s.data.toList.take (j + 1)) = true ∧ ∃ n, wr = w.drewN n) (fun i _ => s.size + 1 - (intOf i).toNat)
  case atStart => exact ⟨0, rfl, Or.inr rfl, incB_one _, 0, rfl⟩
  case round =>
    obtain ⟨j, rfl, hk, hl, n, rfl⟩ := hrel
    have Hl := Lib.hid hl
    clear hl
    by_cases hp : j + 1 < s.size
    · have hj : j < s.size := by omega
      have Hs := Lib.hid (incB_step s (j + 1) hp Hl.out)
      have Hn := Lib.hid (incB_no s (j + 1) hp)
      have Hj := Lib.hid (lastOf_step s j hj)
      have hj0 : (0 : Int) ≤ (j : Int) := by omega
      have hj1 : (j : Int) < (s.size : Int) := by omega
      have hk0 : (0 : Int) ≤ (j : Int) + 1 := by omega
      have hk1 : (j : Int) + 1 < (s.size : Int) := by omega
      have hw2 : ((j : Int) + 1).toNat = j + 1 := by omega
      by_cases h1 : ((s[j + 1]'hp).toNat : Int) ≤ ((s[j]'hj).toNat : Int)
      · have Hi := Lib.hid (Hn.out (by rw [Hj.out]; exact h1))
        clear Hn Hs Hj
        go_wp2_with fail
        go_region
        all_goals
          go_wp2_with fail
          go_ret
          exact ⟨ret_bool Hi.out.symm, _, rfl⟩
      · have Hi := Lib.hid (Hs.out (by rw [Hj.out]; omega))
        clear Hn Hs Hj
        go_wp2_with fail
        go_region
        all_goals
          go_wp2_with fail
          go_roundw
          case rel => exact ⟨j + 1, by go_num, by omega, Hi.out, _, rfl⟩
          case measure => simp [intOf]; omega
    · have Hi := Lib.hid (incB_all s (j + 1) hp Hl.out)
      have hk1 : ¬ (j : Int) + 1 < (s.size : Int) := by omega
      go_wp2_with fail
      go_ret
      exact ⟨ret_bool Hi.out.symm, _, rfl⟩

set_option maxHeartbeats 800000 in
set_option maxRecDepth 100000 in
theorem points_is (v : Value) (ps : List (Int × Int)) (a b : Int) (r : Bool) (w : World) (hp : PtsAt w w.heap.size v ps) (hl : ps.length ≤ 1000000) (h : (insideB ps && hasB a b (ps.length : Int)) = r) :
    Calls Tryd.prog 43 #[v, .int .i64 a, .int .i64 b] w fun e w' => e = .returned (.bool r) ∧ w = w' := by
  subst h
  obtain ⟨va, vc, rfl, hp⟩ := hp
  have Hp := Lib.hid hp
  clear hp
  go_enter Tryd.func43, Tryd.ntmps43
  go_wp2_with fail
  go_loop [7] (fun i => ∃ k : Nat, i = .int .i64 k ∧ k ≤ ps.length ∧ insideB (ps.take k) = true) (fun i => ps.length - (intOf i).toNat)
  case atStart => exact ⟨0, rfl, Nat.zero_le _, rfl⟩
  case round =>
    obtain ⟨k, rfl, hk, hin⟩ := hrel
    have Hin := Lib.hid hin
    clear hin
    by_cases hlt : k < ps.length
    · obtain ⟨g, off, hva, hb, hc⟩ := Hp.out (by omega)
      subst hva
      have hx := (hc k hlt).1
      have hy := (hc k hlt).2
      have Hs := Lib.hid (insideB_take_succ ps k hlt)
      have Hn := Lib.hid (insideB_no ps k hlt)
      clear hc
      generalize ps[k].1 = x at *
      generalize ps[k].2 = y at *
      have hik : (k : Int) < (ps.length : Int) := by omega
      have hk0 : (0 : Int) ≤ (k : Int) := by omega
      cases hcx : hasB 0 1000 x with
      | false =>
        have C := fun w => Lib.hid (In_is x 0 1000 false hcx w)
        have Hf := Lib.hid (show (insideB ps && hasB a b (ps.length : Int)) = false by rw [Hn.out (Or.inl hcx)]; rfl)
        clear hcx Hs Hn
        go_wp2_with fail
        refine ((C _).out).mono ?_
        rintro e w1 ⟨rfl, rfl⟩
        go_wp2_with fail
        go_ret
        exact ⟨ret_bool Hf.out.symm, rfl⟩
      | true =>
        cases hcy : hasB 0 1000 y with
        | false =>
          have C := fun w => Lib.hid (In_is x 0 1000 true hcx w)
          have C2 := fun w => Lib.hid (In_is y 0 1000 false hcy w)
          have Hf := Lib.hid (show (insideB ps && hasB a b (ps.length : Int)) = false by rw [Hn.out (Or.inr hcy)]; rfl)
          clear hcx hcy Hs Hn
          go_wp2_with fail
          refine ((C _).out).mono ?_
          rintro e w1 ⟨rfl, rfl⟩
          go_wp2_with fail
          refine ((C2 _).out).mono ?_
          rintro e w1 ⟨rfl, rfl⟩
          go_wp2_with fail
          go_ret
          exact ⟨ret_bool Hf.out.symm, rfl⟩
        | true =>
          have C := fun w => Lib.hid (In_is x 0 1000 true hcx w)
          have C2 := fun w => Lib.hid (In_is y 0 1000 true hcy w)
          have Hf := Lib.hid (show insideB (ps.take (k + 1)) = true by rw [Hs.out, Hin.out, hcx, hcy]; rfl)
          clear hcx hcy Hs Hn
          go_wp2_with fail
          refine ((C _).out).mono ?_
          rintro e w1 ⟨rfl, rfl⟩
          go_wp2_with fail
          refine ((C2 _).out).mono ?_
          rintro e w1 ⟨rfl, rfl⟩
          go_wp2_with fail
          go_round
          case rel => exact ⟨k + 1, by go_num, by omega, Hf.out⟩
          case measure => simp [intOf]; omega
    · have hnk : ¬ (k : Int) < (ps.length : Int) := by omega
      have hfin : insideB ps = true := by have := Hin.out; rwa [List.take_of_length_le (by omega)] at this
      have C := fun w => Lib.hid (In_is (ps.length : Int) a b _ rfl w)
      have Hf := Lib.hid (show (insideB ps && hasB a b (ps.length : Int)) = hasB a b (ps.length : Int) by rw [hfin]; rfl)
      clear hfin
      go_wp2_with fail
      refine ((C _).out).mono ?_
      rintro e w1 ⟨rfl, rfl⟩
      go_wp2_with fail
      go_ret
      exact ⟨ret_bool Hf.out.symm, rfl⟩
end Go.Proofs.YtmioocmjlbjfpaaDoor
