/-
  The reference's Decimal.
-/
import Derived.Test.YtmioocmjlbjfpaaDoorZ
import Derived.IntWalk
namespace Go.Proofs.YtmioocmjlbjfpaaDoor
open Go.RowKit
open Pl

theorem dig_ext : ∀ r, r < 10 → (⟨#[48, 49, 50, 51, 52, 53, 54, 55, 56, 57]⟩ : ByteArray).extract r (r + 1) = B [UInt8.ofNat (48 + r)]
  | 0, _ => rfl | 1, _ => rfl | 2, _ => rfl | 3, _ => rfl | 4, _ => rfl | 5, _ => rfl | 6, _ => rfl | 7, _ => rfl | 8, _ => rfl | 9, _ => rfl
  | n + 10, h => absurd h (by omega)
theorem dec_big {n : Nat} (h : 10 ≤ n) : Lib.decDigits n = Lib.decDigits (n / 10) ++ [UInt8.ofNat (48 + n % 10)] := by
  rw [Lib.decDigits, dif_neg (by omega)]

set_option maxHeartbeats 1000000 in
set_option maxRecDepth 100000 in
theorem decimal_any (f : Nat) : ∀ (n : Nat) (w : World), n < 10 ^ (f + 1) → n ≤ 1000000 →
    Calls Tryd.prog 15 #[.int .i64 (n : Int)] w fun e w' => e = .returned (.string (B (Lib.decDigits n))) ∧ Below w.heap.size w w' := by
  induction f with
  | zero =>
    intro n w hn _
    have h10 : n < 10 := by simpa using hn
    have E := Lib.hid (dig_ext n h10)
    have D := Lib.hid (dec1 n h10)
    have h1 : (n : Int) < 10 := by omega
    have h0 : (0 : Int) ≤ (n : Int) := by omega
    clear hn
    go_enter Tryd.func15, Tryd.ntmps15
    go_wp2_with fail
    go_ret
    exact ⟨by rw [D.out]; exact ret_str E.out, Below.refl _ _⟩
  | succ f ih =>
    intro n w hn hm
    by_cases h10 : n < 10
    · exact ih n w (Nat.lt_of_lt_of_le h10 (by rw [Nat.pow_succ]; have : 0 < 10 ^ f := Nat.pow_pos (by omega); omega)) hm
    · have D := Lib.hid (dec_big (show 10 ≤ n by omega))
      have E := Lib.hid (dig_ext (n % 10) (by omega))
      have IH := fun w => Lib.hid (ih (n / 10) w (by rw [Nat.pow_succ] at hn; omega) (by omega))
      have hs : (B (Lib.decDigits (n / 10))).size ≤ 7 := by rw [size_B]; exact dec_len 6 _ (by omega)
      have A := Lib.hid (B_app (Lib.decDigits (n / 10)) [UInt8.ofNat (48 + n % 10)])
      have h1 : ¬ (n : Int) < 10 := by omega
      have h0 : (0 : Int) ≤ (n : Int) := by omega
      obtain ⟨q, hq⟩ : ∃ q, q = n / 10 := ⟨_, rfl⟩
      obtain ⟨r, hr⟩ : ∃ r, r = n % 10 := ⟨_, rfl⟩
      have hr10 : r < 10 := by omega
      have hr0 : (0 : Int) ≤ (r : Int) := by omega
      have eq1 : ((n : Int) / 10) = (q : Int) := by omega
      have er1 : (n : Int).tmod 10 = (r : Int) := by rw [Int.tmod_eq_emod_of_nonneg h0]; omega
      have hwq : IntKind.i64.wrap (q : Int) = (q : Int) := IntWalk.i64_in _ (by omega)
      have hwr : IntKind.i64.wrap ((r : Int) + 1) = (r : Int) + 1 := IntWalk.i64_in _ (by omega)
      have hwt : ((r : Int) + 1).toNat = r + 1 := by omega
      have hr11 : (r : Int) + 1 ≤ 10 := by omega
      have hr01 : (0 : Int) ≤ (r : Int) + 1 := by omega
      have hrr : (r : Int) ≤ (r : Int) + 1 := by omega
      rw [← hq] at D IH hs A
      rw [← hr] at D E A
      clear ih hn hm h10 hq hr
      go_enter Tryd.func15, Tryd.ntmps15
      go_wp2_with fail
      go_region_with (first
        | (go_at_call 15; refine ((IH _).out).mono ?_; rintro e x1 ⟨rfl, hb⟩))
      all_goals
        go_wp2_with fail
        go_ret
        exact ⟨by rw [D.out, ← A.out, ← E.out]; rfl, (Below.refl _ _).drew.trans hb⟩
end Go.Proofs.YtmioocmjlbjfpaaDoor
