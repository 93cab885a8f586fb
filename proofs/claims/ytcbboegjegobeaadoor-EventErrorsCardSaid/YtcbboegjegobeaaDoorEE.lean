/-
  The reference's Text and chord: letters.
-/
import Derived.Test.YtcbboegjegobeaaDoorBB
namespace Go.Proofs.YtcbboegjegobeaaDoor
open Go.RowKit
open Pl

def alpha : ByteArray := ⟨#[97, 98, 99, 100, 101, 102, 103, 104, 105, 106, 107, 108, 109, 110, 111, 112, 113, 114, 115, 116, 117, 118, 119, 120, 121, 122]⟩
theorem alpha_all : (List.range 26).all (fun r => ((⟨#[97, 98, 99, 100, 101, 102, 103, 104, 105, 106, 107, 108, 109, 110, 111, 112, 113, 114, 115, 116, 117, 118, 119, 120, 121, 122]⟩ : ByteArray).extract r (r + 1)).data.toList == [UInt8.ofNat (97 + r)] && lettersB [UInt8.ofNat (97 + r)]) = true := by decide +kernel
theorem alpha_ext (r : Nat) (hr : r < 26) : (⟨#[97, 98, 99, 100, 101, 102, 103, 104, 105, 106, 107, 108, 109, 110, 111, 112, 113, 114, 115, 116, 117, 118, 119, 120, 121, 122]⟩ : ByteArray).extract r (r + 1) = B [UInt8.ofNat (97 + r)] ∧ lettersB [UInt8.ofNat (97 + r)] = true := by
  have h := List.all_eq_true.1 alpha_all r (List.mem_range.2 hr)
  rw [Bool.and_eq_true] at h
  refine ⟨?_, h.2⟩
  rw [← B_toList ((⟨#[97, 98, 99, 100, 101, 102, 103, 104, 105, 106, 107, 108, 109, 110, 111, 112, 113, 114, 115, 116, 117, 118, 119, 120, 121, 122]⟩ : ByteArray).extract r (r + 1))]
  exact congrArg B (by simpa using h.1)
/-- The slice reads as bytes. -/
def BytesAt (W : World) (B0 : Nat) (v : Value) (n : Nat) : Prop := ∃ a c, v = .slice a n c ∧ (0 < n → ∃ b off, a = some ⟨b, off, none⟩ ∧ b < B0 ∧ ∀ i, i < n → ∃ x : Int, W.cell? ⟨b, off + i, none⟩ = some (.int .u8 x) ∧ 0 ≤ x ∧ x ≤ 255)
theorem BytesAt.below {W W' : World} {B0 : Nat} {v : Value} {n : Nat} (h : BytesAt W B0 v n) (hb : Below B0 W W') : BytesAt W' B0 v n := by
  obtain ⟨a, c, rfl, h⟩ := h
  refine ⟨a, c, rfl, fun hp => ?_⟩
  obtain ⟨b, off, rfl, hlt, hc⟩ := h hp
  exact ⟨b, off, rfl, hlt, fun i hi => by
    obtain ⟨x, hx, h0, h1⟩ := hc i hi
    exact ⟨x, (hb.cell (p := ⟨b, _, none⟩) hlt).trans hx, h0, h1⟩⟩
theorem lettersB_app {s t : List UInt8} (hs : lettersB s = true) (ht : lettersB t = true) : lettersB (s ++ t) = true := by
  unfold lettersB at *; rw [List.all_append, hs, ht]; rfl

def TextPost (w : World) (e : Ending) (w' : World) : Prop := ∃ t : List UInt8, e = .returned (.string (B t)) ∧ lettersB t = true ∧ t.length ≤ 5 ∧ w = w'
set_option maxHeartbeats 1000000 in
set_option maxRecDepth 100000 in
theorem Text_any (v : Value) (n : Nat) (w : World) (hv : BytesAt w w.heap.size v n) (hn : n ≤ maxLen) :
    Calls Tryd.prog 25 #[v, .int .i64 5, .int .i64 26] w (TextPost w) := by
  unfold maxLen at hn
  obtain ⟨a, c, rfl, hv⟩ := hv
  have HV := Lib.hid hv
  clear hv
  go_enter Tryd.func25, Tryd.ntmps25
  go_wp2_with fail
  go_loop [8, 9] (fun s i => ∃ (j : Nat) (t : List UInt8), i = .int .i64 j ∧ j ≤ n ∧ j ≤ 5 ∧ s = .string (B t) ∧ lettersB t = true ∧ t.length ≤ j) (fun _ i => n - (intOf i).toNat)
  case atStart => exact ⟨0, [], rfl, Nat.zero_le _, Nat.zero_le _, rfl, rfl, Nat.zero_le _⟩
  case round =>
    obtain ⟨j, t, rfl, hjn, hj5, rfl, hlt, htl⟩ := hrel
    have Hlt := Lib.hid hlt
    clear hlt
    by_cases h1 : (j : Int) < (n : Int)
    · by_cases h2 : (j : Int) < 5
      · obtain ⟨b, off, ha, hb, hc⟩ := HV.out (by omega)
        subst ha
        obtain ⟨x, hx, hx0, hx1⟩ := hc j (by omega)
        clear hc
        obtain ⟨r, hr⟩ : ∃ r : Nat, x % 26 = (r : Int) := ⟨(x % 26).toNat, by omega⟩
        have hr26 : r < 26 := by omega
        have hrb : (r : Int) < 26 := by omega
        have hr0 : (0 : Int) ≤ (r : Int) := by omega
        have E := alpha_ext r hr26
        have E1 := Lib.hid E.1
        have Hl := Lib.hid (lettersB_app Hlt.out E.2)
        have A := Lib.hid (B_app t [UInt8.ofNat (97 + r)])
        have hts : (B t).size ≤ 5 := by rw [size_B]; omega
        have hj0 : (0 : Int) ≤ (j : Int) := by omega
        clear E hr26
        go_wp2_with fail
        go_round
        case rel => exact ⟨j + 1, t ++ [UInt8.ofNat (97 + r)], by go_num, by omega, by omega, by rw [← A.out, ← E1.out], Hl.out, by simp; omega⟩
        case measure => simp [intOf]; omega
      · go_wp2_with fail
        go_ret
        exact ⟨t, rfl, Hlt.out, by omega, rfl⟩
    · go_wp2_with fail
      go_ret
      exact ⟨t, rfl, Hlt.out, by omega, rfl⟩

/-- The letters of a chord: a, and steps of d. -/
def chordL (a d : Nat) : Nat → List UInt8
  | 0 => []
  | j + 1 => chordL a d j ++ [UInt8.ofNat (97 + (a + j * d))]
theorem chord_all : (List.range 20).all (fun a => [1, 2].all fun d => [2, 3, 4].all fun k => lettersB (chordL a d k) && (incB (chordL a d k) && decide ((chordL a d k).length = k))) = true := by decide +kernel
theorem chord_ok (a d k : Nat) (ha : a < 20) (hd : d = 1 ∨ d = 2) (hk : k = 2 ∨ k = 3 ∨ k = 4) : lettersB (chordL a d k) = true ∧ incB (chordL a d k) = true ∧ (chordL a d k).length = k := by
  have h := List.all_eq_true.1 chord_all a (List.mem_range.2 ha)
  have h2 := List.all_eq_true.1 h d (by simp; omega)
  have h3 := List.all_eq_true.1 h2 k (by simp; omega)
  rw [Bool.and_eq_true, Bool.and_eq_true, decide_eq_true_eq] at h3
  exact h3
theorem chordL_len (a d : Nat) : ∀ k, (chordL a d k).length = k
  | 0 => rfl
  | k + 1 => by simp [chordL, chordL_len a d k]
def ChordPost (w : World) (e : Ending) (w' : World) : Prop := ∃ t : List UInt8, e = .returned (.string (B t)) ∧ lettersB t = true ∧ incB t = true ∧ 2 ≤ t.length ∧ t.length ≤ 4 ∧ w = w'

set_option maxHeartbeats 1000000 in
set_option maxRecDepth 100000 in
theorem chord_0 (n m : Int) (a c : Nat) (w : World) (hn0 : 0 ≤ n) (hn1 : n ≤ 255) (hm0 : 0 ≤ m) (hm1 : m ≤ 255) (hn : n % 20 = (a : Int)) (hd : m / 3 % 2 = 0) (hc : m % 3 = (c : Int)) :
    Calls Tryd.prog 26 #[.int .u8 n, .int .u8 m] w (ChordPost w) := by
  have ha : (a : Int) < 20 := by omega
  have ha0 : (0 : Int) ≤ (a : Int) := by omega
  have hc3 : (c : Int) < 3 := by omega
  have hc0 : (0 : Int) ≤ (c : Int) := by omega
  have OK := Lib.hid (fun k hk => chord_ok a 1 k (by omega) (by omega) hk)
  go_enter Tryd.func26, Tryd.ntmps26
  go_wp2_with fail
  go_loop [8, 9] (fun s i => ∃ j : Nat, i = .int .i64 j ∧ j ≤ 2 + c ∧ s = .string (B (chordL a 1 j))) (fun _ i => 2 + c - (intOf i).toNat)
  case atStart => exact ⟨0, rfl, Nat.zero_le _, rfl⟩
  case round =>
    obtain ⟨j, rfl, hj, rfl⟩ := hrel
    by_cases h1 : (j : Int) < 2 + (c : Int)
    · have E := Lib.hid (alpha_ext (a + j) (by omega)).1
      have A := Lib.hid (B_app (chordL a 1 j) [UInt8.ofNat (97 + (a + j))])
      have hs : (B (chordL a 1 j)).size ≤ 5 := by rw [size_B, chordL_len]; omega
      have hj0 : (0 : Int) ≤ (j : Int) := by omega
      have hj4 : (j : Int) < 4 := by omega
      go_wp2_with fail
      go_round
      case rel => exact ⟨j + 1, by go_num, by omega, by rw [chordL, Nat.mul_one, ← A.out, ← E.out]⟩
      case measure => simp [intOf]; omega
    · obtain ⟨o1, o2, o3⟩ := OK.out (2 + c) (by omega)
      have hjc : j = 2 + c := by omega
      have O1 := Lib.hid o1
      have O2 := Lib.hid o2
      have O3 := Lib.hid o3
      clear o1 o2 o3
      subst hjc
      go_wp2_with fail
      go_ret
      exact ⟨chordL a 1 (2 + c), rfl, O1.out, O2.out, by rw [O3.out]; omega, by rw [O3.out]; omega, rfl⟩

set_option maxHeartbeats 1000000 in
set_option maxRecDepth 100000 in
theorem chord_1 (n m : Int) (a c : Nat) (w : World) (hn0 : 0 ≤ n) (hn1 : n ≤ 255) (hm0 : 0 ≤ m) (hm1 : m ≤ 255) (hn : n % 20 = (a : Int)) (hd : m / 3 % 2 = 1) (hc : m % 3 = (c : Int)) :
    Calls Tryd.prog 26 #[.int .u8 n, .int .u8 m] w (ChordPost w) := by
  have ha : (a : Int) < 20 := by omega
  have ha0 : (0 : Int) ≤ (a : Int) := by omega
  have hc3 : (c : Int) < 3 := by omega
  have hc0 : (0 : Int) ≤ (c : Int) := by omega
  have OK := Lib.hid (fun k hk => chord_ok a 2 k (by omega) (by omega) hk)
  go_enter Tryd.func26, Tryd.ntmps26
  go_wp2_with fail
  go_loop [8, 9] (fun s i => ∃ j : Nat, i = .int .i64 j ∧ j ≤ 2 + c ∧ s = .string (B (chordL a 2 j))) (fun _ i => 2 + c - (intOf i).toNat)
  case atStart => exact ⟨0, rfl, Nat.zero_le _, rfl⟩
  case round =>
    obtain ⟨j, rfl, hj, rfl⟩ := hrel
    by_cases h1 : (j : Int) < 2 + (c : Int)
    · have E := Lib.hid (alpha_ext (a + j * 2) (by omega)).1
      have A := Lib.hid (B_app (chordL a 2 j) [UInt8.ofNat (97 + (a + j * 2))])
      have hs : (B (chordL a 2 j)).size ≤ 5 := by rw [size_B, chordL_len]; omega
      have hj0 : (0 : Int) ≤ (j : Int) := by omega
      have hj4 : (j : Int) < 4 := by omega
      go_wp2_with fail
      go_round
      case rel => exact ⟨j + 1, by go_num, by omega, by rw [chordL, ← A.out, ← E.out]⟩
      case measure => simp [intOf]; omega
    · obtain ⟨o1, o2, o3⟩ := OK.out (2 + c) (by omega)
      have hjc : j = 2 + c := by omega
      have O1 := Lib.hid o1
      have O2 := Lib.hid o2
      have O3 := Lib.hid o3
      clear o1 o2 o3
      subst hjc
      go_wp2_with fail
      go_ret
      exact ⟨chordL a 2 (2 + c), rfl, O1.out, O2.out, by rw [O3.out]; omega, by rw [O3.out]; omega, rfl⟩

theorem chord_any (n m : Int) (w : World) (hn0 : 0 ≤ n) (hn1 : n ≤ 255) (hm0 : 0 ≤ m) (hm1 : m ≤ 255) :
    Calls Tryd.prog 26 #[.int .u8 n, .int .u8 m] w (ChordPost w) := by
  obtain ⟨a, ha⟩ : ∃ a : Nat, n % 20 = (a : Int) := ⟨(n % 20).toNat, by omega⟩
  obtain ⟨c, hc⟩ : ∃ c : Nat, m % 3 = (c : Int) := ⟨(m % 3).toNat, by omega⟩
  rcases (show m / 3 % 2 = 0 ∨ m / 3 % 2 = 1 by omega) with hd | hd
  · exact chord_0 n m a c w hn0 hn1 hm0 hm1 ha hd hc
  · exact chord_1 n m a c w hn0 hn1 hm0 hm1 ha hd hc
end Go.Proofs.YtcbboegjegobeaaDoor
