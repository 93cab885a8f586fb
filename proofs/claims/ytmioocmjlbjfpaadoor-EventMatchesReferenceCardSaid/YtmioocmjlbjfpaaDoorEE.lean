/-
  The reference's Text and chord: letters.
-/
import Derived.Test.YtmioocmjlbjfpaaDoorBB
namespace Go.Proofs.YtmioocmjlbjfpaaDoor
open Go.RowKit
open Pl

def alpha : ByteArray := ⟨#[97, 98, 99, 100, 101, 102, 103, 104, 105, 106, 107, 108, 109, 110, 111, 112, 113, 114, 115, 116, 117, 118, 119, 120, 121, 122]⟩
theorem alpha_all : (List.range 26).all (fun r => ((⟨#[97, 98, 99, 100, 101, 102, 103, 104, 105, 106, 107, 108, 109, 110, 111, 112, 113, 114, 115, 116, 117, 118, 119, 120, 121, 122]⟩ : ByteArray).extract r (r + 1)).data.toList == [UInt8.ofNat (97 + r)] && lettersB [UInt8.ofNat (97 + r)]) = true := by decide +kernel
theorem alpha_ext (r : Nat) (hr : r < 26) : (⟨#[97, 98, 99, 100, 101, 102, 103, 104, 105, 106, 107, 108, 109, 110, 111, 112, 113, 114, 115, 116, 117, 118, 119, 120, 121, 122]⟩ : ByteArray).extract r (r + 1) = B [UInt8.ofNat (97 + r)] ∧ lettersB [UInt8.ofNat (97 + r)] = true := by
  have h := List.all_eq_true.1 alpha_all r (List.mem_range.2 hr)
  rw [Bool.and_eq_true] at h
  refine ⟨?_, h.2⟩
  rw [← B_toList ((⟨#[97, 98, 99, 100, 101, 102, 103, 104, 105, 106, 107, 108, 109, 110, 111, 112, 113, 114, 115, 116, 117, 118, 119, 120, 121, 122]⟩ : ByteArray).extract r (r + 1))]
  exact congrArg B (by simpa using h.1)
/-- The slice reads as bytes. -/
def BytesAt (W : World) (B0 : Nat) (v : Value) (n : Nat) : Prop := ∃ a c, v = .slice a n c ∧ (0 < n → ∃ b off, a = some ⟨b, off, none⟩ ∧ b < B0 ∧ ∀ i, i < n → ∃ x : Int, W.cell? ⟨b, off + i, none⟩ = some (.int .u8 x) ∧ 0 ≤ x ∧ x ≤ 255)
theorem BytesAt.below {W W' : World} {B0 : Nat} {v : Value} {n : Nat} (h : BytesAt W B0 v n) (hb : Below B0 W W') : BytesAt W' B0 v n := by
  obtain ⟨a, c, rfl, h⟩ := h
  refine ⟨a, c, rfl, fun hp => ?_⟩
  obtain ⟨b, off, rfl, hlt, hc⟩ := h hp
  exact ⟨b, off, rfl, hlt, fun i hi => by
    obtain ⟨x, hx, h0, h1⟩ := hc i hi
    exact ⟨x, (hb.cell (p := ⟨b, _, none⟩) hlt).trans hx, h0, h1⟩⟩
theorem lettersB_app {s t : List UInt8} (hs : lettersB s = true) (ht : lettersB t = true) : lettersB (s ++ t) = true := by
  unfold lettersB at *; rw [List.all_append, hs, ht]; rfl

/-- The slice reads as these bytes. -/
def BytesFn (W : World) (B0 : Nat) (v : Value) (n : Nat) (X : Nat → Nat) : Prop := ∃ a c, v = .slice a n c ∧ (0 < n → ∃ b off, a = some ⟨b, off, none⟩ ∧ b < B0 ∧ ∀ i, i < n → W.cell? ⟨b, off + i, none⟩ = some (.int .u8 (X i : Nat)) ∧ X i ≤ 255)
theorem BytesFn.below {W W' : World} {B0 : Nat} {v : Value} {n : Nat} {X : Nat → Nat} (h : BytesFn W B0 v n X) (hb : Below B0 W W') : BytesFn W' B0 v n X := by
  obtain ⟨a, c, rfl, h⟩ := h
  refine ⟨a, c, rfl, fun hp => ?_⟩
  obtain ⟨b, off, rfl, hlt, hc⟩ := h hp
  exact ⟨b, off, rfl, hlt, fun i hi => ⟨(hb.cell (p := ⟨b, _, none⟩) hlt).trans (hc i hi).1, (hc i hi).2⟩⟩
theorem BytesFn.up {W : World} {B0 B1 : Nat} {v : Value} {n : Nat} {X : Nat → Nat} (h : BytesFn W B0 v n X) (hb : B0 ≤ B1) : BytesFn W B1 v n X := by
  obtain ⟨a, c, rfl, h⟩ := h
  refine ⟨a, c, rfl, fun hp => ?_⟩
  obtain ⟨b, off, rfl, hlt, hc⟩ := h hp
  exact ⟨b, off, rfl, by omega, hc⟩
theorem BytesAt.fn {W : World} {B0 : Nat} {v : Value} {n : Nat} (h : BytesAt W B0 v n) : ∃ X, BytesFn W B0 v n X := by
  obtain ⟨a, c, rfl, h⟩ := h
  rcases Nat.eq_zero_or_pos n with rfl | hp
  · exact ⟨fun _ => 0, a, c, rfl, fun h0 => absurd h0 (by omega)⟩
  · obtain ⟨b, off, rfl, hlt, hc⟩ := h hp
    have hc' : ∀ i, ∃ x : Nat, i < n → W.cell? ⟨b, off + i, none⟩ = some (.int .u8 (x : Int)) ∧ x ≤ 255 := fun i => by
      by_cases hi : i < n
      · obtain ⟨x, hx, h0, h1⟩ := hc i hi
        refine ⟨x.toNat, fun _ => ⟨?_, by omega⟩⟩
        rw [hx, show ((x.toNat : Nat) : Int) = x by omega]
      · exact ⟨0, fun h => absurd h hi⟩
    exact ⟨fun i => Classical.choose (hc' i), some ⟨b, off, none⟩, c, rfl, fun _ => ⟨b, off, rfl, hlt, fun i hi => Classical.choose_spec (hc' i) hi⟩⟩
/-- The first j letters of a text. -/
def textL (X : Nat → Nat) (j : Nat) : List UInt8 := (List.range j).map fun i => UInt8.ofNat (97 + X i % 26)
theorem textL_succ (X : Nat → Nat) (j : Nat) : textL X (j + 1) = textL X j ++ [UInt8.ofNat (97 + X j % 26)] := by
  unfold textL; rw [List.range_succ, List.map_append]; rfl
theorem textL_len (X : Nat → Nat) (j : Nat) : (textL X j).length = j := by simp [textL]
theorem textL_letters (X : Nat → Nat) : ∀ j, lettersB (textL X j) = true
  | 0 => rfl
  | j + 1 => by rw [textL_succ]; exact lettersB_app (textL_letters X j) (alpha_ext _ (Nat.mod_lt _ (by decide))).2

def TextPost (w : World) (X : Nat → Nat) (n : Nat) (e : Ending) (w' : World) : Prop := ∃ t : List UInt8, e = .returned (.string (B t)) ∧ lettersB t = true ∧ t.length ≤ 5 ∧ w = w' ∧ t = textL X (min n 5)
set_option maxHeartbeats 1000000 in
set_option maxRecDepth 100000 in
theorem Text_any (v : Value) (n : Nat) (X : Nat → Nat) (w : World) (hv : BytesFn w w.heap.size v n X) (hn : n ≤ maxLen) :
    Calls Tryd.prog 16 #[v, .int .i64 5, .int .i64 26] w (TextPost w X n) := by
  unfold maxLen at hn
  obtain ⟨a, c, rfl, hv⟩ := hv
  have HV := Lib.hid hv
  clear hv
  go_enter Tryd.func16, Tryd.ntmps16
  go_wp2_with fail
  go_loop [8, 9] (fun s i => ∃ (j : Nat) (t : List UInt8), i = .int .i64 j ∧ j ≤ n ∧ j ≤ 5 ∧ s = .string (B t) ∧ t = textL X j) (fun _ i => n - (intOf i).toNat)
  case atStart => exact ⟨0, [], rfl, Nat.zero_le _, Nat.zero_le _, rfl, rfl⟩
  case round =>
    obtain ⟨j, t, rfl, hjn, hj5, rfl, ht⟩ := hrel
    have htl : t.length = j := by rw [ht]; exact textL_len X j
    have HT := Lib.hid ht
    clear ht
    have HTL := Lib.hid htl
    clear htl
    by_cases h1 : (j : Int) < (n : Int)
    · by_cases h2 : (j : Int) < 5
      · obtain ⟨b, off, ha, hb, hc⟩ := HV.out (by omega)
        subst ha
        obtain ⟨hx', hx1'⟩ := hc j (by omega)
        clear hc
        have HX : ∃ (x : Int) (r : Nat), x = (X j : Nat) ∧ x % 26 = (r : Int) ∧ X j % 26 = r := ⟨_, X j % 26, rfl, by omega, rfl⟩
        obtain ⟨x, r, hxe, hr, hre⟩ := HX
        rw [← hxe] at hx'
        have hx0 : 0 ≤ x := by omega
        have hx1 : x ≤ 255 := by omega
        have hr26 : r < 26 := by omega
        have hrb : (r : Int) < 26 := by omega
        have hr0 : (0 : Int) ≤ (r : Int) := by omega
        have E := alpha_ext r hr26
        have E1 := Lib.hid E.1
        have HS := Lib.hid (show t ++ [UInt8.ofNat (97 + r)] = textL X (j + 1) by rw [textL_succ, ← HT.out, hre])
        have A := Lib.hid (B_app t [UInt8.ofNat (97 + r)])
        have hts : (B t).size ≤ 5 := by rw [size_B, HTL.out]; omega
        have hj0 : (0 : Int) ≤ (j : Int) := by omega
        clear E hr26 hxe hre hx1'
        go_wp2_with fail
        go_round
        case rel => exact ⟨j + 1, t ++ [UInt8.ofNat (97 + r)], by go_num, by omega, by omega, by rw [← A.out, ← E1.out], HS.out⟩
        case measure => simp [intOf]; omega
      · have hm := Lib.hid (show min n 5 = j by omega)
        go_wp2_with fail
        go_ret
        exact ⟨t, rfl, by rw [HT.out]; exact textL_letters X j, by rw [HTL.out]; omega, rfl, by rw [hm.out]; exact HT.out⟩
    · have hm := Lib.hid (show min n 5 = j by omega)
      go_wp2_with fail
      go_ret
      exact ⟨t, rfl, by rw [HT.out]; exact textL_letters X j, by rw [HTL.out]; omega, rfl, by rw [hm.out]; exact HT.out⟩

/-- The letters of a chord: a, and steps of d. -/
def chordL (a d : Nat) : Nat → List UInt8
  | 0 => []
  | j + 1 => chordL a d j ++ [UInt8.ofNat (97 + (a + j * d))]
theorem chord_all : (List.range 20).all (fun a => [1, 2].all fun d => [2, 3, 4].all fun k => lettersB (chordL a d k) && (incB (chordL a d k) && decide ((chordL a d k).length = k))) = true := by decide +kernel
theorem chord_ok (a d k : Nat) (ha : a < 20) (hd : d = 1 ∨ d = 2) (hk : k = 2 ∨ k = 3 ∨ k = 4) : lettersB (chordL a d k) = true ∧ incB (chordL a d k) = true ∧ (chordL a d k).length = k := by
  have h := List.all_eq_true.1 chord_all a (List.mem_range.2 ha)
  have h2 := List.all_eq_true.1 h d (by simp; omega)
  have h3 := List.all_eq_true.1 h2 k (by simp; omega)
  rw [Bool.and_eq_true, Bool.and_eq_true, decide_eq_true_eq] at h3
  exact h3
theorem chordL_len (a d : Nat) : ∀ k, (chordL a d k).length = k
  | 0 => rfl
  | k + 1 => by simp [chordL, chordL_len a d k]
/-- The letters of the chord that two numbers give. -/
def chordOf (n m : Int) : List UInt8 := chordL (n % 20).toNat (1 + (m / 3 % 2).toNat) (2 + (m % 3).toNat)
theorem chordOf_is {n m : Int} {a d c : Nat} (h1 : n % 20 = (a : Int)) (h2 : m / 3 % 2 + 1 = (d : Int)) (h3 : m % 3 = (c : Int)) : chordOf n m = chordL a d (2 + c) := by
  unfold chordOf
  rw [show (n % 20).toNat = a by omega, show 1 + (m / 3 % 2).toNat = d by omega, show (m % 3).toNat = c by omega]
def ChordPost (w : World) (n m : Int) (e : Ending) (w' : World) : Prop := ∃ t : List UInt8, e = .returned (.string (B t)) ∧ lettersB t = true ∧ incB t = true ∧ 2 ≤ t.length ∧ t.length ≤ 4 ∧ w = w' ∧ t = chordOf n m

set_option maxHeartbeats 1000000 in
set_option maxRecDepth 100000 in
theorem chord_0 (n m : Int) (a c : Nat) (w : World) (hn0 : 0 ≤ n) (hn1 : n ≤ 255) (hm0 : 0 ≤ m) (hm1 : m ≤ 255) (hn : n % 20 = (a : Int)) (hd : m / 3 % 2 = 0) (hc : m % 3 = (c : Int)) :
    Calls Tryd.prog 17 #[.int .u8 n, .int .u8 m] w (ChordPost w n m) := by
  have ha : (a : Int) < 20 := by omega
  have ha0 : (0 : Int) ≤ (a : Int) := by omega
  have hc3 : (c : Int) < 3 := by omega
  have hc0 : (0 : Int) ≤ (c : Int) := by omega
  have OK := Lib.hid (fun k hk => chord_ok a 1 k (by omega) (by omega) hk)
  have CH := Lib.hid (chordOf_is (d := 1) hn (by omega) hc)
  go_enter Tryd.func17, Tryd.ntmps17
  go_wp2_with fail
  go_loop [8, 9] (fun s i => ∃ j : Nat, i = .int .i64 j ∧ j ≤ 2 + c ∧ s = .string (B (chordL a 1 j))) (fun _ i => 2 + c - (intOf i).toNat)
  case atStart => exact ⟨0, rfl, Nat.zero_le _, rfl⟩
  case round =>
    obtain ⟨j, rfl, hj, rfl⟩ := hrel
    by_cases h1 : (j : Int) < 2 + (c : Int)
    · have E := Lib.hid (alpha_ext (a + j) (by omega)).1
      have A := Lib.hid (B_app (chordL a 1 j) [UInt8.ofNat (97 + (a + j))])
      have hs : (B (chordL a 1 j)).size ≤ 5 := by rw [size_B, chordL_len]; omega
      have hj0 : (0 : Int) ≤ (j : Int) := by omega
      have hj4 : (j : Int) < 4 := by omega
      go_wp2_with fail
      go_round
      case rel => exact ⟨j + 1, by go_num, by omega, by rw [chordL, Nat.mul_one, ← A.out, ← E.out]⟩
      case measure => simp [intOf]; omega
    · obtain ⟨o1, o2, o3⟩ := OK.out (2 + c) (by omega)
      have hjc : j = 2 + c := by omega
      have O1 := Lib.hid o1
      have O2 := Lib.hid o2
      have O3 := Lib.hid o3
      clear o1 o2 o3
      subst hjc
      go_wp2_with fail
      go_ret
      exact ⟨chordL a 1 (2 + c), rfl, O1.out, O2.out, by rw [O3.out]; omega, by rw [O3.out]; omega, rfl, CH.out.symm⟩

set_option maxHeartbeats 1000000 in
set_option maxRecDepth 100000 in
theorem chord_1 (n m : Int) (a c : Nat) (w : World) (hn0 : 0 ≤ n) (hn1 : n ≤ 255) (hm0 : 0 ≤ m) (hm1 : m ≤ 255) (hn : n % 20 = (a : Int)) (hd : m / 3 % 2 = 1) (hc : m % 3 = (c : Int)) :
    Calls Tryd.prog 17 #[.int .u8 n, .int .u8 m] w (ChordPost w n m) := by
  have ha : (a : Int) < 20 := by omega
  have ha0 : (0 : Int) ≤ (a : Int) := by omega
  have hc3 : (c : Int) < 3 := by omega
  have hc0 : (0 : Int) ≤ (c : Int) := by omega
  have OK := Lib.hid (fun k hk => chord_ok a 2 k (by omega) (by omega) hk)
  have CH := Lib.hid (chordOf_is (d := 2) hn (by omega) hc)
  go_enter Tryd.func17, Tryd.ntmps17
  go_wp2_with fail
  go_loop [8, 9] (fun s i => ∃ j : Nat, i = .int .i64 j ∧ j ≤ 2 + c ∧ s = .string (B (chordL a 2 j))) (fun _ i => 2 + c - (intOf i).toNat)
  case atStart => exact ⟨0, rfl, Nat.zero_le _, rfl⟩
  case round =>
    obtain ⟨j, rfl, hj, rfl⟩ := hrel
    by_cases h1 : (j : Int) < 2 + (c : Int)
    · have E := Lib.hid (alpha_ext (a + j * 2) (by omega)).1
      have A := Lib.hid (B_app (chordL a 2 j) [UInt8.ofNat (97 + (a + j * 2))])
      have hs : (B (chordL a 2 j)).size ≤ 5 := by rw [size_B, chordL_len]; omega
      have hj0 : (0 : Int) ≤ (j : Int) := by omega
      have hj4 : (j : Int) < 4 := by omega
      go_wp2_with fail
      go_round
      case rel => exact ⟨j + 1, by go_num, by omega, by rw [chordL, ← A.out, ← E.out]⟩
      case measure => simp [intOf]; omega
    · obtain ⟨o1, o2, o3⟩ := OK.out (2 + c) (by omega)
      have hjc : j = 2 + c := by omega
      have O1 := Lib.hid o1
      have O2 := Lib.hid o2
      have O3 := Lib.hid o3
      clear o1 o2 o3
      subst hjc
      go_wp2_with fail
      go_ret
      exact ⟨chordL a 2 (2 + c), rfl, O1.out, O2.out, by rw [O3.out]; omega, by rw [O3.out]; omega, rfl, CH.out.symm⟩

theorem chord_any (n m : Int) (w : World) (hn0 : 0 ≤ n) (hn1 : n ≤ 255) (hm0 : 0 ≤ m) (hm1 : m ≤ 255) :
    Calls Tryd.prog 17 #[.int .u8 n, .int .u8 m] w (ChordPost w n m) := by
  obtain ⟨a, ha⟩ : ∃ a : Nat, n % 20 = (a : Int) := ⟨(n % 20).toNat, by omega⟩
  obtain ⟨c, hc⟩ : ∃ c : Nat, m % 3 = (c : Int) := ⟨(m % 3).toNat, by omega⟩
  rcases (show m / 3 % 2 = 0 ∨ m / 3 % 2 = 1 by omega) with hd | hd
  · exact chord_0 n m a c w hn0 hn1 hm0 hm1 ha hd hc
  · exact chord_1 n m a c w hn0 hn1 hm0 hm1 ha hd hc
end Go.Proofs.YtmioocmjlbjfpaaDoor
