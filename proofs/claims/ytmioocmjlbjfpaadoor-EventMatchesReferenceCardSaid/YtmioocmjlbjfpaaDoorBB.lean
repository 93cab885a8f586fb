/-
  Numbers written in decimal are read back; which of the law's lines are lines.
-/
import Derived.Test.YtmioocmjlbjfpaaDoorAA
namespace Go.Proofs.YtmioocmjlbjfpaaDoor
open Go.RowKit
open Pl

theorem dec_all : ∀ (f n : Nat), n ≤ f → (Lib.decDigits n).all isDig = true
  | 0, n, h => by
    obtain rfl : n = 0 := by omega
    rw [dec1 0 (by omega)]; rfl
  | f + 1, n, h => by
    by_cases h10 : n < 10
    · rw [dec1 n h10]
      have : ∀ r, r < 10 → [UInt8.ofNat (48 + r)].all isDig = true := fun r hr => by
        match r, hr with
        | 0, _ => rfl | 1, _ => rfl | 2, _ => rfl | 3, _ => rfl | 4, _ => rfl | 5, _ => rfl | 6, _ => rfl | 7, _ => rfl | 8, _ => rfl | 9, _ => rfl
      exact this n h10
    · rw [dec_big (by omega), List.all_append, dec_all f (n / 10) (by omega)]
      have : ∀ r, r < 10 → [UInt8.ofNat (48 + r)].all isDig = true := fun r hr => by
        match r, hr with
        | 0, _ => rfl | 1, _ => rfl | 2, _ => rfl | 3, _ => rfl | 4, _ => rfl | 5, _ => rfl | 6, _ => rfl | 7, _ => rfl | 8, _ => rfl | 9, _ => rfl
      rw [this (n % 10) (by omega)]; rfl
theorem dec_num : ∀ (f n : Nat), n ≤ f → numOf (Lib.decDigits n) = n
  | 0, n, h => by
    obtain rfl : n = 0 := by omega
    rw [dec1 0 (by omega)]; rfl
  | f + 1, n, h => by
    have hd : ∀ r, r < 10 → (UInt8.ofNat (48 + r)).toNat - 48 = r := fun r hr => by
      match r, hr with
      | 0, _ => rfl | 1, _ => rfl | 2, _ => rfl | 3, _ => rfl | 4, _ => rfl | 5, _ => rfl | 6, _ => rfl | 7, _ => rfl | 8, _ => rfl | 9, _ => rfl
    by_cases h10 : n < 10
    · rw [dec1 n h10]
      show 10 * 0 + ((UInt8.ofNat (48 + n)).toNat - 48) = n
      rw [hd n h10]; omega
    · rw [dec_big (by omega), numOf_snoc, dec_num f (n / 10) (by omega), hd (n % 10) (by omega)]; omega
theorem dec_head : ∀ (f n : Nat), n ≤ f → n ≠ 0 → ∃ c r, Lib.decDigits n = c :: r ∧ c ≠ 48
  | 0, n, h, h0 => absurd (by omega) h0
  | f + 1, n, h, h0 => by
    have hd : ∀ r, r < 10 → r ≠ 0 → UInt8.ofNat (48 + r) ≠ 48 := fun r hr h => by
      match r, hr, h with
      | 1, _, _ => decide | 2, _, _ => decide | 3, _, _ => decide | 4, _, _ => decide | 5, _, _ => decide | 6, _, _ => decide | 7, _, _ => decide | 8, _, _ => decide | 9, _, _ => decide
    by_cases h10 : n < 10
    · exact ⟨_, [], dec1 n h10, hd n h10 h0⟩
    · obtain ⟨c, r, hc, hne⟩ := dec_head f (n / 10) (by omega) (by omega)
      exact ⟨c, r ++ [UInt8.ofNat (48 + n % 10)], by rw [dec_big (by omega), hc]; rfl, hne⟩
theorem dec_ne (n : Nat) : Lib.decDigits n ≠ [] := by
  rw [Lib.decDigits]; split
  · simp
  · simp
theorem tw_app {p : UInt8 → Bool} : ∀ {l r : List UInt8}, l.all p = true → (∀ c t, r = c :: t → p c = false) → (l ++ r).takeWhile p = l
  | [], [], _, _ => rfl
  | [], c :: t, _, h => by simp [h c t rfl]
  | a :: l, r, ha, h => by
    have ha' : p a = true ∧ l.all p = true := by simpa using ha
    rw [List.cons_append, List.takeWhile_cons_of_pos ha'.1, tw_app ha'.2 h]
theorem digRun_dec {n : Nat} (hn : n < 10000) {r : List UInt8} (hr : ∀ c t, r = c :: t → isDig c = false) : digRun (Lib.decDigits n ++ r) = Lib.decDigits n := by
  have hl := dec_len 3 n hn
  unfold digRun
  rw [List.take_append, List.take_of_length_le hl]
  exact tw_app (dec_all n n (Nat.le_refl _)) (fun c t h => by
    cases r with
    | nil => simp at h
    | cons a s =>
      cases hk : 4 - (Lib.decDigits n).length with
      | zero => rw [hk] at h; cases h
      | succ k => rw [hk, List.take_succ_cons] at h; cases h; exact hr _ s rfl)
theorem readNum_dec {n : Nat} (hn : n < 10000) {r : List UInt8} (hr : ∀ c t, r = c :: t → isDig c = false) : readNum (32 :: (Lib.decDigits n ++ r)) = some (n, r) := by
  have hd := digRun_dec hn hr
  have hb : badNum (Lib.decDigits n) = false := by
    unfold badNum
    rw [decide_eq_false (by intro h; exact dec_ne n (List.length_eq_zero_iff.1 h))]
    by_cases h0 : n = 0
    · subst h0; rw [dec1 0 (by omega)]; rfl
    · obtain ⟨c, t, hc, hne⟩ := dec_head n n (Nat.le_refl _) h0
      rw [hc]; simp [hne]
  simp only [readNum, if_true, hd, hb, Bool.false_eq_true, if_false, dec_num n n (Nat.le_refl _)]
  simp
theorem nodig_sp : ∀ (c : UInt8) (t s : List UInt8), (32 :: s) = c :: t → isDig c = false := by
  intro c t s h; cases h; rfl
theorem nodig_nil : ∀ (c : UInt8) (t : List UInt8), ([] : List UInt8) = c :: t → isDig c = false := by
  intro c t h; cases h
theorem read_one {n : Nat} (hn : n < 10000) (k : Nat) : readNums (k + 1) (32 :: Lib.decDigits n) = some [n] := by
  have := readNum_dec hn nodig_nil
  rw [List.append_nil] at this
  rw [readNums_some (by simp) this, readNums_nil]; rfl
theorem read_cons {n : Nat} (hn : n < 10000) (k : Nat) (s : List UInt8) : readNums (k + 1) (32 :: (Lib.decDigits n ++ 32 :: s)) = (readNums k (32 :: s)).map (n :: ·) :=
  readNums_some (by simp) (readNum_dec hn (fun c t h => nodig_sp c t s h))
theorem read_zero (k : Nat) : readNums (k + 1) [32, 48] = some [0] := by
  have := read_one (n := 0) (by omega) k
  rw [dec1 0 (by omega)] at this; exact this
theorem read_unit (k : Nat) : readNums (k + 1) [32, 49] = some [1] := by
  have := read_one (n := 1) (by omega) k
  rw [dec1 1 (by omega)] at this; exact this
theorem read_zero_cons (k : Nat) (s : List UInt8) : readNums (k + 1) (32 :: 48 :: 32 :: s) = (readNums k (32 :: s)).map (0 :: ·) := by
  have := read_cons (n := 0) (by omega) k s
  rw [dec1 0 (by omega)] at this; exact this

theorem k_touch (r : List UInt8) : parseS ([116, 111, 117, 99, 104] ++ 32 :: r) = parseK 2 (32 :: r) := by kernel_rfl
theorem k_hold (r : List UInt8) : parseS ([104, 111, 108, 100] ++ 32 :: r) = parseK 8 (32 :: r) := by kernel_rfl
theorem k_choose (r : List UInt8) : parseS ([99, 104, 111, 111, 115, 101] ++ 32 :: r) = parseK 9 (32 :: r) := by kernel_rfl
theorem touch_two {a b : Nat} {l : List UInt8} (h : readNums 24 l = some [a, b]) : (parseK 2 l).isSome = (decide ((a : Int) ≤ 1000) && decide ((b : Int) ≤ 1000)) := by
  have e : rdK 2 l = some { Ev.zero with p := [((a : Int), (b : Int))] } := by
    show rdPointsOf (readNums 24 l) = _
    rw [h, rdPointsOf_yes (by simp)]; simp [pairs]
  unfold parseK; rw [e]
  have ef : fitsK 2 [] [((a : Int), (b : Int))] [] 0 0 = (decide ((a : Int) ≤ 1000) && decide ((b : Int) ≤ 1000)) := by
    have e2 : fitsK 2 [] [((a : Int), (b : Int))] [] 0 0 = insideB [((a : Int), (b : Int))] := by kernel_rfl
    rw [e2]; simp [insideB, hasB]
  show (if fitsK 2 [] [((a : Int), (b : Int))] [] 0 0 then some _ else none).isSome = _
  rw [ef]
  cases (decide ((a : Int) ≤ 1000) && decide ((b : Int) ≤ 1000)) <;> rfl
theorem hold_two {a b : Nat} {l : List UInt8} (h : readNums 2 l = some [a, b]) : (parseK 8 l).isSome = (decide ((a : Int) ≤ 39) && (decide (1 ≤ (b : Int)) && decide ((b : Int) ≤ 40))) := by
  have e : rdK 8 l = some { Ev.zero with n := a, l := b } := by
    show rdHold l = _
    unfold rdHold; rw [h]
  unfold parseK; rw [e]
  have ef : fitsK 8 [] [] [] (a : Int) (b : Int) = (decide ((a : Int) ≤ 39) && (decide (1 ≤ (b : Int)) && decide ((b : Int) ≤ 40))) := by
    have e2 : fitsK 8 [] [] [] (a : Int) (b : Int) = (hasB 0 39 (a : Int) && (hasB 1 40 (b : Int) && true)) := by kernel_rfl
    rw [e2]; simp [hasB]
  show (if fitsK 8 [] [] [] (a : Int) (b : Int) then some _ else none).isSome = _
  rw [ef]
  cases (decide ((a : Int) ≤ 39) && (decide (1 ≤ (b : Int)) && decide ((b : Int) ≤ 40))) <;> rfl
theorem choose_one {a : Nat} {l : List UInt8} (h : readNums 1 l = some [a]) : (parseK 9 l).isSome = decide ((a : Int) ≤ 49) := by
  have e : rdK 9 l = some { Ev.zero with n := a } := by
    show rdChoose l = _
    unfold rdChoose; rw [h]
  unfold parseK; rw [e]
  have ef : fitsK 9 [] [] [] (a : Int) 0 = decide ((a : Int) ≤ 49) := by
    have e2 : fitsK 9 [] [] [] (a : Int) 0 = (hasB 0 49 (a : Int) && true) := by kernel_rfl
    rw [e2]; simp [hasB]
  show (if fitsK 9 [] [] [] (a : Int) 0 then some _ else none).isSome = _
  rw [ef]
  cases decide ((a : Int) ≤ 49) <;> rfl
theorem m1 (v : Nat) (hv : v < 10000) : (parseS ([116, 111, 117, 99, 104] ++ 32 :: (Lib.decDigits v ++ [32, 48]))).isSome = decide ((v : Int) ≤ 1000) := by
  rw [k_touch, touch_two (a := v) (b := 0) (by rw [read_cons hv, read_zero]; rfl)]; simp
theorem m2 (v : Nat) (hv : v < 10000) : (parseS ([116, 111, 117, 99, 104] ++ 32 :: 48 :: 32 :: Lib.decDigits v)).isSome = decide ((v : Int) ≤ 1000) := by
  rw [k_touch, touch_two (a := 0) (b := v) (by rw [read_zero_cons, read_one hv]; rfl)]; simp
theorem m3 (v : Nat) (hv : v < 10000) : (parseS ([104, 111, 108, 100] ++ 32 :: (Lib.decDigits v ++ [32, 49]))).isSome = decide ((v : Int) ≤ 39) := by
  rw [k_hold, hold_two (a := v) (b := 1) (by rw [read_cons hv, read_unit]; rfl)]; simp
theorem m4 (v : Nat) (hv : v < 10000) : (parseS ([104, 111, 108, 100] ++ 32 :: 48 :: 32 :: Lib.decDigits v)).isSome = (decide (1 ≤ (v : Int)) && decide ((v : Int) ≤ 40)) := by
  rw [k_hold, hold_two (a := 0) (b := v) (by rw [read_zero_cons, read_one hv]; rfl)]; simp
theorem m5 (v : Nat) (hv : v < 10000) : (parseS ([99, 104, 111, 111, 115, 101] ++ 32 :: Lib.decDigits v)).isSome = decide ((v : Int) ≤ 49) := by
  rw [k_choose, choose_one (a := v) (read_one hv 0)]
def strk : Nat → List UInt8
  | 0 => [115, 116, 114, 111, 107, 101]
  | k + 1 => strk k ++ [32, 55, 32, 56]
def pst : Nat → List UInt8
  | 0 => [112, 97, 115, 116, 101, 32]
  | k + 1 => pst k ++ [122]
theorem m6_0 : (parseS (strk 0)).isSome = false := by kernel_rfl
theorem m6_1 : (parseS (strk 1)).isSome = false := by kernel_rfl
theorem m6_2 : (parseS (strk 2)).isSome = true := by kernel_rfl
theorem m6_3 : (parseS (strk 3)).isSome = true := by kernel_rfl
theorem m6_4 : (parseS (strk 4)).isSome = true := by kernel_rfl
theorem m6_5 : (parseS (strk 5)).isSome = true := by kernel_rfl
theorem m6_6 : (parseS (strk 6)).isSome = true := by kernel_rfl
theorem m6_7 : (parseS (strk 7)).isSome = true := by kernel_rfl
theorem m6_8 : (parseS (strk 8)).isSome = true := by kernel_rfl
theorem m6_9 : (parseS (strk 9)).isSome = true := by kernel_rfl
theorem m6_10 : (parseS (strk 10)).isSome = true := by kernel_rfl
theorem m6_11 : (parseS (strk 11)).isSome = true := by kernel_rfl
theorem m6_12 : (parseS (strk 12)).isSome = true := by kernel_rfl
theorem m6_13 : (parseS (strk 13)).isSome = false := by kernel_rfl
theorem m6_14 : (parseS (strk 14)).isSome = false := by kernel_rfl
theorem m7_0 : (parseS (pst 0)).isSome = false := by kernel_rfl
theorem m7_1 : (parseS (pst 1)).isSome = true := by kernel_rfl
theorem m7_2 : (parseS (pst 2)).isSome = true := by kernel_rfl
theorem m7_3 : (parseS (pst 3)).isSome = true := by kernel_rfl
theorem m7_4 : (parseS (pst 4)).isSome = true := by kernel_rfl
theorem m7_5 : (parseS (pst 5)).isSome = true := by kernel_rfl
theorem m7_6 : (parseS (pst 6)).isSome = true := by kernel_rfl
theorem m7_7 : (parseS (pst 7)).isSome = true := by kernel_rfl
theorem m7_8 : (parseS (pst 8)).isSome = true := by kernel_rfl
theorem m7_9 : (parseS (pst 9)).isSome = true := by kernel_rfl
theorem m7_10 : (parseS (pst 10)).isSome = true := by kernel_rfl
theorem m7_11 : (parseS (pst 11)).isSome = true := by kernel_rfl
theorem m7_12 : (parseS (pst 12)).isSome = true := by kernel_rfl
theorem m7_13 : (parseS (pst 13)).isSome = true := by kernel_rfl
theorem m7_14 : (parseS (pst 14)).isSome = true := by kernel_rfl
theorem m7_15 : (parseS (pst 15)).isSome = true := by kernel_rfl
theorem m7_16 : (parseS (pst 16)).isSome = true := by kernel_rfl
theorem m7_17 : (parseS (pst 17)).isSome = true := by kernel_rfl
theorem m7_18 : (parseS (pst 18)).isSome = true := by kernel_rfl
theorem m7_19 : (parseS (pst 19)).isSome = true := by kernel_rfl
theorem m7_20 : (parseS (pst 20)).isSome = true := by kernel_rfl
theorem m7_21 : (parseS (pst 21)).isSome = false := by kernel_rfl
theorem m7_22 : (parseS (pst 22)).isSome = false := by kernel_rfl
theorem m7_23 : (parseS (pst 23)).isSome = false := by kernel_rfl
theorem m6 : ∀ k, k < 15 → (parseS (strk k)).isSome = (decide (2 ≤ (k : Int)) && decide ((k : Int) ≤ 12))
  | 0, _ => m6_0
  | 1, _ => m6_1
  | 2, _ => m6_2
  | 3, _ => m6_3
  | 4, _ => m6_4
  | 5, _ => m6_5
  | 6, _ => m6_6
  | 7, _ => m6_7
  | 8, _ => m6_8
  | 9, _ => m6_9
  | 10, _ => m6_10
  | 11, _ => m6_11
  | 12, _ => m6_12
  | 13, _ => m6_13
  | 14, _ => m6_14
  | n + 15, h => absurd h (by omega)
theorem m7 : ∀ k, k < 24 → (parseS (pst k)).isSome = (decide (1 ≤ (k : Int)) && decide ((k : Int) ≤ 20))
  | 0, _ => m7_0
  | 1, _ => m7_1
  | 2, _ => m7_2
  | 3, _ => m7_3
  | 4, _ => m7_4
  | 5, _ => m7_5
  | 6, _ => m7_6
  | 7, _ => m7_7
  | 8, _ => m7_8
  | 9, _ => m7_9
  | 10, _ => m7_10
  | 11, _ => m7_11
  | 12, _ => m7_12
  | 13, _ => m7_13
  | 14, _ => m7_14
  | 15, _ => m7_15
  | 16, _ => m7_16
  | 17, _ => m7_17
  | 18, _ => m7_18
  | 19, _ => m7_19
  | 20, _ => m7_20
  | 21, _ => m7_21
  | 22, _ => m7_22
  | 23, _ => m7_23
  | n + 24, h => absurd h (by omega)
theorem strk_len (k : Nat) : (strk k).length = 6 + 4 * k := by
  induction k with
  | zero => rfl
  | succ k ih => simp [strk, ih]; omega
theorem pst_len (k : Nat) : (pst k).length = 6 + k := by
  induction k with
  | zero => rfl
  | succ k ih => simp [pst, ih]; omega
end Go.Proofs.YtmioocmjlbjfpaaDoor
