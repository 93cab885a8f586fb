/-
  Whatever is read is valid and is written so.
-/
import Derived.Test.YtmioocmjlbjfpaaDoorII
namespace Go.Proofs.YtmioocmjlbjfpaaDoor
open Go.RowKit
open Pl

theorem dig_val {c : UInt8} (h : isDig c = true) : 48 ≤ c.toNat ∧ c.toNat ≤ 57 := by simpa [isDig] using h
theorem dig_char {c : UInt8} (h : isDig c = true) : UInt8.ofNat (48 + (c.toNat - 48)) = c := by
  have := dig_val h
  rw [show 48 + (c.toNat - 48) = c.toNat by omega]
  simp
theorem dec_numOf : ∀ l : List UInt8, l ≠ [] → l.all isDig = true → l.head? ≠ some 48 → Lib.decDigits (numOf l) = l ∧ 1 ≤ numOf l := by
  refine snocInd (fun h => absurd rfl h) ?_
  intro l c ih _ ha hh
  rw [List.all_append, Bool.and_eq_true] at ha
  have hc : isDig c = true := by simpa using ha.2
  have hv := dig_val hc
  rw [numOf_snoc]
  rcases l with _ | ⟨a, r⟩
  · have hne : c ≠ 48 := by simpa using hh
    have h48 : c.toNat ≠ 48 := fun e => hne (UInt8.toNat_inj.1 (by simpa using e))
    have e0 : numOf [] = 0 := rfl
    rw [e0, Nat.mul_zero, Nat.zero_add]
    refine ⟨?_, by omega⟩
    rw [Lib.decDigits_one (by omega), dig_char hc]; rfl
  · obtain ⟨h1, h2⟩ := ih (by simp) ha.1 (by simpa using hh)
    refine ⟨?_, by omega⟩
    rw [Lib.decDigits, dif_neg (by omega)]
    rw [show (10 * numOf (a :: r) + (c.toNat - 48)) / 10 = numOf (a :: r) by omega, show (10 * numOf (a :: r) + (c.toNat - 48)) % 10 = c.toNat - 48 by omega, h1, dig_char hc]
theorem dec_back {l : List UInt8} (ha : l.all isDig = true) (hb : badNum l = false) : Lib.decDigits (numOf l) = l := by
  rcases l with _ | ⟨a, r⟩
  · simp [badNum] at hb
  · rcases r with _ | ⟨b, r⟩
    · have hc : isDig a = true := by simpa using ha
      have hv := dig_val hc
      have e0 : numOf [a] = a.toNat - 48 := by simp [numOf]
      rw [e0, Lib.decDigits_one (by omega), dig_char hc]
    · refine (dec_numOf (a :: b :: r) (by simp) ha ?_).1
      intro h
      simp [badNum] at hb
      exact hb (by simpa using h)
theorem readNum_back {l r : List UInt8} {n : Nat} (h : readNum l = some (n, r)) : l = 32 :: (Lib.decDigits n ++ r) := by
  cases l with
  | nil => cases h
  | cons c d =>
    simp only [readNum] at h
    by_cases hc : c = 32
    · rw [if_pos hc] at h
      split at h
      · cases h
      · rename_i hb
        simp only [Option.some.injEq, Prod.mk.injEq] at h
        obtain ⟨h1, h2⟩ := h
        have hb' : badNum (digRun d) = false := by simpa using hb
        have ha : (digRun d).all isDig = true := by unfold digRun; exact List.all_takeWhile
        have hp : digRun d <+: d := List.IsPrefix.trans (List.takeWhile_prefix _) (List.take_prefix _ _)
        obtain ⟨t, ht⟩ := hp
        rw [hc, ← h1, dec_back ha hb', ← h2]
        have hd : d.drop (digRun d).length = t := by
          have := congrArg (List.drop (digRun d).length) ht
          rw [List.drop_left] at this
          exact this.symm
        rw [hd, ht]
    · rw [if_neg hc] at h; cases h
theorem readNums_back : ∀ (k : Nat) (l : List UInt8) (xs : List Nat), readNums k l = some xs → l = wrNums xs
  | 0, [], xs, h => by cases h; rfl
  | 0, _ :: _, xs, h => by cases h
  | k + 1, l, xs, h => by
    rw [readNums] at h
    split at h
    · rename_i h0; subst h0; cases h; rfl
    · cases hn : readNum l with
      | none => rw [hn] at h; cases h
      | some q =>
        obtain ⟨n, r⟩ := q
        rw [hn] at h
        obtain ⟨ys, h1, h2⟩ := Option.map_eq_some_iff.1 h
        subst h2
        rw [wrNums_cons, ← readNums_back k r ys h1]
        exact readNum_back hn
theorem flat_pairs : ∀ (xs : List Nat), xs.length % 2 = 0 → flatP (pairs xs) = xs
  | [], _ => rfl
  | [_], h => by simp at h
  | a :: b :: r, h => by
    have h' : r.length % 2 = 0 := by simp at h; omega
    have e : flatP (pairs (a :: b :: r)) = a :: b :: flatP (pairs r) := by simp [pairs, flatP]
    rw [e, flat_pairs r h']
theorem cut_back {l : List UInt8} (h : (cutB l).2 = true) : l = 32 :: (cutB l).1 := by
  cases l with
  | nil => cases h
  | cons c d =>
    by_cases hc : c = 32
    · subst hc; rfl
    · have : cutB (c :: d) = (c :: d, false) := if_neg hc
      rw [this] at h; cases h
/-- Writing what was read gives the rest again. -/
def WrRd (i : Nat) : Prop := ∀ (l : List UInt8) (ev : Ev), rdK i l = some ev → wrK i ev.keys ev.p ev.text ev.n ev.l = l
theorem wk_keys (i : Nat) (h1 : ∀ r, rdK i r = rdKeys r) (h2 : ∀ keys ps text n l, wrK i keys ps text n l = 32 :: keys) : WrRd i := by
  intro l ev h
  rw [h1] at h
  unfold rdKeys at h
  split at h
  · rename_i hc
    cases h
    rw [h2]
    exact (cut_back hc).symm
  · cases h
theorem wk_text (i : Nat) (h1 : ∀ r, rdK i r = rdText r) (h2 : ∀ keys ps text n l, wrK i keys ps text n l = 32 :: text) : WrRd i := by
  intro l ev h
  rw [h1] at h
  unfold rdText at h
  split at h
  · rename_i hc
    cases h
    rw [h2]
    exact (cut_back hc).symm
  · cases h
theorem wk_none (i : Nat) (h1 : ∀ r, rdK i r = rdNothing r) (h2 : ∀ keys ps text n l, wrK i keys ps text n l = []) : WrRd i := by
  intro l ev h
  rw [h1] at h
  unfold rdNothing at h
  split at h
  · rename_i hc
    rw [h2, hc]
  · cases h
theorem wk_pts (i : Nat) (h1 : ∀ r, rdK i r = rdPoints r) (h2 : ∀ keys ps text n l, wrK i keys ps text n l = wrNums (flatP ps)) : WrRd i := by
  intro l ev h
  rw [h1] at h
  unfold rdPoints at h
  cases hn : readNums 24 l with
  | none => rw [hn] at h; cases h
  | some xs =>
    rw [hn] at h
    dsimp only at h
    split at h
    · rename_i hev
      cases h
      rw [h2]
      show wrNums (flatP (pairs xs)) = l
      rw [flat_pairs xs hev]
      exact (readNums_back 24 l xs hn).symm
    · cases h
theorem wk_hold (i : Nat) (h1 : ∀ r, rdK i r = rdHold r) (h2 : ∀ keys ps text n l, wrK i keys ps text n l = wrNums [n.toNat, l.toNat]) : WrRd i := by
  intro l ev h
  rw [h1] at h
  unfold rdHold at h
  split at h
  · rename_i a b hn
    cases h
    rw [h2]
    exact (readNums_back 2 l _ hn).symm
  · cases h
theorem wk_choose (i : Nat) (h1 : ∀ r, rdK i r = rdChoose r) (h2 : ∀ keys ps text n l, wrK i keys ps text n l = wrNums [n.toNat]) : WrRd i := by
  intro l ev h
  rw [h1] at h
  unfold rdChoose at h
  split at h
  · rename_i a hn
    cases h
    rw [h2]
    exact (readNums_back 1 l _ hn).symm
  · cases h
theorem wr_rd : ∀ i, i < 12 → WrRd i :=
  under12 (wk_keys 0 (fun _ => rfl) (fun _ _ _ _ _ => rfl)) (wk_keys 1 (fun _ => rfl) (fun _ _ _ _ _ => rfl)) (wk_pts 2 (fun _ => rfl) (fun _ _ _ _ _ => rfl)) (wk_pts 3 (fun _ => rfl) (fun _ _ _ _ _ => rfl))
    (wk_text 4 (fun _ => rfl) (fun _ _ _ _ _ => rfl)) (wk_none 5 (fun _ => rfl) (fun _ _ _ _ _ => rfl)) (wk_none 6 (fun _ => rfl) (fun _ _ _ _ _ => rfl)) (wk_none 7 (fun _ => rfl) (fun _ _ _ _ _ => rfl))
    (wk_hold 8 (fun _ => rfl) (fun _ _ _ _ _ => rfl)) (wk_choose 9 (fun _ => rfl) (fun _ _ _ _ _ => rfl)) (wk_none 10 (fun _ => rfl) (fun _ _ _ _ _ => rfl)) (wk_none 11 (fun _ => rfl) (fun _ _ _ _ _ => rfl))
theorem kindIx_back {l : List UInt8} {i : Nat} (h : kindIx l = some i) : i < 12 ∧ nameTab i = l := by
  unfold kindIx at h
  exact ⟨List.mem_range.1 (List.mem_of_find?_eq_some h), by simpa using List.find?_some h⟩
theorem parse_back {l : List UInt8} {ev : Ev} (h : parseS l = some ev) : validB ev = true ∧ printS ev = l := by
  unfold parseS at h
  cases hk : kindIx (splitB l).1 with
  | none => rw [hk] at h; cases h
  | some i =>
    rw [hk] at h
    obtain ⟨hi, hn⟩ := kindIx_back hk
    dsimp only at h
    unfold parseK at h
    cases hr : rdK i (splitB l).2 with
    | none => rw [hr] at h; cases h
    | some e =>
      rw [hr] at h
      dsimp only at h
      split at h
      · rename_i hf
        cases h
        have hw := wr_rd i hi _ _ hr
        have hk1 : (((i + 1 : Nat) : Int) - 1).toNat = i := by omega
        refine ⟨?_, ?_⟩
        · show (if 1 ≤ ((i + 1 : Nat) : Int) ∧ ((i + 1 : Nat) : Int) ≤ 12 then fitsK (((i + 1 : Nat) : Int) - 1).toNat e.keys e.p e.text e.n e.l else false) = true
          rw [if_pos (by omega), hk1, hf]
        · show nameTab (((i + 1 : Nat) : Int) - 1).toNat ++ wrK (((i + 1 : Nat) : Int) - 1).toNat e.keys e.p e.text e.n e.l = l
          rw [hk1, hw, hn]
          exact List.takeWhile_append_dropWhile
      · cases h
/-- With other bytes it is another event, or none. -/
theorem parse_other {l m : List UInt8} {a b : Ev} (ha : parseS l = some a) (hb : parseS m = some b) (hne : l ≠ m) : sameB a b = false := by
  cases h : sameB a b with
  | false => rfl
  | true =>
    obtain rfl := (sameB_iff a b).1 h
    exact absurd ((parse_back ha).2.symm.trans (parse_back hb).2) hne
end Go.Proofs.YtmioocmjlbjfpaaDoor
