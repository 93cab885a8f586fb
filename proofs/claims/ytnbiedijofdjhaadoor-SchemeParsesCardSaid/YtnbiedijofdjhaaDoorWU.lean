/-
  What Parse accepts is written so: plain.
-/
import Derived.Test.YtnbiedijofdjhaaDoorWS
import Derived.Test.YtnbiedijofdjhaaDoorWA
namespace Go.Proofs.YtnbiedijofdjhaaDoor
open Go.RowKit
open Pl

theorem numOf_pos : ∀ (c : UInt8) (l : List UInt8), 49 ≤ c.toNat → 1 ≤ numOf (c :: l) := by
  intro c l hc
  suffices h : ∀ (l : List UInt8) (a : Nat), 1 ≤ a → 1 ≤ l.foldl (fun n c => 10 * n + (c.toNat - 48)) a by
    unfold numOf
    rw [List.foldl_cons]
    exact h l _ (by omega)
  intro l
  induction l with
  | nil => intro a ha; exact ha
  | cons x t ih => intro a ha; rw [List.foldl_cons]; exact ih _ (by omega)
theorem dec_numOf : ∀ (k : Nat) (l : List UInt8), l.length = k + 1 → (∀ c ∈ l, 48 ≤ c.toNat ∧ c.toNat ≤ 57) → (1 < l.length → l.head? ≠ some 48) → Lib.decDigits (numOf l) = l
  | 0, l, hl, hd, _ => by
    obtain ⟨c, rfl⟩ := List.length_eq_one_iff.1 hl
    have hc := hd c (by simp)
    have e : numOf [c] = c.toNat - 48 := by simp [numOf]
    rw [e, dec1 _ (by omega), show 48 + (c.toNat - 48) = c.toNat by omega, UInt8.ofNat_toNat]
  | k + 1, l, hl, hd, hh => by
    obtain ⟨g, c, rfl⟩ : ∃ g c, l = g ++ [c] := ⟨l.dropLast, l.getLast (by intro e; simp [e] at hl), (List.dropLast_concat_getLast _).symm⟩
    have hg : g.length = k + 1 := by simpa using hl
    have hc := hd c (by simp)
    obtain ⟨b, t, rfl⟩ : ∃ b t, g = b :: t := by
      cases g with
      | nil => simp at hg
      | cons b t => exact ⟨b, t, rfl⟩
    have hb := hd b (by simp)
    have hb48 : b ≠ 48 := fun e => hh (by simp) (by rw [e]; rfl)
    have hb49 : 49 ≤ b.toNat := by
      rcases Nat.lt_or_ge 48 b.toNat with h | h
      · omega
      · exact absurd (UInt8.toNat_inj.1 (show b.toNat = (48 : UInt8).toNat by have : (48 : UInt8).toNat = 48 := rfl; omega)) hb48
    have hp := numOf_pos b t hb49
    have ih := dec_numOf k (b :: t) hg (fun x hx => hd x (by simp only [List.mem_append]; exact Or.inl hx)) (fun _ => by simpa using hb48)
    rw [numOf_snoc, dec_big (by omega), show (10 * numOf (b :: t) + (c.toNat - 48)) / 10 = numOf (b :: t) by omega, ih, show 48 + (10 * numOf (b :: t) + (c.toNat - 48)) % 10 = c.toNat by omega, UInt8.ofNat_toNat]
theorem num_text {f : List UInt8} {n : Nat} (h : numW f = some n) : Lib.decDigits n = f := by
  obtain ⟨h1, h2, h3, h4, rfl⟩ := numW_some h
  obtain ⟨k, hk⟩ : ∃ k, f.length = k + 1 := ⟨f.length - 1, by have : f.length ≠ 0 := fun e => h1 (List.length_eq_zero_iff.1 e); omega⟩
  exact dec_numOf k f hk (onlyB_digit h3) h4
theorem mask_text {f : List UInt8} {n : Nat} (h : maskW f = some n) : Lib.decDigits n = f := by
  unfold maskW at h
  split at h
  · rename_i m hm
    split at h
    · obtain rfl : m = n := by simpa using h
      exact num_text hm
    · cases h
  · cases h
theorem text_text {f t : List UInt8} (h : textW f = some t) : textS t = f := by
  unfold textW at h
  split at h
  · cases h
  · rename_i h0
    split at h
    · rename_i h1
      obtain rfl : [] = t := by simpa using h
      rw [h1]; rfl
    · obtain rfl : f = t := by simpa using h
      unfold textS
      rw [if_neg h0]
theorem fields_text {name : List UInt8} {n : Nat} {l : List UInt8} {xs : List (List UInt8)} (h : fieldsW name n l = some xs) : Lib.join (name :: xs) [32] = l := by
  rw [fieldsW_split] at h
  split at h
  · rename_i hh
    obtain ⟨hj, -⟩ := splitS_join 32 l [] rfl
    obtain ⟨x, t, e⟩ := List.exists_cons_of_ne_nil (splitS_ne 32 [] l)
    rw [e] at h hh hj
    obtain rfl : t = xs := by simpa using h
    obtain rfl : x = name := by simpa using hh.2
    rw [hj]; rfl
  · cases h
theorem first_text {l : List UInt8} {m x : Nat} (h : firstW l = some (m, x)) : headS m x = l ++ [10] := by
  unfold firstW at h
  cases hf : fieldsW [115, 99, 104, 101, 109, 101] 2 l with
  | none => rw [hf] at h; cases h
  | some xs =>
    have hl := fieldsW_len hf
    have hj := fields_text hf
    rw [hf] at h
    match xs, hl with
    | [a, b], _ =>
      simp only [firstF] at h
      cases ha : numW a with
      | none => rw [ha] at h; cases h
      | some p =>
        cases hb : maskW b with
        | none => rw [ha, hb] at h; cases h
        | some q =>
          rw [ha, hb] at h
          obtain ⟨rfl, rfl⟩ : p = m ∧ q = x := by simpa using h
          unfold headS lineS
          rw [show ((p : Int)).toNat = p from rfl, show ((q : Int)).toNat = q from rfl, num_text ha, mask_text hb, hj]
theorem rule_text {l : List UInt8} {r : Rl} (h : ruleW l = some r) : ruleS r = l ++ [10] := by
  unfold ruleW at h
  cases hf : fieldsW [114, 117, 108, 101] 5 l with
  | none => rw [hf] at h; cases h
  | some xs =>
    have hl := fieldsW_len hf
    have hj := fields_text hf
    rw [hf] at h
    match xs, hl with
    | [a, b, c, d, e], _ =>
      simp only [ruleF] at h
      split at h
      · rename_i a' b' c' d' e' h1 h2 h3 h4 h5
        obtain rfl : _ = r := Option.some.inj h
        unfold ruleS lineS
        dsimp only
        rw [show ((a' : Int)).toNat = a' from rfl, show ((b' : Int)).toNat = b' from rfl, show ((e' : Int)).toNat = e' from rfl, num_text h1, num_text h2, text_text h3, text_text h4, num_text h5, hj]
      · cases h
theorem line_text {l a r : List UInt8} (h : lineW l = some (a, r)) : a ++ 10 :: r = l := by
  rcases line_cases l with q | ⟨a', r', rfl, q⟩
  · rw [line_no q] at h; cases h
  · rw [line_yes r' q] at h
    obtain ⟨rfl, rfl⟩ : a' = a ∧ r' = r := by simpa using h
    rfl
theorem rules_text : ∀ (f : Nat) (l : List UInt8) (rs : List Rl), rulesW f l = (rs, true) → rs.flatMap ruleS = l
  | 0, l, rs, h => by simp [rulesW] at h
  | f + 1, l, rs, h => by
    by_cases hl : l = []
    · subst hl
      rw [rulesW_nil] at h
      obtain rfl : [] = rs := by simpa using h
      rfl
    · cases h1 : lineW l with
      | none => rw [rulesW_line hl h1] at h; simp at h
      | some p =>
        obtain ⟨a, r⟩ := p
        cases h2 : ruleW a with
        | none => rw [rulesW_rule hl h1 h2] at h; simp at h
        | some x =>
          rw [rulesW_good hl h1 h2] at h
          obtain ⟨rfl, h3⟩ : x :: (rulesW f r).1 = rs ∧ (rulesW f r).2 = true := by simpa using h
          have ih := rules_text f r (rulesW f r).1 (by rw [← h3])
          rw [List.flatMap_cons, ih, rule_text h2, List.append_assoc]
          exact line_text h1
/-- What is read whole is written so. -/
theorem read_text {s : List UInt8} {m x : Nat} {rs : List Rl} (h : readW s = some (m, x, rs, true)) : printS m x rs = s := by
  unfold readW at h
  cases h1 : lineW s with
  | none => rw [h1] at h; cases h
  | some p =>
    obtain ⟨a, r⟩ := p
    rw [h1] at h
    dsimp only at h
    cases h2 : firstW a with
    | none => rw [h2] at h; cases h
    | some q =>
      obtain ⟨m', x'⟩ := q
      rw [h2] at h
      dsimp only at h
      obtain ⟨rfl, rfl, h3⟩ : m' = m ∧ x' = x ∧ rulesW (r.length + 1) r = (rs, true) := by simpa using h
      unfold printS
      rw [first_text h2, rules_text _ _ _ h3, List.append_assoc]
      exact line_text h1
end Go.Proofs.YtnbiedijofdjhaaDoor
