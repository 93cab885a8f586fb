/-
  What the reference reads of a line and of a text, plain: it is what scheme.Parse reads.
-/
import Derived.Test.YtnbiedijofdjhaaDoorVT
import Derived.Test.YtnbiedijofdjhaaDoorST
namespace Go.Proofs.YtnbiedijofdjhaaDoor
open Go.RowKit
open Pl

theorem splitS_ne (c : UInt8) (cur s : List UInt8) : splitS c cur s ≠ [] := fun e => by
  have := (parts_len c s cur).1
  rw [e] at this; simp at this
theorem splitS_join (c : UInt8) : ∀ (s cur : List UInt8), noC c cur = true → Lib.join (splitS c cur s) [c] = cur ++ s ∧ ∀ x ∈ splitS c cur s, noC c x = true
  | [], cur, h => by
    rw [splitS, join_one]
    exact ⟨by simp, fun x hx => by rw [List.mem_singleton.1 hx]; exact h⟩
  | x :: r, cur, h => by
    by_cases hx : x = c
    · subst hx
      obtain ⟨ih, ih2⟩ := splitS_join x r [] rfl
      obtain ⟨y, t, e⟩ := List.exists_cons_of_ne_nil (splitS_ne x [] r)
      rw [split_step_eq]
      rw [e] at ih ih2 ⊢
      refine ⟨by rw [join_more, ih]; simp, fun z hz => ?_⟩
      rcases List.mem_cons.1 hz with rfl | hz
      · exact h
      · exact ih2 z hz
    · rw [split_step_ne hx]
      have := splitS_join c r (cur ++ [x]) (noC_app h (by simp [noC, hx]))
      simpa using this
theorem splitK_many (c : UInt8) : ∀ (xs : List (List UInt8)) (k : Nat), (∀ x ∈ xs, noC c x = true) → k + 1 ≤ xs.length → (Lib.splitK [c] 0 k (Lib.join xs [c])).length = k + 1
  | xs, 0, _, _ => by simp [Lib.splitK]
  | [], k + 1, _, h => by simp at h
  | [x], k + 1, _, h => by simp at h
  | x :: y :: r, k + 1, h, hk => by
    rw [join_more, Lib.splitK, index_c c x _ (h x (by simp))]
    have hne : (((x.length : Int)) == -1) = false := by rw [beq_eq_false_iff_ne]; omega
    rw [hne]
    have ih := splitK_many c (y :: r) k (fun z hz => h z (by simp at hz ⊢; exact Or.inr hz)) (by simp at hk ⊢; omega)
    rw [if_neg (by decide), show ((x.length : Nat) : Int).toNat = x.length from rfl, Nat.add_zero, List.take_left, show x.length + [c].length = x.length + 1 from rfl, List.drop_append, List.drop_eq_nil_of_le (Nat.le_succ _), List.nil_append, show x.length + 1 - x.length = 1 by omega]
    rw [show (c :: Lib.join (y :: r) [c]).drop 1 = Lib.join (y :: r) [c] from rfl, List.length_cons, ih]
/-- The fields of a line are its parts between blanks. -/
theorem fieldsW_split (name : List UInt8) (n : Nat) (l : List UInt8) : fieldsW name n l = if (splitS 32 [] l).length = n + 1 ∧ (splitS 32 [] l).head? = some name then some (splitS 32 [] l).tail else none := by
  obtain ⟨hj, ha⟩ := splitS_join 32 l [] rfl
  have hl := (parts_len 32 l []).2
  have hne := splitS_ne 32 [] l
  rw [List.nil_append] at hj
  unfold fieldsW
  obtain ⟨K, hK⟩ : ∃ K, K = min (n + 2) (l.length + 1) - 1 := ⟨_, rfl⟩
  rcases Nat.lt_or_ge (K + 1) (splitS 32 [] l).length with h | h
  · have e : (fieldsK (n + 2) l).length = K + 1 := by
      have := splitK_many 32 (splitS 32 [] l) K ha (by omega)
      rw [hj] at this
      unfold fieldsK
      rw [← hK]; exact this
    rw [if_neg (fun q => by omega), if_neg (fun q => by omega)]
  · have e : fieldsK (n + 2) l = splitS 32 [] l := by
      have := split_join 32 (splitS 32 [] l) K hne ha h
      rw [hj] at this
      unfold fieldsK
      rw [← hK]; exact this
    rw [e]
/-- The reference's Number. -/
def rnum (most : Nat) (f : List UInt8) : Nat × Bool := if f.length ≤ 4 ∧ onlyB 4 f = true then (numOf f, decide (f ≠ []) && ((decide (f.length = 1) || decide (f.head? ≠ some 48)) && decide (numOf f ≤ most))) else (0, false)
theorem rnum_yes {f : List UInt8} {n : Nat} (h : numW f = some n) (most : Nat) : rnum most f = (n, decide (n ≤ most)) := by
  obtain ⟨h1, h2, h3, h4, rfl⟩ := numW_some h
  unfold rnum
  rw [if_pos ⟨h2, h3⟩]
  have h5 : (decide (f.length = 1) || decide (f.head? ≠ some 48)) = true := by
    rcases Nat.lt_or_ge 1 f.length with q | q
    · simp [h4 q]
    · have : f.length ≠ 0 := fun e => h1 (List.length_eq_zero_iff.1 e)
      simp [show f.length = 1 by omega]
  rw [h5, decide_eq_true h1]; simp
theorem rnum_no {f : List UInt8} (h : numW f = none) (most : Nat) : (rnum most f).2 = false := by
  unfold numW at h
  split at h
  · rename_i q
    unfold rnum
    split
    · rename_i q2
      rcases q with q | q | q | q
      · simp [q]
      · omega
      · rw [q2.2] at q; cases q
      · simp only [Bool.and_eq_false_iff, Bool.or_eq_false_iff]
        right; left
        exact ⟨decide_eq_false (by omega), decide_eq_false (by simp [q.2])⟩
    · rfl
  · cases h
theorem mask_is (f : List UInt8) : maskW f = if (rnum 255 f).2 = true then some (rnum 255 f).1 else none := by
  unfold maskW
  cases h : numW f with
  | none => rw [rnum_no h]; rfl
  | some n => rw [rnum_yes h]; simp
theorem num_is (f : List UInt8) : numW f = if (rnum 9999 f).2 = true then some (rnum 9999 f).1 else none := by
  cases h : numW f with
  | none => rw [rnum_no h]; rfl
  | some n =>
    have := numW_lt h
    rw [rnum_yes h]; simp; omega
/-- The reference's text. -/
def rtext (f : List UInt8) : List UInt8 := if f = [45] then [] else f
theorem text_is (f : List UInt8) : textW f = if f = [] then none else some (rtext f) := by
  unfold textW rtext
  split
  · rfl
  · split <;> rfl
/-- What the lines behind the first one say. -/
def linesR : List (List UInt8) → List Rl × Bool
  | [] => ([], false)
  | [x] => ([], decide (x = []))
  | x :: y :: r => match ruleW x with
    | none => ([], false)
    | some z => (z :: (linesR (y :: r)).1, (linesR (y :: r)).2)
theorem line_cases : ∀ l : List UInt8, noC 10 l = true ∨ ∃ a r, l = a ++ 10 :: r ∧ noC 10 a = true
  | [] => Or.inl rfl
  | x :: l => by
    by_cases hx : x = 10
    · exact Or.inr ⟨[], l, by rw [hx]; rfl, rfl⟩
    · rcases line_cases l with h | ⟨a, r, h, ha⟩
      · exact Or.inl (by unfold noC at h ⊢; rw [List.all_cons, h]; simp [hx])
      · exact Or.inr ⟨x :: a, r, by rw [h]; rfl, by unfold noC at ha ⊢; rw [List.all_cons, ha]; simp [hx]⟩
theorem split_noC (c : UInt8) : ∀ (a cur : List UInt8), noC c a = true → splitS c cur a = [cur ++ a]
  | [], cur, _ => by rw [splitS, List.append_nil]
  | x :: a, cur, h => by
    unfold noC at h
    rw [List.all_cons, Bool.and_eq_true] at h
    have hx : x ≠ c := by simpa using h.1
    rw [split_step_ne hx, split_noC c a (cur ++ [x]) h.2]
    simp
theorem line_no {l : List UInt8} (h : noC 10 l = true) : lineW l = none := by
  unfold lineW Lib.cut
  rw [index_no 10 l h]; rfl
theorem line_yes {a : List UInt8} (r : List UInt8) (h : noC 10 a = true) : lineW (a ++ 10 :: r) = some (a, r) := by
  unfold lineW
  rw [cut_c 10 a r h]; rfl
theorem split_line {l a r : List UInt8} (h : lineW l = some (a, r)) : splitS 10 [] l = a :: splitS 10 [] r := by
  rcases line_cases l with q | ⟨a', r', rfl, q⟩
  · rw [line_no q] at h; cases h
  · rw [line_yes r' q] at h
    obtain ⟨rfl, rfl⟩ : a' = a ∧ r' = r := by simpa using h
    rw [split_c 10 _ _ _ q]; rfl
theorem split_noline {l : List UInt8} (h : lineW l = none) : splitS 10 [] l = [l] := by
  rcases line_cases l with q | ⟨a', r', rfl, q⟩
  · rw [split_noC 10 l [] q]; rfl
  · rw [line_yes r' q] at h; cases h
theorem rules_lines : ∀ (f : Nat) (l : List UInt8), l.length < f → rulesW f l = linesR (splitS 10 [] l)
  | 0, l, h => by omega
  | f + 1, l, h => by
    by_cases hl : l = []
    · subst hl; rw [rulesW_nil]; rfl
    · cases h1 : lineW l with
      | none =>
        rw [rulesW_line hl h1, split_noline h1]
        simp [linesR, hl]
      | some p =>
        obtain ⟨a, r⟩ := p
        have hs := (lineW_short h1).2.2 hl
        rw [split_line h1]
        obtain ⟨y, t, e⟩ := List.exists_cons_of_ne_nil (splitS_ne 10 [] r)
        cases h2 : ruleW a with
        | none => rw [rulesW_rule hl h1 h2, e, linesR, h2]
        | some x => rw [rulesW_good hl h1 h2, rules_lines f r (by omega), e, linesR, h2]
/-- The lines of a text, all told. -/
def readR : List (List UInt8) → Option (Nat × Nat × List Rl × Bool)
  | [] => none
  | [_] => none
  | x :: y :: r => match firstW x with
    | none => none
    | some (m, a) => some (m, a, linesR (y :: r))
theorem readW_lines (s : List UInt8) : readW s = readR (splitS 10 [] s) := by
  unfold readW
  cases h1 : lineW s with
  | none => rw [split_noline h1]; rfl
  | some p =>
    obtain ⟨a, r⟩ := p
    dsimp only
    rw [split_line h1]
    obtain ⟨y, t, e⟩ := List.exists_cons_of_ne_nil (splitS_ne 10 [] r)
    have h2 := rules_lines (r.length + 1) r (by omega)
    rw [e] at h2 ⊢
    cases hf : firstW a with
    | none => simp only [readR, hf]
    | some q => simp only [readR, hf, h2]
end Go.Proofs.YtnbiedijofdjhaaDoor
