/-
  What Print writes is read as the scheme.
-/
import Derived.Test.YtnbiedijofdjhaaDoorVM
namespace Go.Proofs.YtnbiedijofdjhaaDoor
open Go.RowKit
open Pl

def noC (c : UInt8) (l : List UInt8) : Bool := l.all (· != c)
theorem noC_app {c : UInt8} {a b : List UInt8} (ha : noC c a = true) (hb : noC c b = true) : noC c (a ++ b) = true := by
  unfold noC at ha hb ⊢; rw [List.all_append, ha, hb]; rfl
theorem noC_only {c : UInt8} (hc : kindB c = 0) {k : Nat} {l : List UInt8} (h : onlyB k l = true) : noC c l = true := by
  unfold noC; rw [List.all_eq_true]
  intro x hx
  have h2 := List.all_eq_true.1 h x hx
  rw [bne_iff_ne]
  intro e
  rw [e, hc] at h2
  simp at h2
theorem index_c (c : UInt8) : ∀ (a r : List UInt8), noC c a = true → Lib.index (a ++ c :: r) [c] = (a.length : Int)
  | [], r, _ => by unfold Lib.index; simp [List.isPrefixOf]
  | x :: l, r, h => by
    unfold noC at h
    rw [List.all_cons, Bool.and_eq_true] at h
    have ih := index_c c l r h.2
    have hc : x ≠ c := by simpa using h.1
    rw [List.cons_append]
    unfold Lib.index
    have hp : List.isPrefixOf [c] (x :: (l ++ c :: r)) = false := by
      simp [List.isPrefixOf]; exact fun e => hc e.symm
    rw [hp, ih]
    have hne : (((l.length : Int)) == -1) = false := by rw [beq_eq_false_iff_ne]; omega
    simp [hne]
theorem index_no (c : UInt8) : ∀ (a : List UInt8), noC c a = true → Lib.index a [c] = -1
  | [], _ => by unfold Lib.index; simp
  | x :: l, h => by
    unfold noC at h
    rw [List.all_cons, Bool.and_eq_true] at h
    have ih := index_no c l h.2
    have hc : x ≠ c := by simpa using h.1
    unfold Lib.index
    have hp : List.isPrefixOf [c] (x :: l) = false := by
      simp [List.isPrefixOf]; exact fun e => hc e.symm
    rw [hp, ih]
    simp
theorem cut_c (c : UInt8) (a r : List UInt8) (h : noC c a = true) : Lib.cut (a ++ c :: r) [c] = (a, r, true) := by
  unfold Lib.cut
  rw [index_c c a r h, if_pos (by omega)]
  have e : ((a.length : Int)).toNat = a.length := by simp
  rw [e]
  simp [List.drop_append]
theorem join_one (x s : List UInt8) : Lib.join [x] s = x := by simp [Lib.join, List.intercalate]
theorem join_more (x y : List UInt8) (r : List (List UInt8)) (c : UInt8) : Lib.join (x :: y :: r) [c] = x ++ c :: Lib.join (y :: r) [c] := by
  simp [Lib.join, List.intercalate, List.intersperse]
theorem join_noC (d c : UInt8) (hd : c ≠ d) : ∀ xs : List (List UInt8), (∀ x ∈ xs, noC d x = true) → noC d (Lib.join xs [c]) = true
  | [], _ => by simp [Lib.join, List.intercalate, noC]
  | [x], h => by rw [join_one]; exact h x (by simp)
  | x :: y :: r, h => by
    rw [join_more]
    refine noC_app (h x (by simp)) ?_
    have := join_noC d c hd (y :: r) (fun z hz => h z (by simp at hz ⊢; exact Or.inr hz))
    unfold noC at this ⊢
    rw [List.all_cons, this]
    simp [hd]
theorem join_len (c : UInt8) : ∀ xs : List (List UInt8), xs.length ≤ (Lib.join xs [c]).length + 1
  | [] => by simp
  | [x] => by simp
  | x :: y :: r => by
    have := join_len c (y :: r)
    rw [join_more]
    simp only [List.length_cons, List.length_append] at this ⊢
    omega
theorem split_join (c : UInt8) : ∀ (xs : List (List UInt8)) (k : Nat), xs ≠ [] → (∀ x ∈ xs, noC c x = true) → xs.length ≤ k + 1 → Lib.splitK [c] 0 k (Lib.join xs [c]) = xs
  | [], _, h, _, _ => absurd rfl h
  | [x], 0, _, _, _ => by rw [join_one]; rfl
  | [x], k + 1, _, h, _ => by
    rw [join_one, Lib.splitK, index_no c x (h x (by simp))]
    simp
  | x :: y :: r, 0, _, _, hk => by simp at hk
  | x :: y :: r, k + 1, _, h, hk => by
    rw [join_more, Lib.splitK, index_c c x _ (h x (by simp))]
    have hne : (((x.length : Int)) == -1) = false := by rw [beq_eq_false_iff_ne]; omega
    rw [hne]
    have ih := split_join c (y :: r) k (by simp) (fun z hz => h z (by simp at hz ⊢; exact Or.inr hz)) (by simp at hk ⊢; omega)
    rw [if_neg (by decide), show ((x.length : Nat) : Int).toNat = x.length from rfl, Nat.add_zero, List.take_left, show x.length + [c].length = x.length + 1 from rfl, List.drop_append, List.drop_eq_nil_of_le (Nat.le_succ _), List.nil_append, show x.length + 1 - x.length = 1 by omega]
    rw [show (c :: Lib.join (y :: r) [c]).drop 1 = Lib.join (y :: r) [c] from rfl, ih]
theorem fields_join {name : List UInt8} {fs : List (List UInt8)} {n : Nat} (hn : fs.length = n) (hp : 0 < n) (h0 : noC 32 name = true) (h : ∀ x ∈ fs, noC 32 x = true) : fieldsW name n (Lib.join (name :: fs) [32]) = some fs := by
  have hl := join_len 32 (name :: fs)
  rw [List.length_cons, hn] at hl
  have e : fieldsK (n + 2) (Lib.join (name :: fs) [32]) = name :: fs := by
    unfold fieldsK
    exact split_join 32 (name :: fs) _ (by simp) (fun x hx => by
      rcases List.mem_cons.1 hx with rfl | hx
      · exact h0
      · exact h x hx) (by rw [List.length_cons, hn]; omega)
  unfold fieldsW
  rw [e, if_pos ⟨by simp [hn], by simp⟩]
  rfl
theorem line_join {xs : List (List UInt8)} (h : ∀ x ∈ xs, noC 10 x = true) (r : List UInt8) : lineW (lineS xs ++ r) = some (Lib.join xs [32], r) := by
  unfold lineS lineW
  rw [List.append_assoc, List.singleton_append, cut_c 10 _ r (join_noC 10 32 (by decide) xs h)]
  rfl
theorem dig_only : ∀ r, r < 10 → onlyB 4 [UInt8.ofNat (48 + r)] = true := by decide
theorem dec_only : ∀ (f n : Nat), n ≤ f → onlyB 4 (Lib.decDigits n) = true
  | 0, n, h => by
    obtain rfl : n = 0 := by omega
    rw [dec1 0 (by omega)]; rfl
  | f + 1, n, h => by
    by_cases h10 : n < 10
    · rw [dec1 n h10]; exact dig_only n h10
    · rw [Lib.decDigits, dif_neg (by omega)]
      exact only_cat (dec_only f (n / 10) (by omega)) (dig_only _ (by omega))
theorem dec_num : ∀ (f n : Nat), n ≤ f → numOf (Lib.decDigits n) = n
  | 0, n, h => by
    obtain rfl : n = 0 := by omega
    rw [dec1 0 (by omega)]; rfl
  | f + 1, n, h => by
    have hd : ∀ r, r < 10 → (UInt8.ofNat (48 + r)).toNat - 48 = r := by decide
    by_cases h10 : n < 10
    · rw [dec1 n h10]
      show 10 * 0 + ((UInt8.ofNat (48 + n)).toNat - 48) = n
      rw [hd n h10]; omega
    · rw [Lib.decDigits, dif_neg (by omega), numOf_snoc, dec_num f (n / 10) (by omega), hd (n % 10) (by omega)]; omega
theorem dec_head : ∀ (f n : Nat), n ≤ f → n ≠ 0 → ∃ c r, Lib.decDigits n = c :: r ∧ c ≠ 48
  | 0, n, h, h0 => absurd (by omega) h0
  | f + 1, n, h, h0 => by
    have hd : ∀ r, r < 10 → r ≠ 0 → UInt8.ofNat (48 + r) ≠ 48 := by decide
    by_cases h10 : n < 10
    · exact ⟨_, [], dec1 n h10, hd n h10 h0⟩
    · obtain ⟨c, r, hc, hne⟩ := dec_head f (n / 10) (by omega) (by omega)
      exact ⟨c, r ++ [UInt8.ofNat (48 + n % 10)], by rw [Lib.decDigits, dif_neg (by omega), hc]; rfl, hne⟩
theorem dec_ne (n : Nat) : Lib.decDigits n ≠ [] := by
  rw [Lib.decDigits]; split
  · simp
  · simp
theorem num_dec {n : Nat} (h : n ≤ 9999) : numW (Lib.decDigits n) = some n := by
  have h1 := dec_len 3 n (by omega)
  have h2 := dec_only n n (Nat.le_refl _)
  unfold numW
  rw [if_neg, dec_num n n (Nat.le_refl _)]
  rintro (h | h | h | ⟨h, h3⟩)
  · exact dec_ne n h
  · omega
  · rw [h2] at h; cases h
  · by_cases h0 : n = 0
    · subst h0
      rw [dec1 0 (by omega)] at h; simp at h
    · obtain ⟨c, r, hc, hne⟩ := dec_head n n (Nat.le_refl _) h0
      rw [hc] at h3
      simp at h3
      exact hne h3
theorem text_back {l : List UInt8} (h : onlyB 7 l = true) : textW (textS l) = some l := by
  unfold textS
  split
  · rename_i h; subst h; rfl
  · rename_i hl
    unfold textW
    rw [if_neg hl, if_neg]
    rintro rfl
    revert h; decide
theorem text_noC {c : UInt8} (hc : kindB c = 0) (h45 : c ≠ 45) {l : List UInt8} (h : onlyB 7 l = true) : noC c (textS l) = true := by
  unfold textS
  split
  · unfold noC; simp; exact h45.symm
  · exact noC_only hc h
theorem rule_fields (r : Rl) {m : Int} (h : RlOk m r) (c : UInt8) (hc : kindB c = 0) (h45 : c ≠ 45) : ∀ x ∈ [Lib.decDigits r.src.toNat, Lib.decDigits r.dst.toNat, textS r.inp, textS r.out, Lib.decDigits r.cost.toNat], noC c x = true := by
  intro x hx
  have dn := fun n : Nat => noC_only hc (dec_only n n (Nat.le_refl _))
  simp only [List.mem_cons, List.not_mem_nil, or_false] at hx
  rcases hx with rfl | rfl | rfl | rfl | rfl
  · exact dn _
  · exact dn _
  · exact text_noC hc h45 (only_sub h.i1)
  · exact text_noC hc h45 h.o1
  · exact dn _
theorem rule_back {m : Int} (hm : m ≤ 8) (r : Rl) (h : RlOk m r) : ruleW (Lib.join [[114, 117, 108, 101], Lib.decDigits r.src.toNat, Lib.decDigits r.dst.toNat, textS r.inp, textS r.out, Lib.decDigits r.cost.toNat] [32]) = some r := by
  have h0 := h.s0
  have h1 := h.s1
  have h2 := h.d0
  have h3 := h.d1
  have h4 := h.c0
  have h5 := h.c1
  have hf := fields_join (name := [114, 117, 108, 101]) (n := 5) (fs := [Lib.decDigits r.src.toNat, Lib.decDigits r.dst.toNat, textS r.inp, textS r.out, Lib.decDigits r.cost.toNat]) rfl (by decide) (by decide) (rule_fields r h 32 (by decide) (by decide))
  unfold ruleW
  rw [hf]
  unfold ruleF
  simp only [num_dec (show r.src.toNat ≤ 9999 by omega), num_dec (show r.dst.toNat ≤ 9999 by omega), num_dec (show r.cost.toNat ≤ 9999 by omega), text_back (only_sub h.i1), text_back h.o1]
  rw [show ((r.src.toNat : Nat) : Int) = r.src by omega, show ((r.dst.toNat : Nat) : Int) = r.dst by omega, show ((r.cost.toNat : Nat) : Int) = r.cost by omega]
theorem rules_back {m : Int} (hm : m ≤ 8) : ∀ (rs : List Rl) (f : Nat), (∀ r ∈ rs, RlOk m r) → rs.length < f → rulesW f (rs.flatMap ruleS) = (rs, true)
  | [], 0, _, h => absurd h (Nat.lt_irrefl _)
  | [], f + 1, _, _ => rulesW_nil f
  | r :: rs, 0, _, h => absurd h (Nat.not_lt_zero _)
  | r :: rs, f + 1, hv, h => by
    have hr := hv r (by simp)
    have ih := rules_back hm rs f (fun x hx => hv x (by simp [hx])) (by simpa using h)
    have hl : lineW ((r :: rs).flatMap ruleS) = some (Lib.join [[114, 117, 108, 101], Lib.decDigits r.src.toNat, Lib.decDigits r.dst.toNat, textS r.inp, textS r.out, Lib.decDigits r.cost.toNat] [32], rs.flatMap ruleS) := by
      rw [List.flatMap_cons]
      exact line_join (fun x hx => by
        rcases List.mem_cons.1 hx with rfl | hx
        · decide
        · exact rule_fields r hr 10 (by decide) (by decide) x hx) _
    have hne : (r :: rs).flatMap ruleS ≠ [] := by
      intro e
      rw [e, show lineW [] = none from rfl] at hl
      cases hl
    rw [rulesW_good hne hl (rule_back hm r hr), ih]
theorem rules_ge : ∀ rs : List Rl, rs.length ≤ (rs.flatMap ruleS).length
  | [] => Nat.zero_le _
  | r :: rs => by
    have := rules_ge rs
    rw [List.flatMap_cons, List.length_append, List.length_cons]
    have : 1 ≤ (ruleS r).length := by unfold ruleS lineS; simp
    omega
/-- The text of a valid scheme is read as the scheme. -/
theorem read_print {m : Int} {rs : List Rl} (h : validB m 1 rs = true) : readW (printS m 1 rs) = some (m.toNat, 1, rs, true) := by
  obtain ⟨hm1, hm8, -, -, hr⟩ := valid_ok h
  have hok : ∀ r ∈ rs, RlOk m r := fun r hx => by
    obtain ⟨k, hk, rfl⟩ := List.getElem_of_mem hx
    exact (hr k hk).1
  have dn := fun (c : UInt8) (hc : kindB c = 0) (n : Nat) => noC_only hc (dec_only n n (Nat.le_refl _))
  have hl : lineW (printS m 1 rs) = some (Lib.join [[115, 99, 104, 101, 109, 101], Lib.decDigits m.toNat, Lib.decDigits (1 : Int).toNat] [32], rs.flatMap ruleS) := by
    unfold printS headS
    exact line_join (fun x hx => by
      simp only [List.mem_cons, List.not_mem_nil, or_false] at hx
      rcases hx with rfl | rfl | rfl
      · decide
      · exact dn 10 (by decide) _
      · exact dn 10 (by decide) _) _
  have hf : firstW (Lib.join [[115, 99, 104, 101, 109, 101], Lib.decDigits m.toNat, Lib.decDigits (1 : Int).toNat] [32]) = some (m.toNat, 1) := by
    have hj := fields_join (name := [115, 99, 104, 101, 109, 101]) (n := 2) (fs := [Lib.decDigits m.toNat, Lib.decDigits (1 : Int).toNat]) rfl (by decide) (by decide) (fun x hx => by
      simp only [List.mem_cons, List.not_mem_nil, or_false] at hx
      rcases hx with rfl | rfl
      · exact dn 32 (by decide) _
      · exact dn 32 (by decide) _)
    unfold firstW
    rw [hj]
    unfold firstF
    have e1 : maskW (Lib.decDigits (1 : Int).toNat) = some 1 := by
      unfold maskW
      rw [num_dec (by decide)]
      rfl
    simp only [num_dec (show m.toNat ≤ 9999 by omega), e1]
  unfold readW
  rw [hl]
  simp only [hf]
  rw [rules_back hm8 rs _ hok (by have := rules_ge rs; omega)]
end Go.Proofs.YtnbiedijofdjhaaDoor
