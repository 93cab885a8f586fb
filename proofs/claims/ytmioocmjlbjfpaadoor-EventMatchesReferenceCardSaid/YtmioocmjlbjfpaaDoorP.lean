/-
  Plain facts on lists of bytes and numbers: what lines, numbers and events are. No program is named here.
-/
namespace Go.Proofs.YtmioocmjlbjfpaaDoor.Pl

def isLow (c : UInt8) : Bool := decide (97 ≤ c.toNat) && decide (c.toNat ≤ 122)
def lettersB (l : List UInt8) : Bool := l.all isLow
/-- Strictly increasing. -/
def incB : List UInt8 → Bool
  | [] => true
  | [_] => true
  | a :: b :: r => decide (a.toNat < b.toNat) && incB (b :: r)
def hasB (a b n : Int) : Bool := decide (a ≤ n) && decide (n ≤ b)

theorem hasB_true {a b n : Int} : hasB a b n = true ↔ a ≤ n ∧ n ≤ b := by simp [hasB]
theorem hasB_no1 {a b n : Int} (h : n < a) : hasB a b n = false := by
  unfold hasB; rw [decide_eq_false (by omega : ¬ a ≤ n)]; rfl
theorem hasB_no2 {a b n : Int} (h : b < n) : hasB a b n = false := by
  unfold hasB; rw [decide_eq_false (by omega : ¬ n ≤ b)]; simp
theorem hasB_yes {a b n : Int} (h : a ≤ n) (k : n ≤ b) : hasB a b n = true := by simp [hasB, h, k]

theorem take_snoc (s : ByteArray) (k : Nat) (h : k < s.size) : s.data.toList.take (k + 1) = s.data.toList.take k ++ [s[k]] := by
  rw [List.take_succ_eq_append_getElem (by simpa using h)]; rfl

theorem lettersB_take_succ (s : ByteArray) (k : Nat) (h : k < s.size) : lettersB (s.data.toList.take (k + 1)) = (lettersB (s.data.toList.take k) && isLow s[k]) := by
  rw [take_snoc s k h]; simp [lettersB, List.all_append]
theorem lettersB_all (s : ByteArray) (k : Nat) (h : ¬ k < s.size) (hl : lettersB (s.data.toList.take k) = true) : lettersB s.data.toList = true := by
  rwa [List.take_of_length_le (by simp; omega)] at hl
theorem lettersB_no (s : ByteArray) (k : Nat) (h : k < s.size) (hl : isLow s[k] = false) : lettersB s.data.toList = false := by
  rw [lettersB, List.all_eq_false]
  exact ⟨s[k], Array.mem_toList_iff.2 (Array.getElem_mem _), by simp [hl]⟩
theorem isLow_true {c : UInt8} (h1 : 97 ≤ (c.toNat : Int)) (h2 : (c.toNat : Int) ≤ 122) : isLow c = true := by simp [isLow]; omega
theorem isLow_no {c : UInt8} (h : (c.toNat : Int) < 97 ∨ 122 < (c.toNat : Int)) : isLow c = false := by
  unfold isLow; rcases h with h | h
  · rw [decide_eq_false (by omega : ¬ 97 ≤ c.toNat)]; rfl
  · rw [decide_eq_false (by omega : ¬ c.toNat ≤ 122)]; simp
theorem low_of {s : ByteArray} (h : lettersB s.data.toList = true) (k : Nat) (hk : k < s.size) : 97 ≤ s[k].toNat ∧ s[k].toNat ≤ 122 := by
  rw [lettersB, List.all_eq_true] at h
  have := h s[k] (Array.mem_toList_iff.2 (Array.getElem_mem _))
  simpa [isLow] using this

theorem incB_snoc (l : List UInt8) (c : UInt8) : incB (l ++ [c]) = (incB l && (l.getLast?.all fun d => decide (d.toNat < c.toNat))) := by
  induction l with
  | nil => rfl
  | cons a r ih =>
    cases r with
    | nil => simp [incB]
    | cons b r =>
      have e : (a :: b :: r) ++ [c] = a :: b :: (r ++ [c]) := rfl
      rw [e, incB, incB]
      have e2 : b :: (r ++ [c]) = (b :: r) ++ [c] := rfl
      rw [e2, ih, Bool.and_assoc]
      simp
/-- The rune before the k-th one: -1 at the start. -/
def lastOf (l : List UInt8) : Int := match l.getLast? with | none => -1 | some c => (c.toNat : Int)
theorem incB_step (s : ByteArray) (k : Nat) (h : k < s.size) (hi : incB (s.data.toList.take k) = true) (hl : lastOf (s.data.toList.take k) < (s[k].toNat : Int)) : incB (s.data.toList.take (k + 1)) = true := by
  rw [take_snoc s k h, incB_snoc, hi]
  unfold lastOf at hl
  cases e : (s.data.toList.take k).getLast? with
  | none => rfl
  | some d => rw [e] at hl; simp at hl ⊢; omega
theorem lastOf_step (s : ByteArray) (k : Nat) (h : k < s.size) : lastOf (s.data.toList.take (k + 1)) = (s[k].toNat : Int) := by
  rw [take_snoc s k h]; simp [lastOf]
theorem incB_prefix (l m : List UInt8) (h : incB (l ++ m) = true) : incB l = true := by
  induction l with
  | nil => rfl
  | cons a r ih =>
    cases r with
    | nil => rfl
    | cons b r =>
      rw [incB]
      have h' : (decide (a.toNat < b.toNat) && incB ((b :: r) ++ m)) = true := h
      rw [Bool.and_eq_true] at h' ⊢
      exact ⟨h'.1, ih h'.2⟩
theorem incB_no (s : ByteArray) (k : Nat) (h : k < s.size) (hl : (s[k].toNat : Int) ≤ lastOf (s.data.toList.take k)) : incB s.data.toList = false := by
  cases e : incB s.data.toList with
  | false => rfl
  | true =>
    exfalso
    have e1 : s.data.toList = s.data.toList.take (k + 1) ++ s.data.toList.drop (k + 1) := (List.take_append_drop _ _).symm
    rw [e1] at e
    have e2 := incB_prefix _ _ e
    rw [take_snoc s k h, incB_snoc, Bool.and_eq_true] at e2
    unfold lastOf at hl
    cases e3 : (s.data.toList.take k).getLast? with
    | none => rw [e3] at hl; simp at hl; omega
    | some d => rw [e3] at hl e2; simp at hl e2; omega
theorem incB_all (s : ByteArray) (k : Nat) (h : ¬ k < s.size) (hl : incB (s.data.toList.take k) = true) : incB s.data.toList = true := by
  rwa [List.take_of_length_le (by simp; omega)] at hl
theorem lastOf_ge (l : List UInt8) : -1 ≤ lastOf l ∧ lastOf l ≤ 255 := by
  unfold lastOf
  cases l.getLast? with
  | none => simp
  | some c => have := c.toNat_lt; simp; omega

/-! Texts as lists. -/
def B (l : List UInt8) : ByteArray := ⟨l.toArray⟩
theorem toList_B (l : List UInt8) : (B l).data.toList = l := rfl
theorem B_toList (s : ByteArray) : B s.data.toList = s := by cases s; simp [B]
theorem size_B (l : List UInt8) : (B l).size = l.length := by simp [B, ByteArray.size]
theorem B_inj {a b : List UInt8} (h : B a = B b) : a = b := by have := congrArg (fun s => s.data.toList) h; simpa [toList_B] using this
theorem data_extract (s : ByteArray) (a b : Nat) : (s.extract a b).data.toList = (s.data.toList.take b).drop a := by
  rw [ByteArray.data_extract, Array.toList_extract, List.extract_eq_take_drop, List.drop_take]
theorem ext_to_end (s : ByteArray) (a : Nat) : s.extract a s.size = B (s.data.toList.drop a) := by
  rw [← B_toList (s.extract a s.size), data_extract, List.take_of_length_le (by simp)]
theorem ext_from_0 (s : ByteArray) (b : Nat) : s.extract 0 b = B (s.data.toList.take b) := by
  rw [← B_toList (s.extract 0 b), data_extract, List.drop_zero]
theorem length_toList (s : ByteArray) : s.data.toList.length = s.size := by simp
theorem get_toList (s : ByteArray) (k : Nat) (h : k < s.size) : s.data.toList[k]'(by simpa using h) = s[k] := rfl

/-! Numbers. -/
def isDig (c : UInt8) : Bool := decide (48 ≤ c.toNat) && decide (c.toNat ≤ 57)
def numOf (l : List UInt8) : Nat := l.foldl (fun n c => 10 * n + (c.toNat - 48)) 0
def digRun (d : List UInt8) : List UInt8 := (d.take 4).takeWhile isDig
def badNum (ds : List UInt8) : Bool := decide (ds.length = 0) || (decide (1 < ds.length) && decide (ds.head? = some 48))
/-- A space and a number: the number and what is left. -/
def readNum : List UInt8 → Option (Nat × List UInt8)
  | [] => none
  | c :: d => if c = 32 then (if badNum (digRun d) then none else some (numOf (digRun d), d.drop (digRun d).length)) else none

theorem numOf_snoc (l : List UInt8) (c : UInt8) : numOf (l ++ [c]) = 10 * numOf l + (c.toNat - 48) := by simp [numOf, List.foldl_append]
theorem takeWhile_stop {p : UInt8 → Bool} : ∀ (l : List UInt8) (k : Nat), (l.take k).all p = true → (k < l.length → ∃ h : k < l.length, p l[k] = false) → l.takeWhile p = l.take k
  | [], k, _, _ => by simp
  | a :: r, 0, _, h => by
    obtain ⟨_, h⟩ := h (by simp)
    have h' : p a = false := h
    simp [h']
  | a :: r, k + 1, ha, h => by
    have ha' : p a = true ∧ (r.take k).all p = true := by simpa using ha
    rw [List.takeWhile_cons_of_pos ha'.1, takeWhile_stop r k ha'.2 (fun hk => by
      obtain ⟨h1, h2⟩ := h (by simpa using hk)
      exact ⟨hk, by simpa using h2⟩)]
    simp
theorem digRun_stop (d : List UInt8) (k : Nat) (hk : k ≤ 4) (ha : (d.take k).all isDig = true) (h : k < d.length → k < 4 → ∃ h : k < d.length, isDig d[k] = false) : digRun d = d.take k := by
  unfold digRun
  rw [takeWhile_stop (d.take 4) k (by rw [List.take_take, Nat.min_eq_left hk]; exact ha) (fun hl => by
    have hl' : k < 4 ∧ k < d.length := by rw [List.length_take] at hl; omega
    obtain ⟨h1, h2⟩ := h hl'.2 hl'.1
    exact ⟨hl, by rw [List.getElem_take]; exact h2⟩), List.take_take, Nat.min_eq_left hk]
theorem digRun_length (d : List UInt8) : (digRun d).length ≤ 4 := by
  unfold digRun
  exact Nat.le_trans (List.IsPrefix.length_le (List.takeWhile_prefix _)) (List.length_take_le _ _)
theorem isDig_yes {c : UInt8} (h1 : 48 ≤ (c.toNat : Int)) (h2 : (c.toNat : Int) ≤ 57) : isDig c = true := by simp [isDig]; omega
theorem isDig_no {c : UInt8} (h : (c.toNat : Int) < 48 ∨ 57 < (c.toNat : Int)) : isDig c = false := by
  unfold isDig; rcases h with h | h
  · rw [decide_eq_false (by omega : ¬ 48 ≤ c.toNat)]; rfl
  · rw [decide_eq_false (by omega : ¬ c.toNat ≤ 57)]; simp
theorem snocInd {P : List UInt8 → Prop} (h0 : P []) (hs : ∀ l c, P l → P (l ++ [c])) : ∀ l, P l := by
  have h : ∀ l : List UInt8, P l.reverse := by
    intro l
    induction l with
    | nil => exact h0
    | cons a r ih => rw [List.reverse_cons]; exact hs _ _ ih
  intro l
  have := h l.reverse
  rwa [List.reverse_reverse] at this
theorem numOf_lt : ∀ (l : List UInt8), l.all isDig = true → l.length ≤ 4 → numOf l < 10 ^ l.length := by
  refine snocInd (by intro _ _; simp [numOf]) ?_
  · intro l c ih ha hl
    rw [List.all_append, Bool.and_eq_true] at ha
    have hc : isDig c = true := by simpa using ha.2
    have hc' : c.toNat ≤ 57 := by simp [isDig] at hc; exact hc.2
    rw [List.length_append, List.length_singleton] at hl ⊢
    have := ih ha.1 (by omega)
    rw [numOf_snoc, Nat.pow_succ]
    omega

/-! The first byte. -/
theorem first_size {s : ByteArray} {c : UInt8} {d : List UInt8} (h : s.data.toList = c :: d) : s.size = d.length + 1 := by
  rw [← length_toList, h]; rfl

theorem readNum_shorter {l : List UInt8} {n : Nat} {r : List UInt8} (h : readNum l = some (n, r)) : r.length < l.length ∧ n < 10000 := by
  cases l with
  | nil => cases h
  | cons c d =>
    simp only [readNum] at h
    by_cases hc : c = 32
    · rw [if_pos hc] at h
      split at h
      · cases h
      · simp only [Option.some.injEq, Prod.mk.injEq] at h
        obtain ⟨h1, h2⟩ := h
        refine ⟨by rw [← h2, List.length_drop, List.length_cons]; omega, ?_⟩
        have ha : (digRun d).all isDig = true := by
          unfold digRun; exact List.all_takeWhile
        have := numOf_lt _ ha (digRun_length d)
        have h4 : 10 ^ (digRun d).length ≤ 10 ^ 4 := Nat.pow_le_pow_right (by omega) (digRun_length d)
        omega
    · rw [if_neg hc] at h; cases h

/-- At most k numbers, each with a space before it, and nothing else. -/
def readNums : Nat → List UInt8 → Option (List Nat)
  | 0, [] => some []
  | 0, _ :: _ => none
  | k + 1, l => if l = [] then some [] else match readNum l with
    | none => none
    | some (n, r) => (readNums k r).map (n :: ·)
theorem readNums_nil (k : Nat) : readNums k [] = some [] := by cases k <;> rfl
theorem readNums_none {k : Nat} {l : List UInt8} (hl : l ≠ []) (h : readNum l = none) : readNums k l = none := by
  cases k with
  | zero => cases l with
    | nil => exact absurd rfl hl
    | cons c d => rfl
  | succ k => rw [readNums, if_neg hl, h]
theorem readNums_full {l : List UInt8} (hl : l ≠ []) : readNums 0 l = none := by
  cases l with
  | nil => exact absurd rfl hl
  | cons c d => rfl
theorem readNums_some {k n : Nat} {l r : List UInt8} (hl : l ≠ []) (h : readNum l = some (n, r)) : readNums (k + 1) l = (readNums k r).map (n :: ·) := by
  rw [readNums, if_neg hl, h]
/-- What holds at the head of each round. -/
def Nums (most : Nat) (s : List UInt8) (xs : List Nat) (r : List UInt8) : Prop := xs.length ≤ most ∧ readNums most s = (readNums (most - xs.length) r).map (xs ++ ·)
theorem Nums_start (most : Nat) (s : List UInt8) : Nums most s [] s := by
  refine ⟨by simp, ?_⟩
  cases h : readNums (most - ([] : List Nat).length) s <;> simp_all
theorem Nums_end {most : Nat} {s : List UInt8} {xs : List Nat} (h : Nums most s xs []) : readNums most s = some xs := by
  rw [h.2, readNums_nil]; simp
theorem Nums_none {most : Nat} {s : List UInt8} {xs : List Nat} {r : List UInt8} (h : Nums most s xs r) (hr : r ≠ []) (hn : readNum r = none ∨ xs.length = most) : readNums most s = none := by
  rw [h.2]
  rcases hn with hn | hn
  · rw [readNums_none hr hn]; rfl
  · rw [hn, Nat.sub_self, readNums_full hr]; rfl
theorem Nums_step {most n : Nat} {s : List UInt8} {xs : List Nat} {r r' : List UInt8} (h : Nums most s xs r) (hr : r ≠ []) (hn : readNum r = some (n, r')) (hm : xs.length ≠ most) : Nums most s (xs ++ [n]) r' := by
  have h1 := h.1
  refine ⟨by simp; omega, ?_⟩
  obtain ⟨k, hk⟩ : ∃ k, most - xs.length = k + 1 := ⟨most - xs.length - 1, by omega⟩
  rw [h.2, hk, readNums_some hr hn]
  have hk' : most - (xs ++ [n]).length = k := by simp; omega
  rw [hk']
  cases readNums k r' <;> simp

/-- strings.CutPrefix at a space. -/
def cutB : List UInt8 → List UInt8 × Bool
  | [] => ([], false)
  | c :: d => if c = 32 then (d, true) else (c :: d, false)
/-! Events. -/
structure Ev where
  kind : Int
  keys : List UInt8
  p : List (Int × Int)
  text : List UInt8
  n : Int
  l : Int
def Ev.zero : Ev := ⟨0, [], [], [], 0, 0⟩
def pairs : List Nat → List (Int × Int)
  | a :: b :: r => ((a : Int), (b : Int)) :: pairs r
  | _ => []
/-- What the readers make of a rest. -/
def rdNothing (l : List UInt8) : Option Ev := if l = [] then some Ev.zero else none
def rdKeys (l : List UInt8) : Option Ev := if (cutB l).2 then some { Ev.zero with keys := (cutB l).1 } else none
def rdText (l : List UInt8) : Option Ev := if (cutB l).2 then some { Ev.zero with text := (cutB l).1 } else none
def rdPoints (l : List UInt8) : Option Ev := match readNums 24 l with
  | none => none
  | some xs => if xs.length % 2 = 0 then some { Ev.zero with p := pairs xs } else none
def rdHold (l : List UInt8) : Option Ev := match readNums 2 l with
  | some [a, b] => some { Ev.zero with n := a, l := b }
  | _ => none
def rdChoose (l : List UInt8) : Option Ev := match readNums 1 l with
  | some [a] => some { Ev.zero with n := a }
  | _ => none
end Go.Proofs.YtmioocmjlbjfpaaDoor.Pl
