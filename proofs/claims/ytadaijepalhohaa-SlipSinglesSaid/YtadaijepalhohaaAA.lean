/-
  Plain facts on slips and distances. No program is named here.
-/
namespace Go.Proofs.Ytadaijepalhohaa.Pl

def B (l : List UInt8) : ByteArray := ⟨l.toArray⟩
theorem toList_B (l : List UInt8) : (B l).data.toList = l := rfl
theorem B_toList (s : ByteArray) : B s.data.toList = s := by cases s; simp [B]
theorem size_B (l : List UInt8) : (B l).size = l.length := by simp [B, ByteArray.size]
/-- Two letters that are alike, and the cost. -/
structure Al where
  a : UInt8
  b : UInt8
  c : Int
deriving DecidableEq
/-- Slips. -/
structure Sl where
  swap : Int
  drop : Int
  add : Int
  put : Int
  alike : List Al
def Al.has (x : Al) (p q : UInt8) : Bool := (x.a == p && x.b == q) || (x.a == q && x.b == p)
/-- The first element with these letters. -/
def firstC (put : Int) (p q : UInt8) : List Al → Int
  | [] => put
  | x :: l => if x.has p q then min put x.c else firstC put p q l
def putC (s : Sl) (p q : UInt8) : Int := if p = q then 0 else firstC s.put p q s.alike
theorem has_symm (x : Al) (p q : UInt8) : x.has p q = x.has q p := by unfold Al.has; rw [Bool.or_comm]
theorem firstC_symm (put : Int) (p q : UInt8) : ∀ l, firstC put p q l = firstC put q p l
  | [] => rfl
  | x :: l => by unfold firstC; rw [has_symm, firstC_symm put p q l]
theorem putC_symm (s : Sl) (p q : UInt8) : putC s p q = putC s q p := by
  unfold putC
  rw [firstC_symm]
  by_cases h : p = q
  · rw [if_pos h, if_pos h.symm]
  · rw [if_neg h, if_neg (fun e => h e.symm)]
theorem firstC_le (put : Int) (p q : UInt8) : ∀ l, firstC put p q l ≤ put
  | [] => Int.le_refl _
  | x :: l => by
    unfold firstC
    split
    · omega
    · exact firstC_le put p q l
theorem firstC_pos (put : Int) (p q : UInt8) (hp : 1 ≤ put) : ∀ l : List Al, (∀ x ∈ l, 1 ≤ x.c) → 1 ≤ firstC put p q l
  | [], _ => hp
  | x :: l, h => by
    have h1 := h x List.mem_cons_self
    unfold firstC
    split
    · omega
    · exact firstC_pos put p q hp l fun y hy => h y (List.mem_cons_of_mem _ hy)
/-- All costs are at least one. -/
structure Sl.Pos (s : Sl) : Prop where
  swap : 1 ≤ s.swap
  drop : 1 ≤ s.drop
  add : 1 ≤ s.add
  put : 1 ≤ s.put
  alike : ∀ x ∈ s.alike, 1 ≤ x.c
theorem putC_le (s : Sl) (h : s.Pos) (p q : UInt8) : putC s p q ≤ s.put := by
  unfold putC
  have := h.put
  split
  · omega
  · exact firstC_le _ _ _ _
theorem putC_self (s : Sl) (p : UInt8) : putC s p p = 0 := by unfold putC; rw [if_pos rfl]
theorem putC_pos (s : Sl) (h : s.Pos) {p q : UInt8} (hne : p ≠ q) : 1 ≤ putC s p q := by
  unfold putC
  rw [if_neg hne]
  exact firstC_pos _ _ _ h.put _ h.alike
theorem putC_nonneg (s : Sl) (h : s.Pos) (p q : UInt8) : 0 ≤ putC s p q := by
  by_cases e : p = q
  · rw [e, putC_self]; omega
  · have := putC_pos s h e; omega

/-- The distance of two texts, the last byte first. -/
def D (s : Sl) : List UInt8 → List UInt8 → Int
  | [], t => t.length * s.add
  | _ :: m, [] => (m.length + 1 : Nat) * s.drop
  | a :: m, b :: t =>
    match m, t with
    | a' :: m', b' :: t' =>
      if a' = b ∧ a = b' then min (min (D s (a' :: m') (b' :: t') + putC s a b) (min (D s (a' :: m') (b :: b' :: t') + s.drop) (D s (a :: a' :: m') (b' :: t') + s.add))) (D s m' t' + s.swap)
      else min (D s (a' :: m') (b' :: t') + putC s a b) (min (D s (a' :: m') (b :: b' :: t') + s.drop) (D s (a :: a' :: m') (b' :: t') + s.add))
    | [], t => min (D s [] t + putC s a b) (min (D s [] (b :: t) + s.drop) (D s [a] t + s.add))
    | a' :: m', [] => min (D s (a' :: m') [] + putC s a b) (min (D s (a' :: m') [b] + s.drop) (D s (a :: a' :: m') [] + s.add))
termination_by m t => m.length + t.length
theorem D_nil (s : Sl) (t : List UInt8) : D s [] t = t.length * s.add := by rw [D]
theorem D_end (s : Sl) (m : List UInt8) : D s m [] = m.length * s.drop := by
  cases m with
  | nil => rw [D]; simp
  | cons a m => rw [D]; simp
/-- The bytes before may be exchanged. -/
def swB (a b : UInt8) : List UInt8 → List UInt8 → Bool
  | a' :: _, b' :: _ => decide (a' = b ∧ a = b')
  | _, _ => false
theorem D_cons (s : Sl) (a b : UInt8) (m t : List UInt8) : D s (a :: m) (b :: t) = if swB a b m t then min (min (D s m t + putC s a b) (min (D s m (b :: t) + s.drop) (D s (a :: m) t + s.add))) (D s m.tail t.tail + s.swap) else min (D s m t + putC s a b) (min (D s m (b :: t) + s.drop) (D s (a :: m) t + s.add)) := by
  cases m with
  | nil => conv => lhs; rw [D]
           simp [swB]
  | cons a' m' =>
    cases t with
    | nil => conv => lhs; rw [D]
             simp [swB]
    | cons b' t' =>
      rw [D]
      by_cases h : a' = b ∧ a = b'
      · simp only [swB, List.tail_cons, decide_eq_true_eq]
      · simp only [swB, List.tail_cons, decide_eq_true_eq]
/-- A way to type one text for another, and what it costs. -/
inductive Way (s : Sl) : List UInt8 → List UInt8 → Int → Prop
  | nil : Way s [] [] 0
  | put {m t c} (a b : UInt8) : Way s m t c → Way s (a :: m) (b :: t) (c + putC s a b)
  | drop {m t c} (a : UInt8) : Way s m t c → Way s (a :: m) t (c + s.drop)
  | add {m t c} (b : UInt8) : Way s m t c → Way s m (b :: t) (c + s.add)
  | swap {m t c} (a b : UInt8) : Way s m t c → Way s (a :: b :: m) (b :: a :: t) (c + s.swap)
theorem D_put_le (s : Sl) (a b : UInt8) (m t : List UInt8) : D s (a :: m) (b :: t) ≤ D s m t + putC s a b := by
  rw [D_cons]; split <;> omega
theorem D_drop_le (s : Sl) (a : UInt8) (m t : List UInt8) : D s (a :: m) t ≤ D s m t + s.drop := by
  cases t with
  | nil =>
    rw [D_end, D_end, List.length_cons]
    have : ((m.length + 1 : Nat) : Int) * s.drop = m.length * s.drop + s.drop := by rw [show ((m.length + 1 : Nat) : Int) = (m.length : Int) + 1 by omega, Int.add_mul, Int.one_mul]
    omega
  | cons b t => rw [D_cons]; split <;> omega
theorem D_add_le (s : Sl) (b : UInt8) (m t : List UInt8) : D s m (b :: t) ≤ D s m t + s.add := by
  cases m with
  | nil =>
    rw [D_nil, D_nil, List.length_cons]
    have : ((t.length + 1 : Nat) : Int) * s.add = t.length * s.add + s.add := by rw [show ((t.length + 1 : Nat) : Int) = (t.length : Int) + 1 by omega, Int.add_mul, Int.one_mul]
    omega
  | cons a m => rw [D_cons]; split <;> omega
theorem D_swap_le (s : Sl) (a b : UInt8) (m t : List UInt8) : D s (a :: b :: m) (b :: a :: t) ≤ D s m t + s.swap := by
  rw [D_cons, if_pos (by simp [swB])]
  simp only [List.tail_cons]
  omega
theorem D_le_way (s : Sl) {m t : List UInt8} {c : Int} (h : Way s m t c) : D s m t ≤ c := by
  induction h with
  | nil => rw [D_nil]; simp
  | @put m t _ a b _ ih => have := D_put_le s a b m t; omega
  | @drop m t _ a _ ih => have := D_drop_le s a m t; omega
  | @add m t _ b _ ih => have := D_add_le s b m t; omega
  | @swap m t _ a b _ ih => have := D_swap_le s a b m t; omega
theorem way_drops (s : Sl) : ∀ m : List UInt8, Way s m [] (m.length * s.drop)
  | [] => by simpa using Way.nil
  | a :: m => by
    have h := Way.drop a (way_drops s m)
    have e : ((a :: m).length : Int) * s.drop = m.length * s.drop + s.drop := by rw [List.length_cons, show ((m.length + 1 : Nat) : Int) = (m.length : Int) + 1 by omega, Int.add_mul, Int.one_mul]
    rw [e]; exact h
theorem way_adds (s : Sl) : ∀ t : List UInt8, Way s [] t (t.length * s.add)
  | [] => by simpa using Way.nil
  | a :: m => by
    have h := Way.add a (way_adds s m)
    have e : ((a :: m).length : Int) * s.add = m.length * s.add + s.add := by rw [List.length_cons, show ((m.length + 1 : Nat) : Int) = (m.length : Int) + 1 by omega, Int.add_mul, Int.one_mul]
    rw [e]; exact h
theorem way_D (s : Sl) : ∀ (n : Nat) (m t : List UInt8), m.length + t.length ≤ n → Way s m t (D s m t)
  | n, [], t, _ => by rw [D_nil]; exact way_adds s t
  | n, a :: m, [], _ => by rw [D_end]; exact way_drops s _
  | 0, a :: m, b :: t, h => absurd h (by simp)
  | n + 1, a :: m, b :: t, h => by
    simp only [List.length_cons] at h
    have h1 := Way.put a b (way_D s n m t (by omega))
    have h2 := Way.drop a (way_D s n m (b :: t) (by simp only [List.length_cons]; omega))
    have h3 := Way.add b (way_D s n (a :: m) t (by simp only [List.length_cons]; omega))
    rw [D_cons]
    have key : Way s (a :: m) (b :: t) (min (D s m t + putC s a b) (min (D s m (b :: t) + s.drop) (D s (a :: m) t + s.add))) := by
      rcases (show min (D s m t + putC s a b) (min (D s m (b :: t) + s.drop) (D s (a :: m) t + s.add)) = D s m t + putC s a b ∨ min (D s m t + putC s a b) (min (D s m (b :: t) + s.drop) (D s (a :: m) t + s.add)) = D s m (b :: t) + s.drop ∨ min (D s m t + putC s a b) (min (D s m (b :: t) + s.drop) (D s (a :: m) t + s.add)) = D s (a :: m) t + s.add by omega) with e | e | e <;> rw [e] <;> assumption
    by_cases hs : swB a b m t = true
    · rw [if_pos hs]
      have h4 : Way s (a :: m) (b :: t) (D s m.tail t.tail + s.swap) := by
        match m, t, hs, h with
        | a' :: m', b' :: t', hs, h =>
          obtain ⟨rfl, rfl⟩ : a' = b ∧ a = b' := by simpa [swB] using hs
          simp only [List.length_cons] at h
          exact Way.swap a a' (way_D s n m' t' (by omega))
      generalize min (D s m t + putC s a b) (min (D s m (b :: t) + s.drop) (D s (a :: m) t + s.add)) = x at *
      rcases (show min x (D s m.tail t.tail + s.swap) = x ∨ min x (D s m.tail t.tail + s.swap) = D s m.tail t.tail + s.swap by omega) with e | e <;> rw [e] <;> assumption
    · rw [if_neg hs]; exact key
theorem way_of (s : Sl) (m t : List UInt8) : Way s m t (D s m t) := way_D s _ m t (Nat.le_refl _)
theorem way_append {s : Sl} {m1 t1 m2 t2 : List UInt8} {c1 c2 : Int} (h1 : Way s m1 t1 c1) (h2 : Way s m2 t2 c2) : Way s (m1 ++ m2) (t1 ++ t2) (c1 + c2) := by
  induction h1 with
  | nil => simpa using h2
  | put a b _ ih => have := Way.put a b ih; rw [Int.add_right_comm] at this; exact this
  | drop a _ ih => have := Way.drop a ih; rw [Int.add_right_comm] at this; exact this
  | add a _ ih => have := Way.add a ih; rw [Int.add_right_comm] at this; exact this
  | swap a b _ ih => have := Way.swap a b ih; rw [Int.add_right_comm] at this; exact this
theorem way_back {s : Sl} {m t : List UInt8} {c : Int} (h : Way s m t c) : Way s m.reverse t.reverse c := by
  induction h with
  | nil => exact Way.nil
  | put a b _ ih =>
    have := way_append ih (Way.put a b Way.nil)
    simpa using this
  | drop a _ ih =>
    have := way_append ih (Way.drop a Way.nil)
    simpa using this
  | add a _ ih =>
    have := way_append ih (Way.add a Way.nil)
    simpa using this
  | swap a b _ ih =>
    have := way_append ih (Way.swap b a Way.nil)
    simpa using this
theorem D_parts (s : Sl) (m1 t1 m2 t2 : List UInt8) : D s (m1 ++ m2) (t1 ++ t2) ≤ D s m1 t1 + D s m2 t2 := D_le_way s (way_append (way_of s m1 t1) (way_of s m2 t2))
theorem D_back (s : Sl) (m t : List UInt8) : D s m.reverse t.reverse = D s m t := by
  have h1 := D_le_way s (way_back (way_of s m t))
  have h2 := D_le_way s (way_back (way_of s m.reverse t.reverse))
  rw [List.reverse_reverse, List.reverse_reverse] at h2
  omega
theorem way_turn {s : Sl} {m t : List UInt8} {c : Int} (h : Way s m t c) : Way { s with drop := s.add, add := s.drop } t m c := by
  induction h with
  | nil => exact Way.nil
  | put a b _ ih => have := Way.put (s := { s with drop := s.add, add := s.drop }) b a ih; rw [show putC { s with drop := s.add, add := s.drop } b a = putC s b a from rfl, putC_symm] at this; exact this
  | drop a _ ih => exact Way.add (s := { s with drop := s.add, add := s.drop }) a ih
  | add a _ ih => exact Way.drop (s := { s with drop := s.add, add := s.drop }) a ih
  | swap a b _ ih => exact Way.swap (s := { s with drop := s.add, add := s.drop }) b a ih
theorem D_turn (s : Sl) (m t : List UInt8) : D { s with drop := s.add, add := s.drop } t m = D s m t := by
  have h1 := D_le_way _ (way_turn (way_of s m t))
  have h2 := D_le_way _ (way_turn (way_of { s with drop := s.add, add := s.drop } t m))
  have h3 : D ({ ({ s with drop := s.add, add := s.drop } : Sl) with drop := s.drop, add := s.add }) m t = D s m t := rfl
  exact Int.le_antisymm h1 (h3 ▸ h2)
theorem way_nonneg {s : Sl} (hs : s.Pos) {m t : List UInt8} {c : Int} (h : Way s m t c) : 0 ≤ c ∧ (c = 0 → m = t) := by
  have p1 := hs.swap
  have p2 := hs.drop
  have p3 := hs.add
  induction h with
  | nil => exact ⟨Int.le_refl _, fun _ => rfl⟩
  | put a b _ ih =>
    obtain ⟨i1, i2⟩ := ih
    have := putC_nonneg s hs a b
    refine ⟨by omega, fun e => ?_⟩
    by_cases hab : a = b
    · rw [hab, i2 (by omega)]
    · have := putC_pos s hs hab; omega
  | drop a _ ih => exact ⟨by omega, fun e => by omega⟩
  | add a _ ih => exact ⟨by omega, fun e => by omega⟩
  | swap a b _ ih => exact ⟨by omega, fun e => by omega⟩
theorem D_nonneg {s : Sl} (hs : s.Pos) (m t : List UInt8) : 0 ≤ D s m t := (way_nonneg hs (way_of s m t)).1
theorem way_self (s : Sl) : ∀ m : List UInt8, Way s m m 0
  | [] => Way.nil
  | a :: m => by have := Way.put a a (way_self s m); rw [putC_self] at this; exact this
theorem D_self {s : Sl} (hs : s.Pos) (m : List UInt8) : D s m m = 0 := Int.le_antisymm (D_le_way s (way_self s m)) (D_nonneg hs m m)
theorem D_zero {s : Sl} (hs : s.Pos) (m t : List UInt8) : D s m t = 0 ↔ m = t := ⟨fun h => (way_nonneg hs (way_of s m t)).2 h, fun h => by rw [h]; exact D_self hs t⟩
theorem D_le (s : Sl) (m t : List UInt8) : D s m t ≤ m.length * s.drop + t.length * s.add := by
  have := D_le_way s (way_append (way_drops s m) (way_adds s t))
  simpa using this
/-- The distance of the first bytes of two texts. -/
def E (s : Sl) (m t : List UInt8) (i j : Nat) : Int := D s (m.take i).reverse (t.take j).reverse
theorem take_rev (l : List UInt8) (i : Nat) (h : i < l.length) : (l.take (i + 1)).reverse = l[i] :: (l.take i).reverse := by
  rw [List.take_succ_eq_append_getElem h, List.reverse_append]; rfl
theorem E_top (s : Sl) (m t : List UInt8) (j : Nat) (h : j ≤ t.length) : E s m t 0 j = j * s.add := by
  unfold E
  rw [List.take_zero, List.reverse_nil, D_nil, List.length_reverse, List.length_take, Nat.min_eq_left h]
theorem E_left (s : Sl) (m t : List UInt8) (i : Nat) (h : i ≤ m.length) : E s m t i 0 = i * s.drop := by
  unfold E
  rw [List.take_zero, List.reverse_nil, D_end, List.length_reverse, List.length_take, Nat.min_eq_left h]
theorem E_whole (s : Sl) (m t : List UInt8) : E s m t m.length t.length = D s m t := by
  unfold E
  rw [List.take_length, List.take_length, D_back]
/-- Whether the bytes that end here may be exchanged. -/
def swE (m t : List UInt8) (i j : Nat) : Bool := decide (0 < i) && (decide (0 < j) && ((m[i - 1]? == t[j]?) && (m[i]? == t[j - 1]?)))
theorem swE_eq (m t : List UInt8) (i j : Nat) (hi : i < m.length) (hj : j < t.length) : swB m[i] t[j] (m.take i).reverse (t.take j).reverse = swE m t i j := by
  cases i with
  | zero => simp [swB, swE]
  | succ i =>
    cases j with
    | zero => rw [take_rev m i (by omega)]; simp [swB, swE]
    | succ j =>
      rw [take_rev m i (by omega), take_rev t j (by omega)]
      have e1 : m[i + 1]? = some m[i + 1] := List.getElem?_eq_getElem hi
      have e2 : t[j + 1]? = some t[j + 1] := List.getElem?_eq_getElem hj
      have e3 : m[i]? = some m[i] := List.getElem?_eq_getElem (by omega)
      have e4 : t[j]? = some t[j] := List.getElem?_eq_getElem (by omega)
      simp only [swB, swE, Nat.add_sub_cancel, e1, e2, e3, e4]
      simp
      rw [Bool.eq_iff_iff]
      simp
theorem E_step (s : Sl) (m t : List UInt8) (i j : Nat) (hi : i < m.length) (hj : j < t.length) :
    E s m t (i + 1) (j + 1) = if swE m t i j then min (min (E s m t i j + putC s m[i] t[j]) (min (E s m t i (j + 1) + s.drop) (E s m t (i + 1) j + s.add))) (E s m t (i - 1) (j - 1) + s.swap) else min (E s m t i j + putC s m[i] t[j]) (min (E s m t i (j + 1) + s.drop) (E s m t (i + 1) j + s.add)) := by
  have e1 : E s m t (i + 1) (j + 1) = D s (m[i] :: (m.take i).reverse) (t[j] :: (t.take j).reverse) := by unfold E; rw [take_rev m i hi, take_rev t j hj]
  have e2 : E s m t i (j + 1) = D s (m.take i).reverse (t[j] :: (t.take j).reverse) := by unfold E; rw [take_rev t j hj]
  have e3 : E s m t (i + 1) j = D s (m[i] :: (m.take i).reverse) (t.take j).reverse := by unfold E; rw [take_rev m i hi]
  rw [e1, e2, e3, D_cons, swE_eq m t i j hi hj]
  by_cases h : swE m t i j = true
  · have h1 : 0 < i := by unfold swE at h; simp at h; omega
    have h2 : 0 < j := by unfold swE at h; simp at h; omega
    obtain ⟨i, rfl⟩ : ∃ k, i = k + 1 := ⟨i - 1, by omega⟩
    obtain ⟨j, rfl⟩ : ∃ k, j = k + 1 := ⟨j - 1, by omega⟩
    rw [if_pos h, if_pos h]
    have t1 : ((m.take (i + 1)).reverse).tail = (m.take i).reverse := by rw [take_rev m i (by omega)]; rfl
    have t2 : ((t.take (j + 1)).reverse).tail = (t.take j).reverse := by rw [take_rev t j (by omega)]; rfl
    rw [t1, t2]
    rfl
  · rw [if_neg h, if_neg h]; rfl
theorem E_bounds {s : Sl} (hs : s.Pos) (m t : List UInt8) (i j : Nat) : 0 ≤ E s m t i j ∧ E s m t i j ≤ i * s.drop + j * s.add := by
  refine ⟨D_nonneg hs _ _, ?_⟩
  have h := D_le s (m.take i).reverse (t.take j).reverse
  have h1 : ((m.take i).reverse.length : Int) * s.drop ≤ i * s.drop := Int.mul_le_mul_of_nonneg_right (by rw [List.length_reverse, List.length_take]; omega) (by have := hs.drop; omega)
  have h2 : ((t.take j).reverse.length : Int) * s.add ≤ j * s.add := Int.mul_le_mul_of_nonneg_right (by rw [List.length_reverse, List.length_take]; omega) (by have := hs.add; omega)
  unfold E
  omega
end Go.Proofs.Ytadaijepalhohaa.Pl
