/-
  The first chain, plain: a search by breadth finds the least one, as numbers order chains.
-/
namespace Go.Proofs.YtadaijepalhohabDoor

/-- A list of rules that lead on, one after the other: E says of a rule whether it may be used, and from where to where it leads. -/
inductive Chn (E : Nat → Option (Nat × Nat)) (s : Nat) : List Nat → Nat → Prop
  | nil : Chn E s [] s
  | snoc {l : List Nat} {a k b : Nat} : Chn E s l a → E k = some (a, b) → Chn E s (l ++ [k]) b
/-- The number of a chain: shorter ones first, then by their rules. -/
def code (N : Nat) (l : List Nat) : Nat := l.foldl (fun a k => a * N + k) 1
theorem code_snoc (N : Nat) (l : List Nat) (k : Nat) : code N (l ++ [k]) = code N l * N + k := by
  unfold code; rw [List.foldl_append]; rfl
theorem code_nil (N : Nat) : code N [] = 1 := rfl
theorem code_pos (N : Nat) (hN : 1 ≤ N) (l : List Nat) : 1 ≤ code N l := by
  have h : ∀ (l : List Nat) (a : Nat), 1 ≤ a → 1 ≤ l.foldl (fun a k => a * N + k) a := by
    intro l
    induction l with
    | nil => exact fun a h => h
    | cons k r ih => exact fun a h => ih _ (Nat.le_trans (Nat.mul_pos h hN) (Nat.le_add_right _ _))
  exact h l 1 (Nat.le_refl _)
theorem mul_succ_le {a b N : Nat} (h : a + 1 ≤ b) : a * N + N ≤ b * N := by
  have := Nat.mul_le_mul_right N h
  rwa [Nat.succ_mul] at this
theorem mul_le {a b N : Nat} (h : a ≤ b) : a * N ≤ b * N := Nat.mul_le_mul_right N h
/-- Inside the search: P is done, h is looked at, its rules before i are done, Q waits. -/
structure Inn (E : Nat → Option (Nat × Nat)) (N s : Nat) (X : Nat → Prop) (P : List Nat) (h i : Nat) (Q : List Nat) (C : Nat → List Nat) : Prop where
  ch : ∀ d, d ∈ P ++ h :: Q → Chn E s (C d) d
  mn : ∀ d, d ∈ P ++ h :: Q → ∀ l, Chn E s l d → code N (C d) ≤ code N l
  st : s ∈ P ++ h :: Q
  nd : (P ++ h :: Q).Nodup
  cl : ∀ p ∈ P, ∀ k b, E k = some (p, b) → b ∈ P ++ h :: Q ∧ ¬ X b
  ch' : ∀ k b, k < i → E k = some (h, b) → b ∈ P ++ h :: Q ∧ ¬ X b
  lo : ∀ q ∈ Q, code N (C h) < code N (C q)
  up : ∀ q ∈ Q, code N (C q) < code N (C h) * N + i
  inc : Q.Pairwise fun a b => code N (C a) < code N (C b)
/-- Between two modes: P is done, Q waits. -/
structure Out (E : Nat → Option (Nat × Nat)) (N s : Nat) (X : Nat → Prop) (P Q : List Nat) (C : Nat → List Nat) : Prop where
  ch : ∀ d, d ∈ P ++ Q → Chn E s (C d) d
  mn : ∀ d, d ∈ P ++ Q → ∀ l, Chn E s l d → code N (C d) ≤ code N l
  st : s ∈ P ++ Q
  nd : (P ++ Q).Nodup
  cl : ∀ p ∈ P, ∀ k b, E k = some (p, b) → b ∈ P ++ Q ∧ ¬ X b
  inc : Q.Pairwise fun a b => code N (C a) < code N (C b)
  up : ∀ h r, Q = h :: r → ∀ q ∈ r, code N (C q) < code N (C h) * N
theorem Out.start (E : Nat → Option (Nat × Nat)) (N s : Nat) (X : Nat → Prop) (hN : 1 ≤ N) : Out E N s X [] [s] (fun _ => []) where
  ch := fun d hd => by
    obtain rfl : d = s := by simpa using hd
    exact .nil
  mn := fun d _ l _ => by rw [code_nil]; exact code_pos N hN l
  st := by simp
  nd := by simp
  cl := fun p hp => by cases hp
  inc := by simp
  up := fun h r e q hq => by
    have : r = [] := by injection e with _ e2; exact e2.symm
    rw [this] at hq; cases hq
theorem Out.enter {E : Nat → Option (Nat × Nat)} {N s : Nat} {X : Nat → Prop} {P Q : List Nat} {h : Nat} {C : Nat → List Nat} (o : Out E N s X P (h :: Q) C) : Inn E N s X P h 0 Q C where
  ch := o.ch
  mn := o.mn
  st := o.st
  nd := o.nd
  cl := o.cl
  ch' := fun k b hk => absurd hk (Nat.not_lt_zero _)
  lo := fun q hq => (List.pairwise_cons.1 o.inc).1 q hq
  up := fun q hq => by rw [Nat.add_zero]; exact o.up h Q rfl q hq
  inc := (List.pairwise_cons.1 o.inc).2
theorem Inn.leave {E : Nat → Option (Nat × Nat)} {N s : Nat} {X : Nat → Prop} {P Q : List Nat} {h i : Nat} {C : Nat → List Nat} (o : Inn E N s X P h i Q C) (hi : i ≤ N) (hE : ∀ k a b, E k = some (a, b) → k < i) : Out E N s X (P ++ [h]) Q C where
  ch := fun d hd => o.ch d (by simpa using hd)
  mn := fun d hd => o.mn d (by simpa using hd)
  st := by simpa using o.st
  nd := by simpa using o.nd
  cl := fun p hp k b he => by
    rcases List.mem_append.1 hp with hp | hp
    · have := o.cl p hp k b he
      exact ⟨by simpa using this.1, this.2⟩
    · obtain rfl : p = h := by simpa using hp
      have := o.ch' k b (hE k _ b he) he
      exact ⟨by simpa using this.1, this.2⟩
  inc := o.inc
  up := fun g r e q hq => by
    subst e
    have h1 := o.lo g (List.mem_cons_self ..)
    have h2 := o.up q (List.mem_cons_of_mem _ hq)
    have h3 := mul_succ_le (N := N) (show code N (C h) + 1 ≤ code N (C g) from h1)
    omega
/-- No chain to a new mode, or to a wanted one, is less than the chain at hand with the rule at hand. -/
theorem Inn.least {E : Nat → Option (Nat × Nat)} {N s : Nat} {X : Nat → Prop} {P Q : List Nat} {h i : Nat} {C : Nat → List Nat} (o : Inn E N s X P h i Q C) (hN : 1 ≤ N) (hi : i ≤ N) {l : List Nat} {t : Nat} (c : Chn E s l t) :
    (t ∉ P ++ h :: Q ∨ (X t ∧ l ≠ [])) → code N (C h) * N + i ≤ code N l := by
  induction c with
  | nil =>
    intro hh
    rcases hh with hh | hh
    · exact absurd o.st hh
    · exact absurd rfl hh.2
  | @snoc l a k b c he ih =>
    intro hh
    have hno : ¬ (b ∈ P ++ h :: Q ∧ ¬ X b) := fun e => by
      rcases hh with hh | hh
      · exact hh e.1
      · exact e.2 hh.1
    rw [code_snoc]
    by_cases ha : a ∈ P ++ h :: Q
    · have hm := o.mn a ha l c
      rcases List.mem_append.1 ha with hp | hp
      · exact absurd (o.cl a hp k b he) hno
      · rcases List.mem_cons.1 hp with rfl | hq
        · have hk : i ≤ k := Nat.le_of_not_lt fun hk => hno (o.ch' k b hk he)
          have := mul_le (N := N) hm
          omega
        · have h1 := o.lo a hq
          have h3 := mul_succ_le (N := N) (show code N (C h) + 1 ≤ code N l by omega)
          omega
    · have := ih (Or.inl ha)
      have h2 := mul_le (N := code N l) hN
      rw [Nat.one_mul, Nat.mul_comm] at h2
      omega
/-- A rule that leads nowhere new. -/
theorem Inn.next {E : Nat → Option (Nat × Nat)} {N s : Nat} {X : Nat → Prop} {P Q : List Nat} {h i : Nat} {C : Nat → List Nat} (o : Inn E N s X P h i Q C) (he : ∀ b, E i = some (h, b) → b ∈ P ++ h :: Q ∧ ¬ X b) : Inn E N s X P h (i + 1) Q C where
  ch := o.ch
  mn := o.mn
  st := o.st
  nd := o.nd
  cl := o.cl
  ch' := fun k b hk e => by
    by_cases hki : k = i
    · subst hki; exact he b e
    · exact o.ch' k b (by omega) e
  lo := o.lo
  up := fun q hq => by have := o.up q hq; omega
  inc := o.inc
/-- The chains with one more. -/
def put (C : Nat → List Nat) (t : Nat) (l : List Nat) : Nat → List Nat := fun d => if d = t then l else C d
theorem put_same (C : Nat → List Nat) (t : Nat) (l : List Nat) : put C t l t = l := if_pos rfl
theorem put_other (C : Nat → List Nat) {t d : Nat} (l : List Nat) (h : d ≠ t) : put C t l d = C d := if_neg h
theorem pairwise_snoc {R : Nat → Nat → Prop} {Q : List Nat} {t : Nat} (h : Q.Pairwise R) (h2 : ∀ q ∈ Q, R q t) : (Q ++ [t]).Pairwise R :=
  List.pairwise_append.2 ⟨h, by simp, fun a ha b hb => by obtain rfl : b = t := by simpa using hb
                                                          exact h2 a ha⟩
/-- A rule that leads to a new mode. -/
theorem Inn.find {E : Nat → Option (Nat × Nat)} {N s : Nat} {X : Nat → Prop} {P Q : List Nat} {h i t : Nat} {C : Nat → List Nat} (o : Inn E N s X P h i Q C) (hN : 2 ≤ N) (hi : i ≤ N) (he : E i = some (h, t)) (hx : ¬ X t) (ht : t ∉ P ++ h :: Q) :
    Inn E N s X P h (i + 1) (Q ++ [t]) (put C t (C h ++ [i])) := by
  have hne : ∀ d, d ∈ P ++ h :: Q → d ≠ t := fun d hd e => ht (e ▸ hd)
  have hin : ∀ d, d ∈ P ++ h :: (Q ++ [t]) → d ∈ P ++ h :: Q ∨ d = t := fun d hd => by
    have : d ∈ (P ++ h :: Q) ++ [t] := by simpa using hd
    rcases List.mem_append.1 this with h1 | h1
    · exact Or.inl h1
    · exact Or.inr (by simpa using h1)
  have hto : ∀ d, d ∈ P ++ h :: Q → d ∈ P ++ h :: (Q ++ [t]) := fun d hd => by
    have : d ∈ (P ++ h :: Q) ++ [t] := List.mem_append.2 (Or.inl hd)
    simpa using this
  have htt : t ∈ P ++ h :: (Q ++ [t]) := by simp
  have hh : h ∈ P ++ h :: Q := by simp
  have hh' : put C t (C h ++ [i]) h = C h := put_other C _ (hne h hh)
  have hqD : ∀ q ∈ Q, q ∈ P ++ h :: Q := fun q hq => by simp [hq]
  have hq' : ∀ q ∈ Q, put C t (C h ++ [i]) q = C q := fun q hq => put_other C _ (hne q (hqD q hq))
  refine ⟨fun d hd => ?_, fun d hd l c => ?_, hto s o.st, ?_, fun p hp k b e => ?_, fun k b hk e => ?_, fun q hq => ?_, fun q hq => ?_, ?_⟩
  · rcases hin d hd with h1 | rfl
    · rw [put_other C _ (hne d h1)]; exact o.ch d h1
    · rw [put_same]; exact .snoc (o.ch h hh) he
  · rcases hin d hd with h1 | rfl
    · rw [put_other C _ (hne d h1)]; exact o.mn d h1 l c
    · rw [put_same, code_snoc]
      exact o.least (by omega) hi c (Or.inl ht)
  · have : ((P ++ h :: Q) ++ [t]).Nodup := by
      refine List.nodup_append.2 ⟨o.nd, by simp, fun a ha b hb => ?_⟩
      obtain rfl : b = t := by simpa using hb
      exact hne a ha
    simpa using this
  · have := o.cl p hp k b e
    exact ⟨hto _ this.1, this.2⟩
  · by_cases hki : k = i
    · subst hki
      rw [he] at e
      obtain rfl : t = b := by simpa using e
      exact ⟨htt, hx⟩
    · have := o.ch' k b (by omega) e
      exact ⟨hto _ this.1, this.2⟩
  · rw [hh']
    rcases List.mem_append.1 hq with h1 | h1
    · rw [hq' q h1]; exact o.lo q h1
    · obtain rfl : q = t := by simpa using h1
      rw [put_same, code_snoc]
      have h2 := mul_le (N := code N (C h)) hN
      rw [Nat.mul_comm N] at h2
      have h3 := code_pos N (by omega) (C h)
      omega
  · rw [hh']
    rcases List.mem_append.1 hq with h1 | h1
    · rw [hq' q h1]; have := o.up q h1; omega
    · obtain rfl : q = t := by simpa using h1
      rw [put_same, code_snoc]; omega
  · refine pairwise_snoc ?_ fun q hq => ?_
    · refine o.inc.imp_of_mem fun ha hb hab => ?_
      rw [hq' _ ha, hq' _ hb]; exact hab
    · rw [hq' q hq, put_same, code_snoc]
      exact o.up q hq
/-- A list is the first chain from s to a wanted mode. -/
def IsFirst (E : Nat → Option (Nat × Nat)) (N s : Nat) (X : Nat → Prop) (l : List Nat) : Prop :=
  l ≠ [] ∧ (∃ t, X t ∧ Chn E s l t) ∧ ∀ l' t, l' ≠ [] → X t → Chn E s l' t → code N l ≤ code N l'
def IsNone (E : Nat → Option (Nat × Nat)) (s : Nat) (X : Nat → Prop) : Prop := ∀ l t, l ≠ [] → X t → ¬ Chn E s l t
theorem Inn.hit {E : Nat → Option (Nat × Nat)} {N s : Nat} {X : Nat → Prop} {P Q : List Nat} {h i t : Nat} {C : Nat → List Nat} (o : Inn E N s X P h i Q C) (hN : 1 ≤ N) (hi : i ≤ N) (he : E i = some (h, t)) (hx : X t) : IsFirst E N s X (C h ++ [i]) :=
  ⟨by simp, ⟨t, hx, .snoc (o.ch h (by simp)) he⟩, fun l' t' hn hx' c => by rw [code_snoc]; exact o.least hN hi c (Or.inr ⟨hx', hn⟩)⟩
theorem Out.none {E : Nat → Option (Nat × Nat)} {N s : Nat} {X : Nat → Prop} {P : List Nat} {C : Nat → List Nat} (o : Out E N s X P [] C) : IsNone E s X := by
  have h : ∀ l t, Chn E s l t → t ∈ P ∧ (l ≠ [] → ¬ X t) := by
    intro l t c
    induction c with
    | nil => exact ⟨by simpa using o.st, fun h => absurd rfl h⟩
    | snoc c e ih =>
      have := o.cl _ ih.1 _ _ e
      exact ⟨by simpa using this.1, fun _ => this.2⟩
  exact fun l t hn hx c => (h l t c).2 hn hx
theorem nodup_len : ∀ (m : Nat) (l : List Nat), l.Nodup → (∀ x ∈ l, x < m) → l.length ≤ m
  | 0, l, _, h => by
    cases l with
    | nil => exact Nat.le_refl _
    | cons a r => exact absurd (h a (List.mem_cons_self ..)) (Nat.not_lt_zero _)
  | m + 1, l, hn, h => by
    by_cases hm : m ∈ l
    · have h1 := nodup_len m (l.erase m) (hn.erase m) (fun x hx => by
        have h2 := (hn.mem_erase_iff).1 hx
        have := h x h2.2
        have := h2.1
        omega)
      have h3 := List.length_erase_of_mem hm
      omega
    · have h1 := nodup_len m l hn (fun x hx => by
        have := h x hx
        have : x ≠ m := fun e => hm (e ▸ hx)
        omega)
      omega
/-- Chains, by their first rule. -/
theorem Chn.cons {E : Nat → Option (Nat × Nat)} {s k b : Nat} (h : E k = some (s, b)) {l : List Nat} {t : Nat} (c : Chn E b l t) : Chn E s (k :: l) t := by
  induction c with
  | nil => exact .snoc (l := []) .nil h
  | @snoc l a j d _ e ih => exact .snoc (l := k :: l) ih e
theorem Chn.app {E : Nat → Option (Nat × Nat)} {s a t : Nat} {l r : List Nat} (c : Chn E s l a) (d : Chn E a r t) : Chn E s (l ++ r) t := by
  induction d with
  | nil => rw [List.append_nil]; exact c
  | @snoc r x k b _ e ih => rw [← List.append_assoc]; exact .snoc ih e
theorem Chn.inv {E : Nat → Option (Nat × Nat)} {s t : Nat} {l : List Nat} (c : Chn E s l t) : (l = [] ∧ t = s) ∨ ∃ r a k, l = r ++ [k] ∧ Chn E s r a ∧ E k = some (a, t) := by
  cases c with
  | nil => exact Or.inl ⟨rfl, rfl⟩
  | snoc c e => exact Or.inr ⟨_, _, _, rfl, c, e⟩
theorem Chn.inv' {E : Nat → Option (Nat × Nat)} {s t : Nat} {l : List Nat} (c : Chn E s l t) : ∀ k r, l = k :: r → ∃ b, E k = some (s, b) ∧ Chn E b r t := by
  induction c with
  | nil => intro k r e; cases e
  | @snoc l a j d c e ih =>
    intro k r h
    cases l with
    | nil =>
      have h1 : [j] = k :: r := h
      injection h1 with h2 h3
      subst h2; subst h3
      rcases c.inv with ⟨_, rfl⟩ | ⟨r, a', k', h4, _⟩
      · exact ⟨d, e, .nil⟩
      · exact absurd h4 (by simp)
    | cons x y =>
      have h1 : x :: (y ++ [j]) = k :: r := h
      injection h1 with h2 h3
      subst h2; subst h3
      obtain ⟨b, h4, h5⟩ := ih x y rfl
      exact ⟨b, h4, .snoc h5 e⟩
theorem Chn.det {E : Nat → Option (Nat × Nat)} {s t u : Nat} {l : List Nat} (c : Chn E s l t) (d : Chn E s l u) : t = u := by
  induction c generalizing u with
  | nil =>
    rcases d.inv with ⟨_, h⟩ | ⟨r, a, k, h, _⟩
    · exact h.symm
    · exact absurd h (by simp)
  | @snoc l a j b c e ih =>
    rcases d.inv with ⟨h, _⟩ | ⟨r, x, k, h, c', e'⟩
    · exact absurd h (by simp)
    · obtain ⟨h1, h2⟩ := List.append_inj' h rfl
      subst h1
      have h3 : j = k := by simpa using h2
      subst h3
      rw [e] at e'
      have := Option.some.inj e'
      exact (Prod.mk.inj this).2
theorem Chn.lt {E : Nat → Option (Nat × Nat)} {s t n : Nat} {l : List Nat} (c : Chn E s l t) (hE : ∀ k a b, E k = some (a, b) → k < n) : ∀ k ∈ l, k < n := by
  induction c with
  | nil => intro k hk; cases hk
  | snoc c e ih =>
    intro k hk
    rcases List.mem_append.1 hk with h | h
    · exact ih k h
    · obtain rfl : k = _ := by simpa using h
      exact hE _ _ _ e
/-- Numbers tell chains apart, and order them: shorter ones first. -/
theorem code_cons_lt (N : Nat) : ∀ (l r : List Nat) (a b : Nat), l.length = r.length → (∀ k ∈ l, k < N) → a < b → l.foldl (fun a k => a * N + k) a < r.foldl (fun a k => a * N + k) b
  | [], [], a, b, _, _, h => h
  | x :: l, y :: r, a, b, hl, hk, h => by
    refine code_cons_lt N l r _ _ (by simpa using hl) (fun k h => hk k (List.mem_cons_of_mem _ h)) ?_
    have h1 := hk x (List.mem_cons_self ..)
    have h2 := mul_succ_le (N := N) (show a + 1 ≤ b from h)
    show a * N + x < b * N + y
    omega
theorem code_low (N : Nat) : ∀ (l : List Nat) (a : Nat), a * N ^ l.length ≤ l.foldl (fun a k => a * N + k) a
  | [], a => by simp
  | x :: l, a => by
    have h := code_low N l (a * N + x)
    refine Nat.le_trans ?_ h
    rw [List.length_cons, Nat.pow_succ, Nat.mul_comm (N ^ l.length), ← Nat.mul_assoc]
    exact Nat.mul_le_mul_right _ (Nat.le_add_right _ _)
theorem code_high (N : Nat) : ∀ (l : List Nat) (a : Nat), (∀ k ∈ l, k < N) → l.foldl (fun a k => a * N + k) a < (a + 1) * N ^ l.length
  | [], a, _ => by simp
  | x :: l, a, hk => by
    have h := code_high N l (a * N + x) (fun k h => hk k (List.mem_cons_of_mem _ h))
    refine Nat.lt_of_lt_of_le h ?_
    rw [List.length_cons, Nat.pow_succ, Nat.mul_comm (N ^ l.length), ← Nat.mul_assoc]
    refine Nat.mul_le_mul_right _ ?_
    have := hk x (List.mem_cons_self ..)
    rw [Nat.succ_mul]; omega
theorem code_len (N : Nat) (hN : 2 ≤ N) {l r : List Nat} (hk : ∀ k ∈ l, k < N) (h : l.length < r.length) : code N l < code N r := by
  have h1 := code_high N l 1 hk
  have h2 := code_low N r 1
  unfold code
  refine Nat.lt_of_lt_of_le h1 (Nat.le_trans ?_ h2)
  have h3 : N ^ (l.length + 1) ≤ N ^ r.length := Nat.pow_le_pow_right (by omega) h
  rw [Nat.pow_succ] at h3
  have h4 := Nat.mul_le_mul_left (N ^ l.length) hN
  omega
theorem fold_inj (N : Nat) : ∀ (l r : List Nat) (a b : Nat), l.length = r.length → (∀ k ∈ l, k < N) → (∀ k ∈ r, k < N) → l.foldl (fun a k => a * N + k) a = r.foldl (fun a k => a * N + k) b → a = b ∧ l = r
  | [], [], a, b, _, _, _, h => ⟨h, rfl⟩
  | x :: l, y :: r, a, b, hl, h1, h2, h => by
    obtain ⟨h3, h4⟩ := fold_inj N l r _ _ (by simpa using hl) (fun k h => h1 k (List.mem_cons_of_mem _ h)) (fun k h => h2 k (List.mem_cons_of_mem _ h)) h
    have hx := h1 x (List.mem_cons_self ..)
    have hy := h2 y (List.mem_cons_self ..)
    have h3 : a * N + x = b * N + y := h3
    have hab : a = b := by
      rcases Nat.lt_trichotomy a b with q | q | q
      · have := mul_succ_le (N := N) (show a + 1 ≤ b from q); omega
      · exact q
      · have := mul_succ_le (N := N) (show b + 1 ≤ a from q); omega
    subst hab
    exact ⟨rfl, by rw [h4, show x = y by omega]⟩
theorem code_inj (N : Nat) (hN : 2 ≤ N) {l r : List Nat} (h1 : ∀ k ∈ l, k < N) (h2 : ∀ k ∈ r, k < N) (h : code N l = code N r) : l = r := by
  have hl : l.length = r.length := by
    rcases Nat.lt_trichotomy l.length r.length with q | q | q
    · have := code_len N hN h1 q; omega
    · exact q
    · have := code_len N hN h2 q; omega
  exact (fold_inj N l r 1 1 hl h1 h2 h).2
theorem IsFirst.unique {E : Nat → Option (Nat × Nat)} {N s : Nat} {X : Nat → Prop} {l r : List Nat} (h : IsFirst E N s X l) (h' : IsFirst E N s X r) (hN : 2 ≤ N) (hE : ∀ k a b, E k = some (a, b) → k < N) : l = r := by
  obtain ⟨n1, ⟨t, x1, c1⟩, m1⟩ := h
  obtain ⟨n2, ⟨u, x2, c2⟩, m2⟩ := h'
  exact code_inj N hN (c1.lt hE) (c2.lt hE) (Nat.le_antisymm (m1 r u n2 x2 c2) (m2 l t n1 x1 c1))
end Go.Proofs.YtadaijepalhohabDoor
