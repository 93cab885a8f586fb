/-
  Chains, plain: what the rounds of flaw and of the reference find is what chains lead to.
-/
import Derived.Test.YtadaijepalhohabDoorFD
namespace Go.Proofs.YtadaijepalhohabDoor
open Go.RowKit
open Pl

/-- One edge looked at. -/
def stp (S : Nat) (e : Nat × Nat) : Nat := if S.testBit e.1 then S ||| 2 ^ e.2 else S
def rnd (es : List (Nat × Nat)) : Nat → Nat → Nat
  | 0, S => S
  | k + 1, S => es.foldl stp (rnd es k S)
inductive Path (es : List (Nat × Nat)) : Nat → Nat → Prop
  | refl (a : Nat) : Path es a a
  | snoc {a b c : Nat} : Path es a b → (b, c) ∈ es → Path es a c
theorem Path.cons {es : List (Nat × Nat)} {a b c : Nat} (h : (a, b) ∈ es) (p : Path es b c) : Path es a c := by
  induction p with
  | refl => exact .snoc (.refl a) h
  | snoc _ hm ih => exact .snoc ih hm
theorem Path.trans {es : List (Nat × Nat)} {a b c : Nat} (p : Path es a b) (q : Path es b c) : Path es a c := by
  induction q with
  | refl => exact p
  | snoc _ hm ih => exact .snoc ih hm
theorem Path.swap {es : List (Nat × Nat)} {a b : Nat} (p : Path es a b) : Path (es.map fun e => (e.2, e.1)) b a := by
  induction p with
  | refl => exact .refl _
  | snoc _ hm ih => exact .cons (List.mem_map.2 ⟨_, hm, rfl⟩) ih
theorem stp_sub {S i : Nat} {e : Nat × Nat} (h : S.testBit i = true) : (stp S e).testBit i = true := by
  unfold stp
  split
  · rw [Nat.testBit_or, h]; rfl
  · exact h
theorem fold_sub : ∀ (es : List (Nat × Nat)) (S i : Nat), S.testBit i = true → (es.foldl stp S).testBit i = true
  | [], _, _, h => h
  | e :: r, S, i, h => fold_sub r (stp S e) i (stp_sub h)
theorem stp_sound {S i : Nat} {e : Nat × Nat} (h : (stp S e).testBit i = true) : S.testBit i = true ∨ (S.testBit e.1 = true ∧ i = e.2) := by
  unfold stp at h
  split at h
  · rename_i hs
    rw [Nat.testBit_or, Bool.or_eq_true] at h
    rcases h with h | h
    · exact Or.inl h
    · rw [Nat.testBit_two_pow] at h
      exact Or.inr ⟨hs, by have := of_decide_eq_true h; omega⟩
  · exact Or.inl h
theorem fold_sound {all : List (Nat × Nat)} : ∀ (es : List (Nat × Nat)) (S i : Nat), (∀ e ∈ es, e ∈ all) → (es.foldl stp S).testBit i = true → ∃ a, S.testBit a = true ∧ Path all a i
  | [], _, i, _, h => ⟨i, h, .refl i⟩
  | e :: r, S, i, hm, h => by
    obtain ⟨a, ha, hp⟩ := fold_sound r (stp S e) i (fun x hx => hm x (List.mem_cons_of_mem _ hx)) h
    rcases stp_sound ha with h1 | ⟨h1, rfl⟩
    · exact ⟨a, h1, hp⟩
    · exact ⟨e.1, h1, .cons (hm e (List.mem_cons_self ..)) hp⟩
theorem rnd_sound (es : List (Nat × Nat)) : ∀ (k S i : Nat), (rnd es k S).testBit i = true → ∃ a, S.testBit a = true ∧ Path es a i
  | 0, _, i, h => ⟨i, h, .refl i⟩
  | k + 1, S, i, h => by
    obtain ⟨a, ha, hp⟩ := fold_sound es (rnd es k S) i (fun _ h => h) h
    obtain ⟨b, hb, hq⟩ := rnd_sound es k S a ha
    exact ⟨b, hb, hq.trans hp⟩
theorem rnd_sub (es : List (Nat × Nat)) : ∀ (k S i : Nat), S.testBit i = true → (rnd es k S).testBit i = true
  | 0, _, _, h => h
  | k + 1, S, i, h => fold_sub es _ i (rnd_sub es k S i h)
theorem fold_hit : ∀ (es : List (Nat × Nat)) (S : Nat) (e : Nat × Nat), e ∈ es → S.testBit e.1 = true → (es.foldl stp S).testBit e.2 = true
  | x :: r, S, e, hm, h => by
    rcases List.mem_cons.1 hm with rfl | hm
    · refine fold_sub r _ _ ?_
      unfold stp
      rw [if_pos h, Nat.testBit_or, Nat.testBit_two_pow]
      simp
    · exact fold_hit r (stp S x) e hm (stp_sub h)
def Closed (es : List (Nat × Nat)) (S : Nat) : Prop := ∀ e ∈ es, S.testBit e.1 = true → S.testBit e.2 = true
theorem Closed.path {es : List (Nat × Nat)} {S a b : Nat} (h : Closed es S) (p : Path es a b) (ha : S.testBit a = true) : S.testBit b = true := by
  induction p with
  | refl => exact ha
  | snoc _ hm ih => exact h _ hm ih
theorem stp_closed {S : Nat} {e : Nat × Nat} (h : S.testBit e.1 = true → S.testBit e.2 = true) : stp S e = S := by
  unfold stp
  split
  · rename_i hs
    have h2 := h hs
    apply Nat.eq_of_testBit_eq
    intro i
    rw [Nat.testBit_or, Nat.testBit_two_pow]
    by_cases hi : e.2 = i
    · subst hi; rw [h2]; rfl
    · simp [hi]
  · rfl
theorem fold_closed : ∀ (es : List (Nat × Nat)) (S : Nat), Closed es S → es.foldl stp S = S
  | [], _, _ => rfl
  | e :: r, S, h => by
    rw [List.foldl_cons, stp_closed (h e (List.mem_cons_self ..))]
    exact fold_closed r S (fun x hx => h x (List.mem_cons_of_mem _ hx))
/-- How many of the first m modes are in the set. -/
def cnt : Nat → Nat → Nat
  | 0, _ => 0
  | m + 1, S => cnt m S + (if S.testBit m then 1 else 0)
theorem cnt_le {S T : Nat} (h : ∀ i, S.testBit i = true → T.testBit i = true) : ∀ m, cnt m S ≤ cnt m T
  | 0 => Nat.le_refl _
  | m + 1 => by
    have := cnt_le h m
    unfold cnt
    by_cases hs : S.testBit m = true
    · rw [if_pos hs, if_pos (h m hs)]; omega
    · rw [if_neg hs]; omega
theorem cnt_lt {S T j : Nat} (h : ∀ i, S.testBit i = true → T.testBit i = true) (h1 : ¬ S.testBit j = true) (h2 : T.testBit j = true) : ∀ m, j < m → cnt m S < cnt m T
  | m + 1, hj => by
    unfold cnt
    by_cases e : j = m
    · subst e
      have := cnt_le h j
      rw [if_neg h1, if_pos h2]; omega
    · have := cnt_lt h h1 h2 m (by omega)
      by_cases hs : S.testBit m = true
      · rw [if_pos hs, if_pos (h m hs)]; omega
      · rw [if_neg hs]; omega
theorem cnt_max (S : Nat) : ∀ m, cnt m S ≤ m
  | 0 => Nat.le_refl _
  | m + 1 => by
    have := cnt_max S m
    unfold cnt
    split <;> omega
theorem cnt_full {S : Nat} : ∀ m, m ≤ cnt m S → ∀ j, j < m → S.testBit j = true
  | m + 1, h, j, hj => by
    have h0 := cnt_max S m
    unfold cnt at h
    by_cases hs : S.testBit m = true
    · rw [if_pos hs] at h
      by_cases e : j = m
      · rw [e]; exact hs
      · exact cnt_full m (by omega) j (by omega)
    · rw [if_neg hs] at h; omega
theorem cnt_pos {S j : Nat} (h : S.testBit j = true) : ∀ m, j < m → 1 ≤ cnt m S
  | m + 1, hj => by
    unfold cnt
    by_cases e : j = m
    · subst e; rw [if_pos h]; omega
    · have := cnt_pos h m (by omega); omega
theorem rnd_grows {es : List (Nat × Nat)} {m : Nat} (hd : ∀ e ∈ es, e.2 < m) {S : Nat} (h0 : 1 ≤ cnt m S) : ∀ k, Closed es (rnd es k S) ∨ k + 1 ≤ cnt m (rnd es k S)
  | 0 => Or.inr h0
  | k + 1 => by
    by_cases hc : Closed es (rnd es k S)
    · left
      have e : rnd es (k + 1) S = rnd es k S := fold_closed es _ hc
      rw [e]; exact hc
    · right
      rcases rnd_grows hd h0 k with h | h
      · exact absurd h hc
      · have hex : ∃ e, e ∈ es ∧ (rnd es k S).testBit e.1 = true ∧ ¬ (rnd es k S).testBit e.2 = true := by
          refine Classical.byContradiction fun hn => hc fun e he h1 => ?_
          exact Classical.byContradiction fun h2 => hn ⟨e, he, h1, h2⟩
        obtain ⟨e, he, h1, h2⟩ := hex
        have := cnt_lt (S := rnd es k S) (T := rnd es (k + 1) S) (fun i hi => fold_sub es _ i hi) h2 (fold_hit es _ e he h1) m (hd e he)
        omega
theorem rnd_closed {es : List (Nat × Nat)} {m : Nat} (hd : ∀ e ∈ es, e.2 < m) {S k : Nat} (h0 : 1 ≤ cnt m S) (hk : m ≤ k + 1) : Closed es (rnd es k S) := by
  rcases rnd_grows hd h0 k with h | h
  · exact h
  · exact fun e he _ => cnt_full m (by omega) _ (hd e he)
theorem rnd_iff {es : List (Nat × Nat)} {m : Nat} (hd : ∀ e ∈ es, e.2 < m) {S k : Nat} (h0 : 1 ≤ cnt m S) (hk : m ≤ k + 1) (i : Nat) : (rnd es k S).testBit i = true ↔ ∃ a, S.testBit a = true ∧ Path es a i :=
  ⟨rnd_sound es k S i, fun ⟨a, ha, hp⟩ => (rnd_closed hd h0 hk).path hp (rnd_sub es k S a ha)⟩
/-- The edges of rules. -/
def edg (x : Rl) : Nat × Nat := (x.src.toNat, x.dst.toNat)
def gde (x : Rl) : Nat × Nat := (x.dst.toNat, x.src.toNat)
theorem rnds_rnd (rs : List Rl) : ∀ k S, rnds rStep rs k S = rnd (rs.map edg) k S
  | 0, _ => rfl
  | k + 1, S => by
    unfold rnds rnd
    rw [rnds_rnd rs k S, List.foldl_map]; rfl
theorem rnds_rnd' (rs : List Rl) : ∀ k S, rnds lStep rs k S = rnd (rs.map gde) k S
  | 0, _ => rfl
  | k + 1, S => by
    unfold rnds rnd
    rw [rnds_rnd' rs k S, List.foldl_map]; rfl
theorem edg_lt {m : Nat} {rs : List Rl} (hr : ∀ x ∈ rs, InM m x) : (∀ e ∈ rs.map edg, e.2 < m) ∧ (∀ e ∈ rs.map gde, e.2 < m) := by
  refine ⟨fun e he => ?_, fun e he => ?_⟩
  · obtain ⟨x, hx, rfl⟩ := List.mem_map.1 he
    have := (hr x hx).2
    show x.dst.toNat < m
    omega
  · obtain ⟨x, hx, rfl⟩ := List.mem_map.1 he
    have := (hr x hx).1
    show x.src.toNat < m
    omega
theorem gde_swap (rs : List Rl) : rs.map gde = (rs.map edg).map fun e => (e.2, e.1) := by rw [List.map_map]; rfl
theorem edg_swap (rs : List Rl) : rs.map edg = (rs.map gde).map fun e => (e.2, e.1) := by rw [List.map_map]; rfl
/-- Whether a chain leads from one mode to another. -/
theorem reach_iff {m : Nat} {rs : List Rl} (hr : ∀ x ∈ rs, InM m x) {a k : Nat} (ha : a < m) (hk : m ≤ k + 1) (i : Nat) : (rnds rStep rs k (2 ^ a)).testBit i = true ↔ Path (rs.map edg) a i := by
  have hb : (2 ^ a).testBit a = true := by rw [Nat.testBit_two_pow]; simp
  rw [rnds_rnd, rnd_iff (edg_lt hr).1 (cnt_pos hb m ha) hk i]
  constructor
  · rintro ⟨b, h1, h2⟩
    rw [Nat.testBit_two_pow] at h1
    obtain rfl : a = b := of_decide_eq_true h1
    exact h2
  · exact fun h => ⟨a, hb, h⟩
/-- What flaw calls reached is what the reference finds. -/
theorem kinds_reached {m : Nat} {rs : List Rl} (hr : ∀ x ∈ rs, InM m x) (hm : 1 ≤ m) (i : Nat) : (rnds rStep rs (m - 1) 1).testBit i = (rnds rStep rs m (2 ^ 0)).testBit i := by
  rw [Bool.eq_iff_iff, show (1 : Nat) = 2 ^ 0 from rfl, reach_iff hr (a := 0) (by omega) (by omega), reach_iff hr (a := 0) (by omega) (by omega)]
theorem path_lt {m : Nat} {rs : List Rl} (hr : ∀ x ∈ rs, InM m x) {a b : Nat} (p : Path (rs.map edg) a b) (ha : a < m) : b < m := by
  cases p with
  | refl => exact ha
  | snoc _ hm => exact (edg_lt hr).1 _ hm
/-- What flaw calls live is what the reference finds. -/
theorem kinds_live {m acc : Nat} {rs : List Rl} (hr : ∀ x ∈ rs, InM m x) (hm : 1 ≤ m) (ha : acc < 2 ^ m) (ha0 : acc ≠ 0) (i : Nat) (hi : i < m) : (rnds lStep rs (m - 1) acc).testBit i = liveB m acc rs i := by
  obtain ⟨j, hj⟩ : ∃ j, acc.testBit j = true := Nat.exists_testBit_of_ne_zero ha0
  have lt_of : ∀ j, acc.testBit j = true → j < m := fun j hj => by
    refine Classical.byContradiction fun hn => ?_
    have := Nat.testBit_lt_two_pow (x := acc) (i := j) (Nat.lt_of_lt_of_le ha (Nat.pow_le_pow_right (by decide) (by omega)))
    rw [hj] at this; cases this
  rw [Bool.eq_iff_iff, rnds_rnd', rnd_iff (edg_lt hr).2 (cnt_pos hj m (lt_of j hj)) (by omega) i]
  unfold liveB
  rw [List.any_eq_true]
  constructor
  · rintro ⟨k, h1, h2⟩
    refine ⟨k, List.mem_range.2 (lt_of k h1), ?_⟩
    rw [Bool.and_eq_true]
    have p := h2.swap
    rw [← edg_swap] at p
    exact ⟨(reach_iff hr hi (by omega) k).2 p, h1⟩
  · rintro ⟨k, -, h1⟩
    rw [Bool.and_eq_true] at h1
    have p := (reach_iff hr hi (by omega) k).1 h1.1
    refine ⟨k, h1.2, ?_⟩
    rw [gde_swap]
    exact p.swap
end Go.Proofs.YtadaijepalhohabDoor
