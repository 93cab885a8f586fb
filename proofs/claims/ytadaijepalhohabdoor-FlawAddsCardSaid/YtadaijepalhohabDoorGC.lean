/-
  The first chains of a scheme: what firstChain, stuck, endless and Find are to answer.
-/
import Derived.Test.YtadaijepalhohabDoorGA
import Derived.Test.YtadaijepalhohabDoorFV
namespace Go.Proofs.YtadaijepalhohabDoor
open Go.RowKit
open Pl

/-- A rule as an edge, if p allows it. -/
def edgeOf (p : Rl → Bool) (rs : List Rl) (k : Nat) : Option (Nat × Nat) := match rs[k]? with
  | some x => if p x = true then some (x.src.toNat, x.dst.toNat) else none
  | none => none
theorem edgeOf_some {p : Rl → Bool} {rs : List Rl} {k a b : Nat} (h : edgeOf p rs k = some (a, b)) : ∃ hk : k < rs.length, p rs[k] = true ∧ rs[k].src.toNat = a ∧ rs[k].dst.toNat = b := by
  unfold edgeOf at h
  rcases Nat.lt_or_ge k rs.length with hk | hk
  · rw [List.getElem?_eq_getElem hk] at h
    dsimp only at h
    split at h
    · rename_i hp
      have := Option.some.inj h
      exact ⟨hk, hp, (Prod.mk.inj this).1, (Prod.mk.inj this).2⟩
    · cases h
  · rw [List.getElem?_eq_none hk] at h; cases h
theorem edgeOf_at {p : Rl → Bool} {rs : List Rl} {k : Nat} (hk : k < rs.length) : edgeOf p rs k = if p rs[k] = true then some (rs[k].src.toNat, rs[k].dst.toNat) else none := by
  unfold edgeOf
  rw [List.getElem?_eq_getElem hk]
theorem edgeOf_lt {p : Rl → Bool} {rs : List Rl} : ∀ k a b, edgeOf p rs k = some (a, b) → k < rs.length := fun _ _ _ h => (edgeOf_some h).1
theorem edgeOf_lt2 {p : Rl → Bool} {rs : List Rl} : ∀ k a b, edgeOf p rs k = some (a, b) → k < rs.length + 2 := fun _ _ _ h => by have := (edgeOf_some h).1; omega
open Classical in
/-- The first chain from s to a wanted mode; the empty one if there is none. -/
noncomputable def fC (p : Rl → Bool) (rs : List Rl) (s : Nat) (X : Nat → Prop) : List Nat :=
  if h : ∃ l, IsFirst (edgeOf p rs) (rs.length + 2) s X l then Classical.choose h else []
theorem fC_first {p : Rl → Bool} {rs : List Rl} {s : Nat} {X : Nat → Prop} {l : List Nat} (h : IsFirst (edgeOf p rs) (rs.length + 2) s X l) : fC p rs s X = l := by
  have hex : ∃ l, IsFirst (edgeOf p rs) (rs.length + 2) s X l := ⟨l, h⟩
  have e : fC p rs s X = Classical.choose hex := dif_pos hex
  rw [e]
  exact (Classical.choose_spec hex).unique h (by omega) edgeOf_lt2
theorem fC_none {p : Rl → Bool} {rs : List Rl} {s : Nat} {X : Nat → Prop} (h : IsNone (edgeOf p rs) s X) : fC p rs s X = [] :=
  dif_neg fun ⟨l, hn, ⟨t, hx, c⟩, _⟩ => h l t hn hx c
theorem least_of {E : Nat → Option (Nat × Nat)} {N s : Nat} {X : Nat → Prop} : ∀ (n : Nat) (l : List Nat) (t : Nat), code N l ≤ n → l ≠ [] → X t → Chn E s l t → ∃ r, IsFirst E N s X r := by
  intro n
  induction n with
  | zero =>
    intro l t hl hn hx c
    exact ⟨l, hn, ⟨t, hx, c⟩, fun l' _ _ _ _ => by omega⟩
  | succ n ih =>
    intro l t hl hn hx c
    by_cases hall : ∀ l' t', l' ≠ [] → X t' → Chn E s l' t' → code N l ≤ code N l'
    · exact ⟨l, hn, ⟨t, hx, c⟩, hall⟩
    · have hex : ∃ l' t', l' ≠ [] ∧ X t' ∧ Chn E s l' t' ∧ code N l' < code N l := by
        refine Classical.byContradiction fun hno => hall fun l' t' h1 h2 h3 => ?_
        exact Nat.le_of_not_lt fun h4 => hno ⟨l', t', h1, h2, h3, h4⟩
      obtain ⟨l', t', h1, h2, h3, h4⟩ := hex
      exact ih l' t' (by omega) h1 h2 h3
theorem fC_nil {p : Rl → Bool} {rs : List Rl} {s : Nat} {X : Nat → Prop} (h : fC p rs s X = []) : IsNone (edgeOf p rs) s X := by
  intro l t hn hx c
  obtain ⟨r, hr⟩ := least_of (N := rs.length + 2) _ l t (Nat.le_refl _) hn hx c
  rw [fC_first hr] at h
  exact hr.1 h
theorem fC_ne {p : Rl → Bool} {rs : List Rl} {s : Nat} {X : Nat → Prop} (h : fC p rs s X ≠ []) : IsFirst (edgeOf p rs) (rs.length + 2) s X (fC p rs s X) := by
  by_cases hex : ∃ l, IsFirst (edgeOf p rs) (rs.length + 2) s X l
  · obtain ⟨l, hl⟩ := hex
    rw [fC_first hl]; exact hl
  · exact absurd (dif_neg hex) h
theorem fC_iff {p : Rl → Bool} {rs : List Rl} {s : Nat} {X : Nat → Prop} : fC p rs s X ≠ [] ↔ ∃ l t, l ≠ [] ∧ X t ∧ Chn (edgeOf p rs) s l t := by
  constructor
  · intro h
    obtain ⟨h1, ⟨t, h2, h3⟩, _⟩ := fC_ne h
    exact ⟨_, t, h1, h2, h3⟩
  · rintro ⟨l, t, h1, h2, h3⟩ h
    exact fC_nil h l t h1 h2 h3
theorem fC_le {p : Rl → Bool} {rs : List Rl} {s : Nat} {X : Nat → Prop} {l : List Nat} {t : Nat} (h1 : l ≠ []) (h2 : X t) (h3 : Chn (edgeOf p rs) s l t) : fC p rs s X ≠ [] ∧ code (rs.length + 2) (fC p rs s X) ≤ code (rs.length + 2) l := by
  have h := fC_iff.2 ⟨l, t, h1, h2, h3⟩
  exact ⟨h, (fC_ne h).2.2 l t h1 h2 h3⟩
theorem fC_len {p : Rl → Bool} {rs : List Rl} {s : Nat} {X : Nat → Prop} {l : List Nat} {t : Nat} (h1 : l ≠ []) (h2 : X t) (h3 : Chn (edgeOf p rs) s l t) : fC p rs s X ≠ [] ∧ (fC p rs s X).length ≤ l.length := by
  obtain ⟨h, hc⟩ := fC_le h1 h2 h3
  refine ⟨h, Nat.le_of_not_lt fun hlt => ?_⟩
  have := code_len (rs.length + 2) (by omega) (h3.lt edgeOf_lt2) hlt
  omega
theorem fC_lt (p : Rl → Bool) (rs : List Rl) (s : Nat) (X : Nat → Prop) : ∀ k ∈ fC p rs s X, k < rs.length := by
  intro k hk
  have h : fC p rs s X ≠ [] := fun e => by rw [e] at hk; cases hk
  obtain ⟨t, _, c⟩ := (fC_ne h).2.1
  exact c.lt edgeOf_lt k hk
theorem fC_congr {p : Rl → Bool} {rs : List Rl} {s : Nat} {X Y : Nat → Prop} (h : ∀ l t, Chn (edgeOf p rs) s l t → (X t ↔ Y t)) : fC p rs s X = fC p rs s Y := by
  by_cases hx : fC p rs s X = []
  · rw [hx]
    exact (fC_none fun l t h1 h2 h3 => fC_nil hx l t h1 ((h l t h3).2 h2) h3).symm
  · obtain ⟨h1, ⟨t, h2, h3⟩, h4⟩ := fC_ne hx
    exact (fC_first ⟨h1, ⟨t, (h _ t h3).1 h2, h3⟩, fun l' t' e1 e2 e3 => h4 l' t' e1 ((h l' t' e3).2 e2) e3⟩).symm
/-- A shortest chain comes to no mode twice: so it has no more rules than there are modes. -/
theorem chn_lt {p : Rl → Bool} {rs : List Rl} {m : Nat} (hr : ∀ x ∈ rs, InM m x) {s t : Nat} {l : List Nat} (hs : s < m) (c : Chn (edgeOf p rs) s l t) : t < m := by
  cases c with
  | nil => exact hs
  | snoc _ e =>
    obtain ⟨hk, _, _, h⟩ := edgeOf_some e
    have := (hr _ (List.getElem_mem hk)).2
    omega
/-- Chains and paths. -/
theorem chn_path {p : Rl → Bool} {rs : List Rl} {s t : Nat} {l : List Nat} (c : Chn (edgeOf p rs) s l t) : Path (rs.map edg) s t := by
  induction c with
  | nil => exact .refl _
  | snoc _ e ih =>
    obtain ⟨hk, _, h1, h2⟩ := edgeOf_some e
    exact .snoc ih (List.mem_map.2 ⟨rs[_], List.getElem_mem hk, by unfold edg; rw [h1, h2]⟩)
def anyR (_ : Rl) : Bool := true
theorem path_chn {rs : List Rl} {s t : Nat} (h : Path (rs.map edg) s t) : ∃ l, Chn (edgeOf anyR rs) s l t := by
  induction h with
  | refl => exact ⟨[], .nil⟩
  | snoc _ hm ih =>
    obtain ⟨l, c⟩ := ih
    obtain ⟨x, hx, e⟩ := List.mem_map.1 hm
    obtain ⟨k, hk, rfl⟩ := List.getElem_of_mem hx
    unfold edg at e
    refine ⟨l ++ [k], .snoc c ?_⟩
    rw [edgeOf_at hk, if_pos (show anyR rs[k] = true from rfl), e]
theorem chn_any {p : Rl → Bool} {rs : List Rl} {s t : Nat} {l : List Nat} (c : Chn (edgeOf p rs) s l t) : Chn (edgeOf anyR rs) s l t := by
  induction c with
  | nil => exact .nil
  | snoc _ e ih =>
    obtain ⟨hk, _, h1, h2⟩ := edgeOf_some e
    refine .snoc ih ?_
    rw [edgeOf_at hk, if_pos (show anyR rs[_] = true from rfl), h1, h2]
/-- Numbers as the program has them. -/
def ints (l : List Nat) : List Int := l.map fun (k : Nat) => (k : Int)
theorem ints_len (l : List Nat) : (ints l).length = l.length := by simp [ints]
theorem ints_nil : ints [] = [] := rfl
theorem ints_snoc (l : List Nat) (k : Nat) : ints (l ++ [k]) = ints l ++ [(k : Int)] := by simp [ints]
theorem ints_ne {l : List Nat} : ints l = [] ↔ l = [] := by simp [ints]
theorem cmp_lt {x y : Nat} (h : x < y) : Lib.compareInt (x : Int) (y : Int) = -1 := by unfold Lib.compareInt; rw [if_pos (by omega)]
theorem cmp_eq (x : Nat) : Lib.compareInt (x : Int) (x : Int) = 0 := by unfold Lib.compareInt; rw [if_neg (by omega), if_neg (by omega)]
theorem cmp_gt {x y : Nat} (h : y < x) : Lib.compareInt (x : Int) (y : Int) = 1 := by unfold Lib.compareInt; rw [if_neg (by omega), if_pos (by omega)]
theorem cmpL_code (N : Nat) : ∀ (l r : List Nat) (a : Nat), l.length = r.length → (∀ k ∈ l, k < N) → (∀ k ∈ r, k < N) → (cmpL (ints l) (ints r) < 0 ↔ l.foldl (fun a k => a * N + k) a < r.foldl (fun a k => a * N + k) a)
  | [], [], a, _, _, _ => by simp [ints, cmpL]
  | x :: l, y :: r, a, hl, h1, h2 => by
    have e : cmpL (ints (x :: l)) (ints (y :: r)) = if Lib.compareInt (x : Int) (y : Int) = 0 then cmpL (ints l) (ints r) else Lib.compareInt (x : Int) (y : Int) := rfl
    rw [e]
    have hl' : l.length = r.length := by simpa using hl
    rcases Nat.lt_trichotomy x y with q | q | q
    · rw [cmp_lt q, if_neg (by decide)]
      have := code_cons_lt N l r (a * N + x) (a * N + y) hl' (fun k h => h1 k (List.mem_cons_of_mem _ h)) (by omega)
      exact ⟨fun _ => this, fun _ => by decide⟩
    · subst q
      rw [cmp_eq, if_pos rfl]
      exact cmpL_code N l r (a * N + x) hl' (fun k h => h1 k (List.mem_cons_of_mem _ h)) (fun k h => h2 k (List.mem_cons_of_mem _ h))
    · rw [cmp_gt q, if_neg (by decide)]
      have := code_cons_lt N r l (a * N + y) (a * N + x) hl'.symm (fun k h => h2 k (List.mem_cons_of_mem _ h)) (by omega)
      exact ⟨fun h => absurd h (by decide), fun h => absurd h (Nat.lt_asymm this)⟩
theorem befB_code {N : Nat} (hN : 2 ≤ N) {l r : List Nat} (h1 : ∀ k ∈ l, k < N) (h2 : ∀ k ∈ r, k < N) : befB (ints l) (ints r) = decide (code N l < code N r) := by
  unfold befB
  rw [ints_len, ints_len]
  rcases Nat.lt_trichotomy l.length r.length with q | q | q
  · rw [cmp_lt q, if_neg (by decide), decide_eq_true (code_len N hN h1 q)]; rfl
  · rw [q, cmp_eq, if_pos rfl]
    exact decide_eq_decide.2 (cmpL_code N l r 1 q h1 h2)
  · rw [cmp_gt q, if_neg (by decide), decide_eq_false (Nat.lt_asymm (code_len N hN h2 q))]; rfl
/-- The first chain that is stuck. -/
noncomputable def stuckC (m acc : Nat) (rs : List Rl) : List Nat :=
  if (lMs m acc rs).testBit 0 = true then fC anyR rs 0 (fun t => (255 - lMs m acc rs).testBit t = true) else []
/-- The first circle at a mode. -/
noncomputable def rndC (rs : List Rl) (i : Nat) : List Nat := fC noIn rs i (fun t => (2 ^ i).testBit t = true)
/-- One mode looked at. -/
noncomputable def endStep (u : Nat) (rs : List Rl) (cur : List Nat) (i : Nat) : List Nat :=
  if u.testBit i = true then (if rndC rs i ≠ [] ∧ (cur = [] ∨ befB (ints (rndC rs i)) (ints cur) = true) then rndC rs i else cur) else cur
noncomputable def endC (u : Nat) (rs : List Rl) (k : Nat) : List Nat := (List.range k).foldl (endStep u rs) []
theorem endC_succ (u : Nat) (rs : List Rl) (k : Nat) : endC u rs (k + 1) = endStep u rs (endC u rs k) k := by
  unfold endC; rw [List.range_succ, List.foldl_append]; rfl
theorem pow_bit (i t : Nat) : (2 ^ i).testBit t = true ↔ t = i := by
  rw [Nat.testBit_two_pow]
  exact ⟨fun h => (of_decide_eq_true h).symm, fun h => decide_eq_true h.symm⟩
theorem endC_spec (u : Nat) (rs : List Rl) : ∀ k, (endC u rs k = [] → ∀ i, i < k → u.testBit i = true → rndC rs i = []) ∧
    (endC u rs k ≠ [] → ∃ i, i < k ∧ u.testBit i = true ∧ endC u rs k = rndC rs i) ∧ (∀ j, j < k → u.testBit j = true → rndC rs j ≠ [] → endC u rs k ≠ [] ∧ code (rs.length + 2) (endC u rs k) ≤ code (rs.length + 2) (rndC rs j))
  | 0 => ⟨fun _ i hi => absurd hi (Nat.not_lt_zero _), fun h => absurd rfl h, fun j hj => absurd hj (Nat.not_lt_zero _)⟩
  | k + 1 => by
    obtain ⟨h1, h2, h3⟩ := endC_spec u rs k
    have hlt : ∀ x ∈ endC u rs k, x < rs.length + 2 := by
      intro x hx
      have hne : endC u rs k ≠ [] := fun e => by rw [e] at hx; cases hx
      obtain ⟨i, _, _, e⟩ := h2 hne
      rw [e] at hx
      have := fC_lt _ _ _ _ x hx
      omega
    have hltr : ∀ x ∈ rndC rs k, x < rs.length + 2 := fun x hx => by have := fC_lt _ _ _ _ x hx; omega
    rw [endC_succ]
    unfold endStep
    by_cases hu : u.testBit k = true
    · rw [if_pos hu]
      by_cases hc : rndC rs k ≠ [] ∧ (endC u rs k = [] ∨ befB (ints (rndC rs k)) (ints (endC u rs k)) = true)
      · rw [if_pos hc]
        refine ⟨fun e => absurd e hc.1, fun _ => ⟨k, by omega, hu, rfl⟩, fun j hj hj2 hj3 => ⟨hc.1, ?_⟩⟩
        by_cases hjk : j = k
        · subst hjk; exact Nat.le_refl _
        · obtain ⟨h4, h5⟩ := h3 j (by omega) hj2 hj3
          rcases hc.2 with h6 | h6
          · exact absurd h6 h4
          · rw [befB_code (by omega) hltr hlt] at h6
            have := of_decide_eq_true h6
            omega
      · rw [if_neg hc]
        refine ⟨fun e i hi hi2 => ?_, fun hne => ?_, fun j hj hj2 hj3 => ?_⟩
        · by_cases hik : i = k
          · subst hik
            refine Classical.byContradiction fun hn => hc ⟨hn, Or.inl e⟩
          · exact h1 e i (by omega) hi2
        · obtain ⟨i, e1, e2, e3⟩ := h2 hne
          exact ⟨i, by omega, e2, e3⟩
        · by_cases hjk : j = k
          · subst hjk
            have hcur : endC u rs j ≠ [] := fun e => hc ⟨hj3, Or.inl e⟩
            refine ⟨hcur, Nat.le_of_not_lt fun hl => hc ⟨hj3, Or.inr ?_⟩⟩
            rw [befB_code (by omega) hltr hlt]
            exact decide_eq_true hl
          · exact h3 j (by omega) hj2 hj3
    · rw [if_neg hu]
      refine ⟨fun e i hi hi2 => ?_, fun hne => ?_, fun j hj hj2 hj3 => ?_⟩
      · by_cases hik : i = k
        · subst hik; exact absurd hi2 hu
        · exact h1 e i (by omega) hi2
      · obtain ⟨i, e1, e2, e3⟩ := h2 hne
        exact ⟨i, by omega, e2, e3⟩
      · by_cases hjk : j = k
        · subst hjk; exact absurd hj2 hu
        · exact h3 j (by omega) hj2 hj3
noncomputable def endlessC (m acc : Nat) (rs : List Rl) : List Nat := endC (rMs m rs &&& lMs m acc rs) rs m
/-- What Find reports. -/
noncomputable def repC (m acc : Nat) (rs : List Rl) : Rep :=
  if validB m acc rs = true then ⟨pickN (deadK (rMs m rs) (lMs m acc rs)) rs rs.length, ints (stuckC m acc rs), ints (endlessC m acc rs)⟩ else ⟨[], [], []⟩
/-- What Sound answers. -/
noncomputable def soundC (m acc : Nat) (rs : List Rl) : Int :=
  if validB m acc rs = true then (if (lMs m acc rs).testBit 0 = true then (if rMs m rs &&& (255 - lMs m acc rs) = 0 then (if endlessC m acc rs = [] then 0 else 41) else 40) else 50) else 20
end Go.Proofs.YtadaijepalhohabDoor
