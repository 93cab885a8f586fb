/-
  Schemes whose rules are listed backwards, plain.
-/
import Derived.Test.YtadaijepalhohabDoorGH
import Derived.Test.YtadaijepalhohabDoorPV
namespace Go.Proofs.YtadaijepalhohabDoor
open Go.RowKit
open Pl

theorem path_mem {es fs : List (Nat × Nat)} (h : ∀ e ∈ es, e ∈ fs) {a b : Nat} (p : Path es a b) : Path fs a b := by
  induction p with
  | refl => exact .refl _
  | snoc _ hm ih => exact .snoc ih (h _ hm)
theorem rMs_perm {m : Nat} {rs rt : List Rl} (hm : 1 ≤ m) (h : rs.Perm rt) (hr : ∀ x ∈ rs, InM m x) : rMs m rt = rMs m rs := by
  have hr' : ∀ x ∈ rt, InM m x := fun x hx => hr x (h.mem_iff.2 hx)
  unfold rMs
  apply Nat.eq_of_testBit_eq
  intro i
  rw [Bool.eq_iff_iff, show (1 : Nat) = 2 ^ 0 from rfl, reach_iff hr' (a := 0) (by omega) (by omega), reach_iff hr (a := 0) (by omega) (by omega)]
  constructor
  · exact path_mem fun e he => by
      obtain ⟨x, hx, rfl⟩ := List.mem_map.1 he
      exact List.mem_map.2 ⟨x, h.mem_iff.2 hx, rfl⟩
  · exact path_mem fun e he => by
      obtain ⟨x, hx, rfl⟩ := List.mem_map.1 he
      exact List.mem_map.2 ⟨x, h.mem_iff.1 hx, rfl⟩
theorem acc_bit {m acc : Nat} (ha : acc < 2 ^ m) (ha0 : acc ≠ 0) : ∃ j, acc.testBit j = true ∧ j < m := by
  obtain ⟨j, hj⟩ : ∃ j, acc.testBit j = true := Nat.exists_testBit_of_ne_zero ha0
  refine ⟨j, hj, Classical.byContradiction fun hn => ?_⟩
  have := Nat.testBit_lt_two_pow (x := acc) (i := j) (Nat.lt_of_lt_of_le ha (Nat.pow_le_pow_right (by decide) (by omega)))
  rw [hj] at this; cases this
theorem live_iff {m acc : Nat} {rs : List Rl} (hr : ∀ x ∈ rs, InM m x) (ha : acc < 2 ^ m) (ha0 : acc ≠ 0) (i : Nat) : (lMs m acc rs).testBit i = true ↔ ∃ a, acc.testBit a = true ∧ Path (rs.map edg) i a := by
  obtain ⟨j, hj, hjm⟩ := acc_bit ha ha0
  unfold lMs
  rw [rnds_rnd', rnd_iff (edg_lt hr).2 (cnt_pos hj m hjm) (by omega) i]
  constructor
  · rintro ⟨a, h1, h2⟩
    refine ⟨a, h1, ?_⟩
    rw [edg_swap]; exact h2.swap
  · rintro ⟨a, h1, h2⟩
    refine ⟨a, h1, ?_⟩
    rw [gde_swap]; exact h2.swap
theorem reached_iff {m : Nat} {rs : List Rl} (hr : ∀ x ∈ rs, InM m x) (hm : 1 ≤ m) (i : Nat) : (rMs m rs).testBit i = true ↔ Path (rs.map edg) 0 i := by
  unfold rMs
  rw [show (1 : Nat) = 2 ^ 0 from rfl, reach_iff hr (a := 0) (by omega) (by omega)]
theorem lMs_perm {m acc : Nat} {rs rt : List Rl} (h : rs.Perm rt) (hr : ∀ x ∈ rs, InM m x) (ha : acc < 2 ^ m) (ha0 : acc ≠ 0) : lMs m acc rt = lMs m acc rs := by
  have hr' : ∀ x ∈ rt, InM m x := fun x hx => hr x (h.mem_iff.2 hx)
  apply Nat.eq_of_testBit_eq
  intro i
  rw [Bool.eq_iff_iff, live_iff hr' ha ha0, live_iff hr ha ha0]
  constructor
  · rintro ⟨a, h1, h2⟩
    refine ⟨a, h1, path_mem (fun e he => ?_) h2⟩
    obtain ⟨x, hx, rfl⟩ := List.mem_map.1 he
    exact List.mem_map.2 ⟨x, h.mem_iff.2 hx, rfl⟩
  · rintro ⟨a, h1, h2⟩
    refine ⟨a, h1, path_mem (fun e he => ?_) h2⟩
    obtain ⟨x, hx, rfl⟩ := List.mem_map.1 he
    exact List.mem_map.2 ⟨x, h.mem_iff.1 hx, rfl⟩
/-- Each chain of one list has one of the other that is as long. -/
def Like (rs rt : List Rl) : Prop := ∀ (p : Rl → Bool) (s : Nat) (l : List Nat) (t : Nat), Chn (edgeOf p rs) s l t → ∃ l', l'.length = l.length ∧ Chn (edgeOf p rt) s l' t
theorem like_of_mem {rs rt : List Rl} (h : ∀ x ∈ rs, x ∈ rt) : Like rs rt := by
  intro p s l t c
  induction c with
  | nil => exact ⟨[], rfl, .nil⟩
  | snoc _ e ih =>
    obtain ⟨l', hl, c'⟩ := ih
    obtain ⟨hk, hp, h1, h2⟩ := edgeOf_some e
    obtain ⟨j, hj, hje⟩ := List.getElem_of_mem (h _ (List.getElem_mem hk))
    refine ⟨l' ++ [j], by simp [hl], .snoc c' ?_⟩
    rw [edgeOf_at hj, hje, if_pos hp, h1, h2]
theorem fC_like {p : Rl → Bool} {rs rt : List Rl} {s : Nat} {X : Nat → Prop} (h : Like rs rt) (hne : fC p rs s X ≠ []) : fC p rt s X ≠ [] ∧ (fC p rt s X).length ≤ (fC p rs s X).length := by
  obtain ⟨h1, ⟨t, hx, c⟩, _⟩ := fC_ne hne
  obtain ⟨l', hl, c'⟩ := h p s _ t c
  have hn : l' ≠ [] := fun e => by
    rw [e] at hl
    exact h1 (List.eq_nil_of_length_eq_zero hl.symm)
  have := fC_len hn hx c'
  rw [hl] at this
  exact this
theorem fC_alike {p : Rl → Bool} {rs rt : List Rl} {s : Nat} {X : Nat → Prop} (h : Like rs rt) (h' : Like rt rs) : (fC p rt s X).length = (fC p rs s X).length := by
  by_cases h1 : fC p rs s X = []
  · by_cases h2 : fC p rt s X = []
    · rw [h1, h2]
    · exact absurd h1 (fC_like h' h2).1
  · obtain ⟨h2, h3⟩ := fC_like h h1
    have := (fC_like h' h2).2
    omega
theorem endC_lt (u : Nat) (rs : List Rl) (k : Nat) : ∀ x ∈ endC u rs k, x < rs.length + 2 := by
  intro x hx
  have hne : endC u rs k ≠ [] := fun e => by rw [e] at hx; cases hx
  obtain ⟨i, _, _, e⟩ := (endC_spec u rs k).2.1 hne
  rw [e] at hx
  have := fC_lt _ _ _ _ x hx
  omega
theorem endC_min {u : Nat} {rs : List Rl} {k j : Nat} (hj : j < k) (hu : u.testBit j = true) (hne : rndC rs j ≠ []) : endC u rs k ≠ [] ∧ (endC u rs k).length ≤ (rndC rs j).length := by
  obtain ⟨h1, h2⟩ := (endC_spec u rs k).2.2 j hj hu hne
  refine ⟨h1, Nat.le_of_not_lt fun hl => ?_⟩
  have := code_len (rs.length + 2) (by omega) (fun x hx => by have := fC_lt _ _ _ _ x hx; omega) hl
  omega
theorem endC_like {u : Nat} {rs rt : List Rl} {k : Nat} (h : Like rs rt) (hne : endC u rs k ≠ []) : endC u rt k ≠ [] ∧ (endC u rt k).length ≤ (endC u rs k).length := by
  obtain ⟨i, h1, h2, h3⟩ := (endC_spec u rs k).2.1 hne
  rw [h3] at hne ⊢
  obtain ⟨h4, h5⟩ := fC_like h hne
  obtain ⟨h6, h7⟩ := endC_min h1 h2 h4
  exact ⟨h6, Nat.le_trans h7 h5⟩
theorem endC_alike {u : Nat} {rs rt : List Rl} {k : Nat} (h : Like rs rt) (h' : Like rt rs) : (endC u rt k).length = (endC u rs k).length := by
  by_cases h1 : endC u rs k = []
  · by_cases h2 : endC u rt k = []
    · rw [h1, h2]
    · exact absurd h1 (endC_like h' h2).1
  · obtain ⟨h2, h3⟩ := endC_like h h1
    have := (endC_like h' h2).2
    omega
theorem len_nil {α : Type} {l r : List α} (h : l.length = r.length) : l = [] ↔ r = [] := by
  rw [← List.length_eq_zero_iff, ← List.length_eq_zero_iff, h]
theorem pickN_cons (p : Rl → Bool) (x : Rl) (r : List Rl) : pickN p (x :: r) (x :: r).length = (if p x then [(0 : Int)] else []) ++ (pickN p r r.length).map (· + 1) := by
  have key : ∀ (l : List Rl) (k : Nat), (l.zipIdx (k + 1)).filterMap (fun x => if p x.1 then some (x.2 : Int) else none) = ((l.zipIdx k).filterMap (fun x => if p x.1 then some (x.2 : Int) else none)).map (· + 1) := by
    intro l
    induction l with
    | nil => intro k; rfl
    | cons y l ih =>
      intro k
      rw [List.zipIdx_cons, List.zipIdx_cons, List.filterMap_cons, List.filterMap_cons]
      cases hp : p y with
      | true => simp only [if_true]; rw [ih (k + 1)]; simp
      | false => simp only [Bool.false_eq_true, if_false]; rw [ih (k + 1)]
  unfold pickN
  rw [List.take_length, List.take_length, List.zipIdx_cons, List.filterMap_cons, key r 0]
  cases p x <;> rfl
theorem pickN_snoc (p : Rl → Bool) (r : List Rl) (x : Rl) : pickN p (r ++ [x]) (r ++ [x]).length = pickN p r r.length ++ (if p x then [(r.length : Int)] else []) := by
  have h := pickN_succ p (r ++ [x]) r.length (by simp)
  rw [show (r ++ [x])[r.length]'(by simp) = x by simp] at h
  rw [List.length_append, List.length_singleton, h]
  congr 1
  unfold pickN
  rw [List.take_left, List.take_length]
theorem pickN_rev (p : Rl → Bool) : ∀ rs : List Rl, pickN p rs.reverse rs.reverse.length = ((pickN p rs rs.length).map fun i => (rs.length : Int) - 1 - i).reverse
  | [] => rfl
  | x :: r => by
    rw [List.reverse_cons, pickN_snoc, pickN_rev p r, pickN_cons, List.map_append, List.reverse_append, List.length_reverse]
    congr 1
    · rw [List.map_map]
      congr 1
      apply List.map_congr_left
      intro i _
      simp only [Function.comp, List.length_cons]
      omega
    · cases p x
      · rfl
      · simp
theorem valid_acc {m acc : Nat} {rs : List Rl} (h : validB m acc rs = true) : acc < 2 ^ m ∧ acc ≠ 0 := by
  have h1 := (valid_iff.1 h).1
  unfold frameB at h1
  simp only [Bool.and_eq_true, decide_eq_true_eq] at h1
  obtain ⟨_, _, h3, h4, _⟩ := h1
  rw [Int.toNat_natCast] at h4
  refine ⟨?_, by omega⟩
  have : (acc : Int) < ((2 ^ m : Nat) : Int) := by push_cast; exact h4
  omega
theorem pickN_mem (p : Rl → Bool) (rs : List Rl) : ∀ x ∈ pickN p rs rs.length, ∃ k : Nat, x = (k : Int) ∧ ∃ h : k < rs.length, p rs[k] = true := by
  intro x hx
  unfold pickN at hx
  rw [List.take_length] at hx
  obtain ⟨y, hy, he⟩ := List.mem_filterMap.1 hx
  obtain ⟨r, k⟩ := y
  rw [List.mem_zipIdx_iff_getElem?] at hy
  dsimp only at hy he
  split at he
  · rename_i hp
    obtain ⟨hk, hr⟩ := List.getElem?_eq_some_iff.1 hy
    exact ⟨k, (Option.some.inj he).symm, hk, by rw [hr]; exact hp⟩
  · cases he
theorem dead_mem {m acc : Nat} {rs : List Rl} : ∀ x ∈ (repC m acc rs).dead, 0 ≤ x ∧ x < (rs.length : Int) := by
  intro x hx
  unfold repC at hx
  split at hx
  · obtain ⟨k, rfl, hk, _⟩ := pickN_mem _ _ x hx
    omega
  · cases hx
theorem dead_len {m acc : Nat} {rs : List Rl} : (repC m acc rs).dead.length ≤ rs.length := by
  unfold repC
  split
  · exact pickN_le _ _
  · exact Nat.zero_le _
/-- Listing the rules backwards. -/
theorem orders {m acc : Nat} {rs : List Rl} (hv : validB m acc rs = true) :
    validB m acc rs.reverse = true ∧ soundC m acc rs.reverse = soundC m acc rs ∧ (repC m acc rs.reverse).dead = ((repC m acc rs).dead.map fun i => (rs.length : Int) - 1 - i).reverse ∧
      (repC m acc rs.reverse).stuck.length = (repC m acc rs).stuck.length ∧ (repC m acc rs.reverse).endless.length = (repC m acc rs).endless.length := by
  obtain ⟨⟨hm1, hm8⟩, hIM, -, -⟩ := valid_in hv
  obtain ⟨ha, ha0⟩ := valid_acc hv
  have hp : rs.Perm rs.reverse := (List.reverse_perm rs).symm
  have hv' : validB m acc rs.reverse = true := by rw [← valid_perm hp]; exact hv
  have hR := rMs_perm hm1 hp hIM
  have hL := lMs_perm hp hIM ha ha0
  have L1 : Like rs rs.reverse := like_of_mem fun x hx => List.mem_reverse.2 hx
  have L2 : Like rs.reverse rs := like_of_mem fun x hx => List.mem_reverse.1 hx
  have hE : (endlessC m acc rs.reverse).length = (endlessC m acc rs).length := by
    unfold endlessC
    rw [hR, hL]
    exact endC_alike L1 L2
  refine ⟨hv', ?_, ?_, ?_, ?_⟩
  · unfold soundC
    rw [if_pos hv', if_pos hv, hR, hL]
    by_cases h0 : (lMs m acc rs).testBit 0 = true
    · rw [if_pos h0, if_pos h0]
      by_cases h1 : rMs m rs &&& (255 - lMs m acc rs) = 0
      · rw [if_pos h1, if_pos h1]
        by_cases h2 : endlessC m acc rs = []
        · rw [if_pos h2, if_pos ((len_nil hE).2 h2)]
        · rw [if_neg h2, if_neg (fun h => h2 ((len_nil hE).1 h))]
      · rw [if_neg h1, if_neg h1]
    · rw [if_neg h0, if_neg h0]
  · unfold repC
    rw [if_pos hv', if_pos hv, hR, hL]
    exact pickN_rev _ rs
  · unfold repC stuckC
    rw [if_pos hv', if_pos hv, hL]
    dsimp only
    rw [ints_len, ints_len]
    by_cases h0 : (lMs m acc rs).testBit 0 = true
    · rw [if_pos h0, if_pos h0]; exact fC_alike L1 L2
    · rw [if_neg h0, if_neg h0]
  · unfold repC
    rw [if_pos hv', if_pos hv]
    dsimp only
    rw [ints_len, ints_len]
    exact hE
end Go.Proofs.YtadaijepalhohabDoor
