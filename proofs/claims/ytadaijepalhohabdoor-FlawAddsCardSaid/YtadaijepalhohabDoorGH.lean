/-
  First chains are short: they come to no mode twice.
-/
import Derived.Test.YtadaijepalhohabDoorGC
namespace Go.Proofs.YtadaijepalhohabDoor
open Go.RowKit
open Pl

/-- The modes that a chain comes to. -/
theorem chn_trace {E : Nat → Option (Nat × Nat)} {s t : Nat} {l : List Nat} (c : Chn E s l t) : ∃ tr : List Nat, tr.length = l.length ∧ ∀ i (h : i < tr.length), Chn E s (l.take (i + 1)) tr[i] ∧ Chn E tr[i] (l.drop (i + 1)) t := by
  induction c with
  | nil => exact ⟨[], rfl, fun i h => absurd h (Nat.not_lt_zero _)⟩
  | @snoc l a k b c e ih =>
    obtain ⟨tr, hl, h⟩ := ih
    refine ⟨tr ++ [b], by simp [hl], fun i hi => ?_⟩
    by_cases hil : i < tr.length
    · obtain ⟨h1, h2⟩ := h i hil
      rw [List.getElem_append_left hil]
      refine ⟨?_, ?_⟩
      · rw [List.take_append_of_le_length (by omega)]; exact h1
      · rw [List.drop_append_of_le_length (by omega)]; exact .snoc h2 e
    · have hie : i = tr.length := by simp at hi; omega
      subst hie
      rw [List.getElem_append_right (Nat.le_refl _)]
      simp only [Nat.sub_self, List.getElem_cons_zero]
      refine ⟨?_, ?_⟩
      · rw [List.take_of_length_le (by simp [hl])]; exact .snoc c e
      · rw [List.drop_of_length_le (by simp [hl])]; exact .nil
theorem first_short {p : Rl → Bool} {rs : List Rl} {m s : Nat} {X : Nat → Prop} {l : List Nat} (hr : ∀ x ∈ rs, InM m x) (hs : s < m) (h : IsFirst (edgeOf p rs) (rs.length + 2) s X l) : l.length ≤ m := by
  obtain ⟨hn, ⟨t, hx, c⟩, hmin⟩ := h
  obtain ⟨tr, hl, htr⟩ := chn_trace c
  rw [← hl]
  refine nodup_len m tr ?_ fun q hq => ?_
  · rw [List.Nodup, List.pairwise_iff_getElem]
    intro i j hi hj hij e
    obtain ⟨h1, _⟩ := htr i hi
    obtain ⟨_, h2⟩ := htr j hj
    rw [← e] at h2
    have c2 := h1.app h2
    have hlen : (l.take (i + 1) ++ l.drop (j + 1)).length < l.length := by
      rw [List.length_append, List.length_take, List.length_drop]; omega
    have hne : l.take (i + 1) ++ l.drop (j + 1) ≠ [] := fun e => by
      have h5 := congrArg List.length e
      rw [List.length_append, List.length_take, List.length_nil] at h5
      omega
    have h3 := hmin _ t hne hx c2
    have h4 := code_len (rs.length + 2) (by omega) (c2.lt edgeOf_lt2) hlen
    omega
  · obtain ⟨i, hi, rfl⟩ := List.getElem_of_mem hq
    exact chn_lt hr hs (htr i hi).1
theorem fC_short {p : Rl → Bool} {rs : List Rl} {m s : Nat} {X : Nat → Prop} (hr : ∀ x ∈ rs, InM m x) (hs : s < m) : (fC p rs s X).length ≤ m := by
  by_cases h : fC p rs s X = []
  · rw [h]; exact Nat.zero_le _
  · exact first_short hr hs (fC_ne h)
theorem rndC_short {rs : List Rl} {m i : Nat} (hr : ∀ x ∈ rs, InM m x) (hi : i < m) : (rndC rs i).length ≤ m := fC_short hr hi
theorem endC_short {rs : List Rl} {m u : Nat} (hr : ∀ x ∈ rs, InM m x) (k : Nat) (hk : k ≤ m) : (endC u rs k).length ≤ m := by
  by_cases h : endC u rs k = []
  · rw [h]; exact Nat.zero_le _
  · obtain ⟨i, h1, _, h2⟩ := (endC_spec u rs k).2.1 h
    rw [h2]; exact rndC_short hr (by omega)
theorem stuckC_short {rs : List Rl} {m acc : Nat} (hr : ∀ x ∈ rs, InM m x) (hm : 1 ≤ m) : (stuckC m acc rs).length ≤ m := by
  unfold stuckC
  split
  · exact fC_short hr (by omega)
  · exact Nat.zero_le _
theorem pickN_le (p : Rl → Bool) (rs : List Rl) : (pickN p rs rs.length).length ≤ rs.length := pickN_len p rs rs.length
end Go.Proofs.YtadaijepalhohabDoor
