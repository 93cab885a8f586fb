/-
  Valid schemes, plain: what each rule is; validity does not look at the order.
-/
import Derived.Test.YtadaijepalhohabDoorSG
namespace Go.Proofs.YtadaijepalhohabDoor
open Go.RowKit
open Pl

structure RlOk (modes : Int) (r : Rl) : Prop where
  s0 : 0 ≤ r.src
  s1 : r.src < modes
  d0 : 0 ≤ r.dst
  d1 : r.dst < modes
  i : r.inp.length ≤ 4
  i1 : onlyB 1 r.inp = true
  o : r.out.length ≤ 4
  o1 : onlyB 7 r.out = true
  c0 : 0 ≤ r.cost
  c1 : r.cost ≤ 1000
theorem rightB_ok {modes : Int} {rs : List Rl} {i : Nat} {r : Rl} (h : rightB modes rs i r = true) : RlOk modes r ∧ r ∉ rs.take i := by
  unfold rightB modeB at h
  simp only [Bool.and_eq_true, decide_eq_true_eq, Bool.not_eq_true', decide_eq_false_iff_not, size_B] at h
  obtain ⟨⟨a, b⟩, ⟨c, d⟩, e, f, g, h, i, j, k⟩ := h
  exact ⟨⟨a, b, c, d, by omega, f, by omega, h, i, j⟩, k⟩
theorem valid_ok {modes acc : Int} {rs : List Rl} (h : validB modes acc rs = true) : 1 ≤ modes ∧ modes ≤ 8 ∧ 1 ≤ acc ∧ rs.length ≤ 64 ∧ ∀ k (hk : k < rs.length), RlOk modes rs[k] ∧ rs[k] ∉ rs.take k := by
  unfold validB frameB at h
  simp only [Bool.and_eq_true, decide_eq_true_eq] at h
  obtain ⟨⟨a, b, c, d, e⟩, f⟩ := h
  refine ⟨a, b, c, e, fun k hk => ?_⟩
  have := List.all_eq_true.1 f k (List.mem_range.2 hk)
  rw [rightAt_get modes rs k hk] at this
  exact rightB_ok this
theorem rightB_parts {m : Int} {rs : List Rl} {r : Rl} {i : Nat} : rightB m rs i r = (rightB m [] 0 r && !decide (r ∈ rs.take i)) := by
  unfold rightB
  simp only [List.take_nil, List.not_mem_nil, decide_false, Bool.not_false, Bool.and_true, Bool.and_assoc]
theorem valid_iff {m a : Int} {rs : List Rl} : validB m a rs = true ↔ frameB m a rs.length = true ∧ (∀ r ∈ rs, rightB m [] 0 r = true) ∧ rs.Nodup := by
  unfold validB
  rw [Bool.and_eq_true, List.all_eq_true]
  constructor
  · rintro ⟨hf, ha⟩
    have hk : ∀ k (h : k < rs.length), rightB m [] 0 rs[k] = true ∧ rs[k] ∉ rs.take k := fun k h => by
      have h2 := ha k (List.mem_range.2 h)
      unfold rightAt at h2
      rw [List.getElem?_eq_getElem h] at h2
      dsimp only at h2
      rw [rightB_parts (rs := rs), Bool.and_eq_true, Bool.not_eq_true', decide_eq_false_iff_not] at h2
      exact h2
    refine ⟨hf, fun r hr => ?_, ?_⟩
    · obtain ⟨k, h, rfl⟩ := List.getElem_of_mem hr
      exact (hk k h).1
    · rw [List.Nodup, List.pairwise_iff_getElem]
      intro i j hi hj hij e
      refine (hk j hj).2 ?_
      rw [← e, List.mem_take_iff_getElem]
      exact ⟨i, by omega, rfl⟩
  · rintro ⟨hf, ha, hn⟩
    refine ⟨hf, fun k hk => ?_⟩
    have hk := List.mem_range.1 hk
    unfold rightAt
    rw [List.getElem?_eq_getElem hk]
    dsimp only
    rw [rightB_parts (rs := rs), Bool.and_eq_true, Bool.not_eq_true', decide_eq_false_iff_not]
    refine ⟨ha _ (List.getElem_mem hk), fun h => ?_⟩
    rw [List.mem_take_iff_getElem] at h
    obtain ⟨i, hi, e⟩ := h
    rw [List.Nodup, List.pairwise_iff_getElem] at hn
    exact hn i k (by omega) hk (by omega) e
/-- Rules in another order are as valid. -/
theorem valid_perm {m a : Int} {rs rt : List Rl} (h : rs.Perm rt) : validB m a rs = validB m a rt := by
  rw [Bool.eq_iff_iff, valid_iff, valid_iff, h.length_eq, h.nodup_iff]
  constructor
  · rintro ⟨h1, h2, h3⟩
    exact ⟨h1, fun r hr => h2 r (h.mem_iff.2 hr), h3⟩
  · rintro ⟨h1, h2, h3⟩
    exact ⟨h1, fun r hr => h2 r (h.mem_iff.1 hr), h3⟩
end Go.Proofs.YtadaijepalhohabDoor
