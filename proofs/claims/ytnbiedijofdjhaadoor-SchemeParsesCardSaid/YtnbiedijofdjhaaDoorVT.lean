/-
  The lines of what Print writes.
-/
import Derived.Test.YtnbiedijofdjhaaDoorVS
import Derived.Test.YtnbiedijofdjhaaDoorVN
namespace Go.Proofs.YtnbiedijofdjhaaDoor
open Go.RowKit
open Pl

def headJ (m : Int) : List UInt8 := Lib.join [[115, 99, 104, 101, 109, 101], Lib.decDigits m.toNat, Lib.decDigits (1 : Int).toNat] [32]
def ruleJ (r : Rl) : List UInt8 := Lib.join [[114, 117, 108, 101], Lib.decDigits r.src.toNat, Lib.decDigits r.dst.toNat, textS r.inp, textS r.out, Lib.decDigits r.cost.toNat] [32]
theorem split_c (c : UInt8) : ∀ (a r cur : List UInt8), noC c a = true → splitS c cur (a ++ c :: r) = (cur ++ a) :: splitS c [] r
  | [], r, cur, _ => by rw [List.nil_append, split_step_eq, List.append_nil]
  | x :: a, r, cur, h => by
    unfold noC at h
    rw [List.all_cons, Bool.and_eq_true] at h
    have hx : x ≠ c := by simpa using h.1
    rw [List.cons_append, split_step_ne hx, split_c c a r (cur ++ [x]) h.2]
    simp
theorem head_noC (m : Int) : noC 10 (headJ m) = true := join_noC 10 32 (by decide) _ fun x hx => by
  have dn := fun n : Nat => noC_only (c := 10) (by decide) (dec_only n n (Nat.le_refl _))
  simp only [List.mem_cons, List.not_mem_nil, or_false] at hx
  rcases hx with rfl | rfl | rfl
  · decide
  · exact dn _
  · exact dn _
theorem rule_noC {m : Int} {r : Rl} (h : RlOk m r) : noC 10 (ruleJ r) = true := join_noC 10 32 (by decide) _ fun x hx => by
  rcases List.mem_cons.1 hx with rfl | hx
  · decide
  · exact rule_fields r h 10 (by decide) (by decide) x hx
theorem split_rules {m : Int} : ∀ (rs : List Rl), (∀ r ∈ rs, RlOk m r) → splitS 10 [] (rs.flatMap ruleS) = rs.map ruleJ ++ [[]]
  | [], _ => rfl
  | r :: rs, h => by
    have e : (r :: rs).flatMap ruleS = ruleJ r ++ 10 :: rs.flatMap ruleS := by
      rw [List.flatMap_cons]
      show (ruleJ r ++ [10]) ++ _ = _
      rw [List.append_assoc]; rfl
    rw [e, split_c 10 _ _ _ (rule_noC (h r (by simp))), split_rules rs (fun x hx => h x (by simp [hx]))]
    rfl
/-- The lines of a valid scheme's text. -/
theorem split_print {m : Int} {rs : List Rl} (h : validB m 1 rs = true) : splitS 10 [] (printS m 1 rs) = headJ m :: (rs.map ruleJ ++ [[]]) := by
  obtain ⟨-, -, -, -, hr⟩ := valid_ok h
  have hok : ∀ r ∈ rs, RlOk m r := fun r hx => by
    obtain ⟨k, hk, rfl⟩ := List.getElem_of_mem hx
    exact (hr k hk).1
  have e : printS m 1 rs = headJ m ++ 10 :: rs.flatMap ruleS := by
    show (headJ m ++ [10]) ++ _ = _
    rw [List.append_assoc]; rfl
  rw [e, split_c 10 _ _ _ (head_noC m), split_rules rs hok]
  rfl
theorem rightB_parts {m : Int} {rs : List Rl} {r : Rl} {i : Nat} : rightB m rs i r = (rightB m [] 0 r && !decide (r ∈ rs.take i)) := by
  unfold rightB
  simp only [List.take_nil, List.not_mem_nil, decide_false, Bool.not_false, Bool.and_true, Bool.and_assoc]
theorem valid_iff {m a : Int} {rs : List Rl} : validB m a rs = true ↔ frameB m a rs.length = true ∧ (∀ r ∈ rs, rightB m [] 0 r = true) ∧ rs.Nodup := by
  unfold validB
  rw [Bool.and_eq_true, List.all_eq_true]
  constructor
  · rintro ⟨hf, ha⟩
    have hk : ∀ k (h : k < rs.length), rightB m [] 0 rs[k] = true ∧ rs[k] ∉ rs.take k := fun k h => by
      have h2 := ha k (List.mem_range.2 h)
      unfold rightAt at h2
      rw [List.getElem?_eq_getElem h] at h2
      dsimp only at h2
      rw [rightB_parts (rs := rs), Bool.and_eq_true, Bool.not_eq_true', decide_eq_false_iff_not] at h2
      exact h2
    refine ⟨hf, fun r hr => ?_, ?_⟩
    · obtain ⟨k, h, rfl⟩ := List.getElem_of_mem hr
      exact (hk k h).1
    · rw [List.Nodup, List.pairwise_iff_getElem]
      intro i j hi hj hij e
      refine (hk j hj).2 ?_
      rw [← e, List.mem_take_iff_getElem]
      exact ⟨i, by omega, rfl⟩
  · rintro ⟨hf, ha, hn⟩
    refine ⟨hf, fun k hk => ?_⟩
    have hk := List.mem_range.1 hk
    unfold rightAt
    rw [List.getElem?_eq_getElem hk]
    dsimp only
    rw [rightB_parts (rs := rs), Bool.and_eq_true, Bool.not_eq_true', decide_eq_false_iff_not]
    refine ⟨ha _ (List.getElem_mem hk), fun h => ?_⟩
    rw [List.mem_take_iff_getElem] at h
    obtain ⟨i, hi, e⟩ := h
    rw [List.Nodup, List.pairwise_iff_getElem] at hn
    exact hn i k (by omega) hk (by omega) e
/-- Rules in another order are as valid. -/
theorem valid_perm {m a : Int} {rs rt : List Rl} (h : rs.Perm rt) : validB m a rs = validB m a rt := by
  rw [Bool.eq_iff_iff, valid_iff, valid_iff, h.length_eq, h.nodup_iff]
  constructor
  · rintro ⟨h1, h2, h3⟩
    exact ⟨h1, fun r hr => h2 r (h.mem_iff.2 hr), h3⟩
  · rintro ⟨h1, h2, h3⟩
    exact ⟨h1, fun r hr => h2 r (h.mem_iff.1 hr), h3⟩
end Go.Proofs.YtnbiedijofdjhaaDoor
