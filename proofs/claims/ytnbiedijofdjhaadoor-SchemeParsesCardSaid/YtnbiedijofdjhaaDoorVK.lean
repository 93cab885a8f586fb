/-
  SchemeRules: valid beginnings; which rule is the first that is wrong.
-/
import Derived.Test.YtnbiedijofdjhaaDoorVJ
import Derived.Test.YtnbiedijofdjhaaDoorSY
namespace Go.Proofs.YtnbiedijofdjhaaDoor
open Go.RowKit
open Pl

theorem RlsFit.at {W : World} {base b0 off c : Nat} {rs : List Rl} (h : RlsFit W base b0 off c rs) : rs.length ≤ c ∧ RlsAt W W.heap.size (.slice (some ⟨b0, off, none⟩) rs.length c) rs := by
  obtain ⟨h1, h2, h3⟩ := h
  rcases h3 with ⟨rfl, h⟩ | ⟨rfl, h⟩
  · obtain ⟨a, c', hv, hc, h⟩ := h.at
    have e : c = c' := by simp at hv; exact hv.2
    exact ⟨by omega, h⟩
  · refine ⟨Nat.le_refl _, _, _, rfl, fun _ => ⟨b0, off, rfl, h2, fun i hi => ?_⟩⟩
    obtain ⟨k0, k1, k2, k3, k4⟩ := rlCells_get rs i hi
    exact ⟨h _ _ k0, h _ _ k1, h _ _ k2, h _ _ k3, h _ _ k4⟩
theorem validB_parts {m : Int} {rs : List Rl} (h : validB m 1 rs = true) : frameB m 1 rs.length = true ∧ ∀ j, j < rs.length → rightAt m rs j = true := by
  unfold validB at h
  rw [Bool.and_eq_true] at h
  exact ⟨h.1, fun j hj => List.all_eq_true.1 h.2 j (List.mem_range.2 hj)⟩
theorem frameB_le {m : Int} {n k : Nat} (h : frameB m 1 n = true) (hk : k ≤ 64) : frameB m 1 k = true := by
  unfold frameB at h ⊢
  simp only [Bool.and_eq_true, decide_eq_true_eq] at h ⊢
  exact ⟨h.1, h.2.1, h.2.2.1, h.2.2.2.1, hk⟩
theorem rightAt_same {m : Int} {rs rt : List Rl} {j : Nat} (h : rt.take (j + 1) = rs.take (j + 1)) : rightAt m rt j = rightAt m rs j := by
  have e1 : rt[j]? = rs[j]? := by
    have := congrArg (fun l => l[j]?) h
    simpa [List.getElem?_take] using this
  have e2 : rt.take j = rs.take j := by
    have := congrArg (List.take j) h
    rw [List.take_take, List.take_take] at this
    simpa [Nat.min_eq_left (Nat.le_succ j)] using this
  unfold rightAt
  rw [e1]
  cases rs[j]? with
  | none => rfl
  | some r => unfold rightB; simp only [e2]
theorem valid_take {m : Int} {rs : List Rl} (h : validB m 1 rs = true) (q : Nat) : validB m 1 (rs.take q) = true := by
  obtain ⟨hf, ha⟩ := validB_parts h
  have h64 := (valid_ok h).2.2.2.1
  unfold validB
  rw [Bool.and_eq_true]
  refine ⟨frameB_le hf (by rw [List.length_take]; omega), List.all_eq_true.2 fun j hj => ?_⟩
  have hj := List.mem_range.1 hj
  rw [List.length_take] at hj
  rw [rightAt_same (rs := rs) (by rw [List.take_take]; congr 1; omega)]
  exact ha j (by omega)
theorem spoilt_chk {m : Int} {rs : List Rl} {i : Nat} {r : Rl} (h : validB m 1 rs = true) (hi : i < rs.length) (hr : ∀ l k, rightB m l k r = false) : ChkIs m 1 (rs.set i r) (i : Nat) 20 := by
  obtain ⟨hf, ha⟩ := validB_parts h
  refine Or.inr (Or.inl ⟨by rw [List.length_set]; exact hf, i, by rw [List.length_set]; exact hi, rfl, rfl, fun j hj => ?_, ?_⟩)
  · rw [rightAt_same (rs := rs) (by rw [List.take_set_of_le (by omega)])]
    exact ha j (by omega)
  · unfold rightAt
    rw [List.getElem?_set_self hi]
    exact hr _ _
theorem double_chk {m : Int} {rs : List Rl} {i : Nat} (h : validB m 1 rs = true) (hi : i < rs.length) (hl : rs.length ≤ 63) : ChkIs m 1 (rs ++ [rs[i]]) (rs.length : Nat) 20 := by
  obtain ⟨hf, ha⟩ := validB_parts h
  have hlen : (rs ++ [rs[i]]).length = rs.length + 1 := by simp
  refine Or.inr (Or.inl ⟨by rw [hlen]; exact frameB_le hf (by omega), rs.length, by omega, rfl, rfl, fun j hj => ?_, ?_⟩)
  · rw [rightAt_same (rs := rs) (by rw [List.take_append_of_le_length (by omega)])]
    exact ha j hj
  · unfold rightAt
    rw [List.getElem?_append_right (Nat.le_refl _), Nat.sub_self]
    simp only [List.getElem?_cons_zero]
    unfold rightB
    rw [List.take_append_of_le_length (Nat.le_refl _), List.take_length, decide_eq_true (List.getElem_mem hi)]
    simp
theorem bad_src (m : Int) (r : Rl) (l : List Rl) (k : Nat) : rightB m l k { r with src := m } = false := by
  unfold rightB modeB
  simp
theorem bad_dst (m : Int) (r : Rl) (l : List Rl) (k : Nat) : rightB m l k { r with dst := -1 } = false := by
  unfold rightB modeB
  simp
theorem bad_inp (m : Int) (r : Rl) (l : List Rl) (k : Nat) : rightB m l k { r with inp := [97, 88] } = false := by
  unfold rightB
  simp [show onlyB 1 [97, 88] = false from by decide]
theorem bad_out5 (m : Int) (r : Rl) (l : List Rl) (k : Nat) : rightB m l k { r with out := [97, 98, 99, 100, 101] } = false := by
  unfold rightB
  simp [size_B]
theorem bad_out1 (m : Int) (r : Rl) (l : List Rl) (k : Nat) : rightB m l k { r with out := [45] } = false := by
  unfold rightB
  simp [show onlyB 7 [45] = false from by decide]
theorem bad_cost (m : Int) (r : Rl) (l : List Rl) (k : Nat) : rightB m l k { r with cost := 1001 } = false := by
  unfold rightB
  simp
theorem flat_set : ∀ (rs : List Rl) (i f : Nat) (v : Value) (r : Rl) (hi : i < rs.length), f < 5 → (rlCells rs[i]).set f v = rlCells r → (rs.flatMap rlCells).set (i * 5 + f) v = (rs.set i r).flatMap rlCells
  | [], i, _, _, _, hi, _, _ => by simp at hi
  | x :: rs, 0, f, v, r, _, hf, h => by
    rw [List.flatMap_cons, List.set_cons_zero, List.flatMap_cons, Nat.zero_mul, Nat.zero_add, List.set_append_left _ _ (by simpa [rlCells] using hf)]
    rw [show (x :: rs)[0] = x from rfl] at h
    rw [h]
  | x :: rs, i + 1, f, v, r, hi, hf, h => by
    rw [List.flatMap_cons, List.set_cons_succ, List.flatMap_cons, List.set_append_right _ _ (by simp [rlCells]; omega)]
    rw [← flat_set rs i f v r (by simpa using hi) hf (by simpa using h)]
    congr 2
    simp [rlCells]; omega
theorem RlsOwn.free {W : World} {base g n c : Nat} {rs : List Rl} (h : RlsOwn W base (.slice (some ⟨g, 0, none⟩) n c) rs) (o : Nat) : W.frozen? ⟨g, o, none⟩ = false := by
  rcases h.2 with ⟨h, -⟩ | ⟨g', cap, cur, hv, hgb, hg, h1, h2, h3, h4⟩
  · simp at h
  · obtain rfl : g = g' := by simp at hv; exact hv.1
    simp [World.frozen?, hg]
theorem RlsOwn.setF {W : World} {base g c : Nat} {rs : List Rl} (h : RlsOwn W base (.slice (some ⟨g, 0, none⟩) rs.length c) rs) (i f : Nat) (hi : i < rs.length) (hf : f < 5) (v : Value) (r : Rl) (hr : (rlCells rs[i]).set f v = rlCells r) :
    RlsOwn (W.setCell ⟨g, i * 5 + f, none⟩ v) base (.slice (some ⟨g, 0, none⟩) rs.length c) (rs.set i r) := by
  refine ⟨rlCells_length _, ?_⟩
  rcases h.2 with ⟨h, -⟩ | ⟨g', cap, cur, hv, hgb, hg, h1, h2, h3, h4⟩
  · simp at h
  · obtain ⟨rfl, rfl⟩ : g = g' ∧ c = cap := by simp at hv; exact ⟨hv.1, hv.2⟩
    refine Or.inr ⟨g, c, cur.setIfInBounds (i * 5 + f) v, by rw [List.length_set], hgb, by simp [World.setCell, Array.getElem?_modify, hg], by rw [List.length_set]; exact h1, h2, by rw [Array.size_setIfInBounds]; exact h3, ?_⟩
    rw [Array.toList_setIfInBounds, List.length_set, List.take_set, h4]
    exact flat_set rs i f v r hi hf hr
end Go.Proofs.YtnbiedijofdjhaaDoor
