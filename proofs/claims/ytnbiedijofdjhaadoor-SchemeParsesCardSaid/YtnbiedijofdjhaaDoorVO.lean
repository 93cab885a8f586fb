/-
  Regions that draw their order: a head that keeps an invariant, whichever of its operations comes next; a chain behind it.
-/
import Derived.Test.YtnbiedijofdjhaaDoorVH
import Derived.Test.YtnbiedijofdjhaaDoorSR
namespace Go.Proofs.YtnbiedijofdjhaaDoor
open Go.RowKit

section
variable {P : Program} {ops : Array Oper} {md : Region.Mode} {Q : Exit → Act → World → Prop}
/-- However the head of n operations is run through: some operation of the head is ready, and none behind it; at its end the rest is a chain. -/
def headB (md : Region.Mode) (ops : Array Oper) (n : Nat) : Nat → Array Bool → Bool
  | 0, listed => (List.range n).all (fun i => listed.getD i false) && Region.seqB md ops (ops.size - n) n listed
  | f + 1, listed => !(Region.ready md ops listed).isEmpty && (Region.ready md ops listed).all (fun i => decide (i < n) && headB md ops n f (listed.setIfInBounds i true))
theorem any_of_inv {n : Nat} {l : List Oper} (hn : n ≤ ops.size) (hl : ∀ j, l[j]? = ops[n + j]?) (hlen : l.length = ops.size - n) (hg : ∀ o ∈ l, o.guard = none) {J : Array Bool → Act → World → Prop}
    (step : ∀ listed a w i, J listed a w → i ∈ Region.ready md ops listed → i < n → wpOp P ops Q i (fun a' w' => J (listed.setIfInBounds i true) a' w') a w)
    (fin : ∀ listed a w, J listed a w → (∀ i, i < n → listed.getD i false = true) → wpList P ops Q l a w) :
    ∀ (f : Nat) (listed : Array Bool) (a : Act) (w : World), headB md ops n f listed = true → J listed a w → wpAny P md ops Q (f + (ops.size - n)) listed a w
  | 0, listed, a, w, hB, hJ => by
    simp only [headB, Bool.and_eq_true] at hB
    obtain ⟨h1, h2⟩ := hB
    have h := fin listed a w hJ (fun i hi => List.all_eq_true.1 h1 i (List.mem_range.2 hi))
    rw [Nat.zero_add, ← hlen]
    rw [← hlen] at h2
    exact any_of_anyC _ _ _ _ (anyC_of_list (C := fun _ => True) (dep := fun _ => true) l n listed a w hl hg h2 (wpListC_rest l n a w (fun _ _ => rfl) hg h))
  | f + 1, listed, a, w, hB, hJ => by
    simp only [headB, Bool.and_eq_true, Bool.not_eq_true'] at hB
    obtain ⟨h1, h2⟩ := hB
    rw [show f + 1 + (ops.size - n) = (f + (ops.size - n)) + 1 by omega]
    refine ⟨fun h => (by rw [h] at h1; cases h1), fun i hi => ?_⟩
    have h3 := List.all_eq_true.1 h2 i hi
    simp only [Bool.and_eq_true, decide_eq_true_eq] at h3
    exact wpOp_mono (fun a' w' h => any_of_inv hn hl hlen hg step fin f _ a' w' h3.2 h) (step listed a w i hJ hi h3.1)
/-- **A region that draws its order: n operations that keep an invariant whichever is next, a chain behind them.** -/
theorem wp_region_inv {id : Nat} {a : Act} {w : World} {l : List Oper} (n : Nat) (hm : P.follows .mixedOrders = true) (hn : n ≤ l.length) (hg : l.all (fun o => o.guard == none) = true) (hB : headB .any l.toArray n n (Array.replicate l.length false) = true) (J : Array Bool → Act → World → Prop)
    (start : J (Array.replicate l.length false) a w.drew) (step : ∀ listed a w i, J listed a w → i ∈ Region.ready .any l.toArray listed → i < n → wpOp P l.toArray Q i (fun a' w' => J (listed.setIfInBounds i true) a' w') a w)
    (fin : ∀ listed a w, J listed a w → (∀ i, i < n → listed.getD i false = true) → wpList P l.toArray Q (l.drop n) a w) : (Code.region id l.toArray true).wp P Q a w := by
  refine wp_region_any hm ?_
  have H := any_of_inv (md := .any) (P := P) (Q := Q) (ops := l.toArray) (n := n) (l := l.drop n) (by simpa using hn) (fun j => by simp) (by simp) (fun o ho => by simpa using List.all_eq_true.1 hg o (List.mem_of_mem_drop ho)) step fin n _ a w.drew hB start
  rw [show n + (l.toArray.size - n) = l.toArray.size by simp; omega] at H
  simpa using H
/-- What a step of the head is, at an operation that is known. -/
theorem wpOp_at {i : Nat} {o : Oper} {K : Act → World → Prop} {a : Act} {w : World} (hi : ops[i]? = some o) (hg : o.guard = none) (h : Oper.wp P o a w K Q) : wpOp P ops Q i K a w := by
  unfold wpOp
  simp only [hi]
  rw [if_pos (by simp [Region.wanted, hg])]
  exact Or.inl h
theorem wpOp_value {i : Nat} {o : Oper} {K : Act → World → Prop} {a : Act} {w w' : World} (v : Value) (hi : ops[i]? = some o) (hg : o.guard = none) (hr : (execOp a.eval o).run P w = .ok (.value v) w') (h : K (a.put o.dst v) w') : wpOp P ops Q i K a w :=
  wpOp_at hi hg (by unfold Oper.wp; rw [hr]; exact h)
theorem wpOp_call {i : Nat} {o : Oper} {K : Act → World → Prop} {a : Act} {w : World} {R : Ending → World → Prop} (f : FuncId) (args : Array Value) (hi : ops[i]? = some o) (hg : o.guard = none) (hr : (execOp a.eval o).run P w = .ok (.enter f args) w) (hc : Calls P f args w R)
    (h : ∀ e w', R e w' → ∃ v, e = .returned v ∧ K (a.put o.dst v) w') : wpOp P ops Q i K a w := by
  refine wpOp_at hi hg ?_
  unfold Oper.wp
  rw [hr]
  refine hc.mono fun e w' he => ?_
  obtain ⟨v, rfl, hk⟩ := h e w' he
  exact hk
theorem getD_put {a : Act} {d t : Nat} {v : Value} : (Act.put a (some d) v).tmps.getD t undef = if d = t ∧ t < a.tmps.size then v else a.tmps.getD t undef := by
  by_cases h : d = t
  · subst h
    by_cases h2 : d < a.tmps.size
    · simp [Act.put, h2]
    · simp [Act.put, h2]
  · rw [if_neg (fun e => h e.1)]
    exact put_getD h
theorem listed_set {listed : Array Bool} {i j : Nat} (h : (listed.setIfInBounds i true).getD j false = true) : i = j ∨ listed.getD j false = true := by
  by_cases e : i = j
  · exact Or.inl e
  · rw [getD_set_ne false e] at h; exact Or.inr h
end
end Go.Proofs.YtnbiedijofdjhaaDoor
