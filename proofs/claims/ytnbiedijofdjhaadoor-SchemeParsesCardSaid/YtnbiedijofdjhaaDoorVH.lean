/-
  Regions that draw their order: a head of operations that each have one value in every world of a class, in any order and as late as they like; a chain behind them, which may begin before they are through.
-/
import Derived.Test.YtnbiedijofdjhaaDoorSV
namespace Go.Proofs.YtnbiedijofdjhaaDoor
open Go.RowKit

section
variable {P : Program} {ops : Array Oper} {md : Region.Mode} {C : World → Prop} {Q : Exit → Act → World → Prop}
def listedTo (size : Nat) : Nat → Array Bool
  | 0 => Array.replicate size false
  | k + 1 => (listedTo size k).setIfInBounds k true
theorem listedTo_size (size k : Nat) : (listedTo size k).size = size := by
  induction k with
  | zero => simp [listedTo]
  | succ k ih => simp [listedTo, ih]
theorem listedTo_inv {n : Nat} (hr : ∀ k, k < n → k ∈ Region.ready md ops (listedTo ops.size k)) : ∀ k, k ≤ n → k ≤ ops.size → HeadInv md ops ops.size (listedTo ops.size k)
  | 0, _, _ => HeadInv.start
  | k + 1, h, h2 => (listedTo_inv hr k (by omega) (by omega)).set (hr k (by omega)) (by omega)
/-- What comes behind operation i, directly or by way of others. -/
def behind (md : Region.Mode) (ops : Array Oper) (i : Nat) : List Nat :=
  (List.range ops.size).foldl (fun acc j => if acc.any (fun k => decide (k < j) && Region.waitsFor md ops j k) then acc ++ [j] else acc) [i]
def depI (md : Region.Mode) (ops : Array Oper) (i : Nat) (j : Nat) : Bool := j != i && (behind md ops i).contains j
def hoistB (md : Region.Mode) (ops : Array Oper) (n m : Nat) : Bool :=
  Region.noSelect ops && (ops.all (fun o => o.guard == none) && (decide (n ≤ m) && (decide (m ≤ ops.size) && ((List.range n).all (fun i => Region.free md ops (listedTo ops.size i) i && ((Region.ready md ops (listedTo ops.size i)).contains i &&
    (depB md ops (depI md ops i) i && (List.range ops.size).all (fun j => decide (j < m) || depI md ops i j)))) &&
      Region.seqB md ops (ops.size - n) n (listedTo ops.size n)))))
theorem depB_not_ready {dep : Nat → Bool} {i : Nat} (hd : depB md ops dep i = true) {listed : Array Bool} (inv : HeadInv md ops ops.size listed) (hun : listed.getD i false = false) (j : Nat) (h : dep j = true) : j ∉ Region.ready md ops listed := (dep_not_ready hd inv hun j h).2
/-- **An operation whose value every world of the class gives may be taken first**: what is marked never comes before it. -/
theorem anyC_hoist2 {dep : Nat → Bool} {i : Nat} {oi : Oper} {v : Value} (hi : ops[i]? = some oi) (hg : oi.guard = none) (hsel : ∀ (j : Nat) (o : Oper) cs b, ops[j]? = some o → o.op ≠ .select cs b)
    (hd : ∀ listed, HeadInv md ops ops.size listed → listed.getD i false = false → ∀ j, dep j = true → j ∉ Region.ready md ops listed) (hQ : ∀ c a w, Q (.panic c) (a.put oi.dst v) w → Q (.panic c) a w) :
    ∀ (f : Nat) (listed : Array Bool) (a : Act) (w : World), HeadInv md ops ops.size listed →
      (∀ j oj, ops[j]? = some oj → j ≠ i → listed.getD j true = false → (∀ e ∈ oj.after, Region.binds md e = true → e.on ≠ i) → oi.apart ops oj = true) →
      i ∈ Region.ready md ops listed → (∀ W, C W → (execOp a.eval oi).run P W = .ok (.value v) W) → C w →
      wpAnyC P md ops C dep Q f (listed.setIfInBounds i true) (a.put oi.dst v) w → wpAnyC P md ops C dep Q (f + 1) listed a w := by
  intro f
  induction f with
  | zero =>
    intro listed a w inv _ hr hrun hC H
    refine ⟨fun h => (by rw [h] at hr; cases hr), fun j hj => ?_⟩
    by_cases hji : j = i
    · subst hji
      unfold wpOp
      simp only [hi]
      rw [if_pos (by simp [Region.wanted, hg])]
      left
      unfold Oper.wp
      rw [hrun w hC]
      exact ⟨fun _ => hC, H⟩
    · have := ready_mono hj hji
      rw [H.1] at this
      cases this
  | succ f ih =>
    intro listed a w inv hfree hr hrun hC H
    have hun := (mem_ready.1 hr).1
    refine ⟨fun h => (by rw [h] at hr; cases hr), fun j hj => ?_⟩
    by_cases hji : j = i
    · subst hji
      unfold wpOp
      simp only [hi]
      rw [if_pos (by simp [Region.wanted, hg])]
      left
      unfold Oper.wp
      rw [hrun w hC]
      exact ⟨fun _ => hC, H⟩
    · have h1 := H.2 j (ready_mono hj hji)
      obtain ⟨hjun, oj, hoj, hall⟩ := mem_ready.1 hj
      have hnot : ∀ e ∈ oj.after, Region.binds md e = true → e.on ≠ i := fun e he hb heq => by
        have h1 := hall e he hb
        rw [heq, getD_both hun] at h1
        cases h1
      have hdj : dep j = false := by
        cases h : dep j with
        | false => rfl
        | true => exact absurd hj (hd listed inv (getD_both hun) j h)
      have h2 := wpOp_put_run hoj (hfree j oj hoj hji hjun hnot) (fun cs b => hsel i oi cs b hi) (fun cs b => hsel j oj cs b hoj) hQ h1
      refine wpOp_mono (fun a' w' h3 => ⟨h3.2.1, ?_⟩) h2
      refine ih (listed.setIfInBounds j true) a' w' (inv.set hj (Array.getElem?_eq_some_iff.1 hoj).1) (fun k ok hk hki hun' hno => ?_) (ready_mono hr (Ne.symm hji)) (fun W hW => by rw [h3.1]; exact hrun W hW) (h3.2.1 hdj) ?_
      · refine hfree k ok hk hki ?_ hno
        by_cases hjk : j = k
        · subst hjk; exact hjun
        · rw [getD_set_ne true hjk] at hun'; exact hun'
      · rw [Array.setIfInBounds_comm _ _ hji]
        exact h3.2.2
/-- The head in the text's order. -/
def wpHoist (P : Program) (C : World → Prop) (Z : Act → Prop) : List Oper → Act → Prop
  | [], a => Z a
  | o :: rest, a => ∃ v, (∀ W, C W → (execOp a.eval o).run P W = .ok (.value v) W) ∧ wpHoist P C Z rest (a.put o.dst v)
theorem wpHoist_step {Z : Act → Prop} {o : Oper} {rest : List Oper} {a : Act} (h : ∀ K : Act → Prop, (∀ a, wpHoist P C Z rest a → K a) → ∃ v, (∀ W, C W → (execOp a.eval o).run P W = .ok (.value v) W) ∧ K (a.put o.dst v)) : wpHoist P C Z (o :: rest) a := h _ fun _ h => h
theorem wpHoist_nil {Z : Act → Prop} {a : Act} (h : Z a) : wpHoist P C Z [] a := h
theorem hoists {n m : Nat} (hB : hoistB md ops n m = true) (hQ : ∀ c d v a w, Q (.panic c) (Act.put a d v) w → Q (.panic c) a w) {w : World} (hC : C w) {Z : Act → Prop}
    (hZ : ∀ a, Z a → wpAnyC P md ops C (fun j => decide (m ≤ j)) Q (ops.size - n) (listedTo ops.size n) a w) :
    ∀ (l : List Oper) (k : Nat) (a : Act), k + l.length = n → (∀ j, j < l.length → l[j]? = ops[k + j]?) → wpHoist P C Z l a → wpAnyC P md ops C (fun j => decide (m ≤ j)) Q (ops.size - k) (listedTo ops.size k) a w := by
  simp only [hoistB, Bool.and_eq_true, decide_eq_true_eq] at hB
  obtain ⟨hsel, hgs, hnm, hms, hall, hseq⟩ := hB
  have hget : ∀ i, i < n → Region.free md ops (listedTo ops.size i) i = true ∧ i ∈ Region.ready md ops (listedTo ops.size i) ∧ depB md ops (depI md ops i) i = true ∧ ∀ j, j < ops.size → m ≤ j → depI md ops i j = true := fun i hi => by
    have h := List.all_eq_true.1 hall i (List.mem_range.2 hi)
    simp only [Bool.and_eq_true] at h
    refine ⟨h.1, by simpa using h.2.1, h.2.2.1, fun j hj hmj => ?_⟩
    have h2 := List.all_eq_true.1 h.2.2.2 j (List.mem_range.2 hj)
    simp only [Bool.or_eq_true, decide_eq_true_eq] at h2
    rcases h2 with h2 | h2
    · omega
    · exact h2
  intro l
  induction l with
  | nil =>
    intro k a hk _ h
    obtain rfl : k = n := by simpa using hk
    exact hZ a h
  | cons o l ih =>
    intro k a hk hl h
    have hkn : k < n := by simp at hk; omega
    obtain ⟨v, hrun, h⟩ := h
    have hok : ops[k]? = some o := by have := hl 0 (by simp); simpa using this.symm
    have hgo : o.guard = none := by
      have := Array.all_eq_true.1 hgs k (by omega)
      have e : ops[k]'(by omega) = o := by have h2 := Array.getElem?_eq_getElem (xs := ops) (i := k) (by omega); rw [hok] at h2; exact (Option.some.inj h2).symm
      rw [e] at this; simpa using this
    obtain ⟨hf, hr, hd, hm2⟩ := hget k hkn
    have inv := listedTo_inv (n := n) (fun i hi => (hget i hi).2.1) k (by omega) (by omega)
    have e : ops.size - k = (ops.size - (k + 1)) + 1 := by omega
    rw [e]
    refine anyC_hoist2 hok hgo (Region.noSelect_spec hsel) (fun listed inv hun j hj hjr => ?_) (fun c a w => hQ c _ _ a w) _ _ a w inv (Region.free_spec hok hf) hr hrun hC (ih (k + 1) (a.put o.dst v) (by simp at hk; omega) (fun j hj => by have := hl (j + 1) (by simp; omega); simpa [Nat.add_assoc, Nat.add_comm 1 j] using this) h)
    rcases Nat.lt_or_ge j ops.size with hjs | hjs
    · exact depB_not_ready hd inv hun j (hm2 j hjs (of_decide_eq_true hj)) hjr
    · obtain ⟨-, o', ho', -⟩ := mem_ready.1 hjr
      rw [Array.getElem?_eq_none hjs] at ho'; cases ho'
/-- **A region that draws its order: n operations whose values every world of the class gives, a chain behind them; of the chain, what stands before operation m keeps the class.** -/
theorem wp_region_hoist {id : Nat} {a : Act} {w : World} {l : List Oper} (n m : Nat) (hm : P.follows .mixedOrders = true) (hB : hoistB .any l.toArray n m = true) (hC : C w.drew) (hQ : ∀ c d v a w, Q (.panic c) (Act.put a d v) w → Q (.panic c) a w)
    (h : wpHoist P C (fun a' => wpListC P l.toArray C (fun j => decide (m ≤ j)) Q (l.drop n) n a' w.drew) (l.take n) a) : (Code.region id l.toArray true).wp P Q a w := by
  have hB' := hB
  simp only [hoistB, Bool.and_eq_true, decide_eq_true_eq] at hB'
  obtain ⟨hsel, hgs, hnm, hms, hall, hseq⟩ := hB'
  have hsz : l.toArray.size = l.length := by simp
  have hgl : ∀ o ∈ l, o.guard = none := fun o ho => by
    obtain ⟨i, hi, rfl⟩ := List.getElem_of_mem ho
    have := Array.all_eq_true.1 hgs i (by simpa using hi)
    simpa using this
  refine wp_region_any hm ?_
  have H := hoists (P := P) (Q := Q) (w := w.drew) hB hQ hC (Z := fun a' => wpListC P l.toArray C (fun j => decide (m ≤ j)) Q (l.drop n) n a' w.drew) (fun a' h' => by
    have e : l.toArray.size - n = (l.drop n).length := by simp
    rw [e] at hseq ⊢
    exact anyC_of_list (l.drop n) n _ a' w.drew (fun j => by simp) (fun o ho => hgl o (List.mem_of_mem_drop ho)) hseq h') (l.take n) 0 a (by simp; omega) (fun j hj => by
      have hj' : j < n := by simp at hj; omega
      simp [hj']) h
  exact any_of_anyC _ _ _ _ H
end
end Go.Proofs.YtnbiedijofdjhaaDoor
