/-
  Regions that draw their order: quiet operations anywhere in it may be taken first, in a stated order; the others are a chain.
-/
import Derived.Test.YtadaijepalhohabDoorTH
namespace Go.Proofs.YtadaijepalhohabDoor
open Go.RowKit

section
variable {P : Program} {ops : Array Oper} {md : Region.Mode} {C : World → Prop} {Q : Exit → Act → World → Prop} {dep : Nat → Bool}
def seqI (md : Region.Mode) (ops : Array Oper) : List Nat → Array Bool → Bool
  | [], listed => (Region.ready md ops listed).isEmpty
  | t :: r, listed => decide (Region.ready md ops listed = [t]) && seqI md ops r (listed.setIfInBounds t true)
def pickB (md : Region.Mode) (ops : Array Oper) (dep : Nat → Bool) (ts : List Nat) : List Nat → Array Bool → Bool
  | [], listed => seqI md ops ts listed
  | i :: r, listed => Region.free md ops listed i && ((Region.ready md ops listed).contains i && (depB md ops (depI md ops i) i && ((List.range ops.size).all (fun j => !dep j || depI md ops i j) && pickB md ops dep ts r (listed.setIfInBounds i true))))
def wpHoistI (P : Program) (ops : Array Oper) (C : World → Prop) (Z : Act → Prop) : List Nat → Act → Prop
  | [], a => Z a
  | i :: r, a => ∃ o v, ops[i]? = some o ∧ (∀ W, C W → (execOp a.eval o).run P W = .ok (.value v) W) ∧ wpHoistI P ops C Z r (a.put o.dst v)
def wpSeqI (P : Program) (ops : Array Oper) (C : World → Prop) (dep : Nat → Bool) (Q : Exit → Act → World → Prop) : List Nat → Act → World → Prop
  | [], a, w => Q .normal a w
  | i :: r, a, w => wpOp P ops Q i (fun a' w' => (dep i = false → C w') ∧ wpSeqI P ops C dep Q r a' w') a w
theorem any_of_seqI : ∀ (ts : List Nat) (listed : Array Bool) (a : Act) (w : World), seqI md ops ts listed = true → wpSeqI P ops C dep Q ts a w → wpAnyC P md ops C dep Q ts.length listed a w
  | [], listed, a, w, hB, h => ⟨by simpa [seqI] using hB, h⟩
  | t :: r, listed, a, w, hB, h => by
    simp only [seqI, Bool.and_eq_true, decide_eq_true_eq] at hB
    refine ⟨fun h1 => (by rw [hB.1] at h1; cases h1), fun i hi => ?_⟩
    rw [hB.1] at hi
    obtain rfl : i = t := by simpa using hi
    exact wpOp_mono (fun a' w' h' => ⟨h'.1, any_of_seqI r _ a' w' hB.2 h'.2⟩) h
theorem any_of_hoistI (hsel : Region.noSelect ops = true) (hgs : ops.all (fun o => o.guard == none) = true) (hQ : ∀ c d v a w, Q (.panic c) (Act.put a d v) w → Q (.panic c) a w) {w : World} (hC : C w) {ts : List Nat} {Z : Act → Prop} (hZ : ∀ a, Z a → wpSeqI P ops C dep Q ts a w) :
    ∀ (is : List Nat) (listed : Array Bool) (a : Act), pickB md ops dep ts is listed = true → HeadInv md ops ops.size listed → wpHoistI P ops C Z is a → wpAnyC P md ops C dep Q (is.length + ts.length) listed a w
  | [], listed, a, hB, _, h => by
    rw [List.length_nil, Nat.zero_add]
    exact any_of_seqI ts listed a w hB (hZ a h)
  | i :: r, listed, a, hB, inv, h => by
    simp only [pickB, Bool.and_eq_true] at hB
    obtain ⟨hf, hr, hd, hm, hB⟩ := hB
    obtain ⟨o, v, ho, hrun, h⟩ := h
    have hi : i < ops.size := (Array.getElem?_eq_some_iff.1 ho).1
    have hr' : i ∈ Region.ready md ops listed := by simpa using hr
    have hgo : o.guard = none := by
      have := Array.all_eq_true.1 hgs i hi
      have e : ops[i]'hi = o := by have h2 := Array.getElem?_eq_getElem (xs := ops) (i := i) hi; rw [ho] at h2; exact (Option.some.inj h2).symm
      rw [e] at this; simpa using this
    rw [List.length_cons, show r.length + 1 + ts.length = (r.length + ts.length) + 1 by omega]
    refine anyC_hoist2 ho hgo (Region.noSelect_spec hsel) (fun listed' inv' hun j hj hjr => ?_) (fun c a w => hQ c _ _ a w) _ _ a w inv (Region.free_spec ho hf) hr' hrun hC (any_of_hoistI hsel hgs hQ hC hZ r _ _ hB (inv.set hr' hi) h)
    rcases Nat.lt_or_ge j ops.size with hjs | hjs
    · have h2 := List.all_eq_true.1 hm j (List.mem_range.2 hjs)
      rw [hj] at h2
      exact depB_not_ready hd inv' hun j (by simpa using h2) hjr
    · obtain ⟨-, o', ho', -⟩ := mem_ready.1 hjr
      rw [Array.getElem?_eq_none hjs] at ho'; cases ho'
/-- **A region that draws its order: the operations 'is' have one value in every world of the class; the others, 'ts', are a chain; those that are not marked keep the class.** -/
theorem wp_region_pick {id : Nat} {a : Act} {w : World} {l : List Oper} (is ts : List Nat) (dep : Nat → Bool) (hm : P.follows .mixedOrders = true) (hsel : Region.noSelect l.toArray = true) (hgs : l.toArray.all (fun o => o.guard == none) = true) (hlen : is.length + ts.length = l.length)
    (hB : pickB .any l.toArray dep ts is (Array.replicate l.length false) = true) (hC : C w.drew) (hQ : ∀ c d v a w, Q (.panic c) (Act.put a d v) w → Q (.panic c) a w)
    (h : wpHoistI P l.toArray C (fun a' => wpSeqI P l.toArray C dep Q ts a' w.drew) is a) : (Code.region id l.toArray true).wp P Q a w := by
  refine wp_region_any hm ?_
  have hs : l.toArray.size = l.length := by simp
  have H := any_of_hoistI (md := .any) (P := P) (Q := Q) (w := w.drew) (dep := dep) hsel hgs hQ hC (ts := ts) (fun _ h => h) is (Array.replicate l.toArray.size false) a (by rw [hs]; exact hB) HeadInv.start h
  rw [hlen, ← hs] at H
  exact any_of_anyC _ _ _ _ H
theorem hoistI_step {Z : Act → Prop} {i : Nat} {r : List Nat} {a : Act} {o : Oper} (v : Value) (ho : ops[i]? = some o) (hr : ∀ W, C W → (execOp a.eval o).run P W = .ok (.value v) W) (h : wpHoistI P ops C Z r (a.put o.dst v)) : wpHoistI P ops C Z (i :: r) a := ⟨o, v, ho, hr, h⟩
theorem hoistI_done {Z : Act → Prop} {a : Act} (h : Z a) : wpHoistI P ops C Z [] a := h
theorem seqI_step {i : Nat} {r : List Nat} {a : Act} {w : World} (h : wpOp P ops Q i (fun a' w' => (dep i = false → C w') ∧ wpSeqI P ops C dep Q r a' w') a w) : wpSeqI P ops C dep Q (i :: r) a w := h
theorem seqI_done {a : Act} {w : World} (h : Q .normal a w) : wpSeqI P ops C dep Q [] a w := h
theorem wpOp_skip {i : Nat} {o : Oper} {K : Act → World → Prop} {a : Act} {w w' : World} (hi : ops[i]? = some o) (hg : o.guard = none) (hr : (execOp a.eval o).run P w = .ok .skip w') (h : K (a.put o.dst undef) w') : wpOp P ops Q i K a w :=
  wpOp_at hi hg (by unfold Oper.wp; rw [hr]; exact h)
/-- The last operations, as a walk has them. -/
theorem seqI_list (ts : List Nat) : ∀ (l : List Oper) (a : Act) (w : World), ts.map (fun t => ops[t]?) = l.map some → (∀ o ∈ l, o.guard = none) → (∀ t ∈ ts, dep t = true) → wpList P ops Q l a w → wpSeqI P ops C dep Q ts a w := by
  induction ts with
  | nil =>
    intro l a w hm _ _ h
    cases l with
    | nil => exact h
    | cons o l => cases hm
  | cons t r ih =>
    intro l a w hm hg hd h
    cases l with
    | nil => cases hm
    | cons o l =>
      have h1 : ops[t]? = some o := by have := congrArg List.head? hm; simpa using this
      have h2 : r.map (fun t => ops[t]?) = l.map some := by have := congrArg List.tail hm; simpa using this
      have hgo := hg o (List.mem_cons_self ..)
      have hdt := hd t (List.mem_cons_self ..)
      have ih' := fun a' w' hh => ih l a' w' h2 (fun o ho => hg o (List.mem_cons_of_mem _ ho)) (fun t ht => hd t (List.mem_cons_of_mem _ ht)) hh
      refine seqI_step ?_
      unfold wpOp
      simp only [h1]
      rw [if_pos (by simp [Region.wanted, hgo])]
      rw [wpList, if_pos (by simp [Region.wanted, hgo])] at h
      refine h.imp (fun h => Oper.wp_mono (fun a' w' hh => ⟨fun hk => ?_, ih' a' w' hh⟩) h) id
      rw [hdt] at hk; cases hk
theorem seqI_tail (n : Nat) (ts : List Nat) {a : Act} {w : World} (hm : ts.map (fun t => ops[t]?) = (ops.toList.drop n).map some) (hg : (ops.toList.drop n).all (fun o => o.guard == none) = true) (hd : ts.all dep = true) (h : wpList P ops Q (ops.toList.drop n) a w) : wpSeqI P ops C dep Q ts a w :=
  seqI_list ts _ a w hm (fun o ho => by simpa using List.all_eq_true.1 hg o ho) (fun t ht => List.all_eq_true.1 hd t ht) h
end
end Go.Proofs.YtadaijepalhohabDoor
