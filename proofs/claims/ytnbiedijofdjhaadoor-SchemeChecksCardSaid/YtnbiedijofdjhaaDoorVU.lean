/-
  SchemeOrders: append(append([]api.Rule{}, s.Rules...), r), laid in any order.
-/
import Derived.Test.YtnbiedijofdjhaaDoorVM
import Derived.Test.YtnbiedijofdjhaaDoorVO
namespace Go.Proofs.YtnbiedijofdjhaaDoor
open Go.RowKit
open Pl

/-- What has been laid when the operations in L have been done: 0 the empty list, 1 and 2 the rules loaded, 3 their copy, 4 the further rule loaded, 5 the list of it alone. -/
structure JO (x : World) (rs : List Rl) (y : Rl) (V30 V31 : Value) (L : Nat → Prop) (w : World) (β0 β3 c3 β5 : Nat) (v29 v30 v31 v32 v33 v34 : Value) : Prop where
  below : Below x.heap.size x w
  l0 : L 0 → v29 = .slice (some ⟨β0, 0, none⟩) 0 0 ∧ x.heap.size ≤ β0 ∧ β0 < w.heap.size
  o0 : L 0 → ¬ L 3 → w.ownsRow x.heap.size 29 5 (.slice (some ⟨β0, 0, none⟩) 0 0) 0 []
  l1 : L 1 → v30 = V30
  l2 : L 2 → v31 = V31
  l3 : L 3 → v32 = .slice (some ⟨β3, 0, none⟩) rs.length c3 ∧ RlsOwn w x.heap.size (.slice (some ⟨β3, 0, none⟩) rs.length c3) rs
  l4 : L 4 → v33 = rlV y
  l5 : L 5 → v34 = .slice (some ⟨β5, 0, none⟩) 1 1 ∧ w.heap[β5]? = some (.cells (rlCells y).toArray 29 (0, 0)) ∧ x.heap.size ≤ β5
  n50 : L 5 → L 0 → ¬ L 3 → β5 ≠ β0
  n53 : L 5 → L 3 → β5 ≠ β3
section
variable {x w w' : World} {rs : List Rl} {y : Rl} {V30 V31 : Value} {L L' : Nat → Prop} {β0 β3 c3 β5 : Nat} {v29 v30 v31 v32 v33 v34 : Value}
theorem JO.val1 (h : JO x rs y V30 V31 L w β0 β3 c3 β5 v29 v30 v31 v32 v33 v34) (hL : ∀ j, L' j → 1 = j ∨ L j) (hM : ∀ j, L j → L' j) : JO x rs y V30 V31 L' w β0 β3 c3 β5 v29 V30 v31 v32 v33 v34 := by
  have k : ∀ j, j ≠ 1 → L' j → L j := fun j hj h => (hL j h).resolve_left (fun e => hj e.symm)
  exact ⟨h.below, fun a => h.l0 (k 0 (by decide) a), fun a b => h.o0 (k 0 (by decide) a) (fun q => b (hM 3 q)), fun _ => rfl, fun a => h.l2 (k 2 (by decide) a), fun a => h.l3 (k 3 (by decide) a), fun a => h.l4 (k 4 (by decide) a), fun a => h.l5 (k 5 (by decide) a), fun a b c => h.n50 (k 5 (by decide) a) (k 0 (by decide) b) (fun q => c (hM 3 q)), fun a b => h.n53 (k 5 (by decide) a) (k 3 (by decide) b)⟩
theorem JO.val2 (h : JO x rs y V30 V31 L w β0 β3 c3 β5 v29 v30 v31 v32 v33 v34) (hL : ∀ j, L' j → 2 = j ∨ L j) (hM : ∀ j, L j → L' j) : JO x rs y V30 V31 L' w β0 β3 c3 β5 v29 v30 V31 v32 v33 v34 := by
  have k : ∀ j, j ≠ 2 → L' j → L j := fun j hj h => (hL j h).resolve_left (fun e => hj e.symm)
  exact ⟨h.below, fun a => h.l0 (k 0 (by decide) a), fun a b => h.o0 (k 0 (by decide) a) (fun q => b (hM 3 q)), fun a => h.l1 (k 1 (by decide) a), fun _ => rfl, fun a => h.l3 (k 3 (by decide) a), fun a => h.l4 (k 4 (by decide) a), fun a => h.l5 (k 5 (by decide) a), fun a b c => h.n50 (k 5 (by decide) a) (k 0 (by decide) b) (fun q => c (hM 3 q)), fun a b => h.n53 (k 5 (by decide) a) (k 3 (by decide) b)⟩
theorem JO.val4 (h : JO x rs y V30 V31 L w β0 β3 c3 β5 v29 v30 v31 v32 v33 v34) (hL : ∀ j, L' j → 4 = j ∨ L j) (hM : ∀ j, L j → L' j) : JO x rs y V30 V31 L' w β0 β3 c3 β5 v29 v30 v31 v32 (rlV y) v34 := by
  have k : ∀ j, j ≠ 4 → L' j → L j := fun j hj h => (hL j h).resolve_left (fun e => hj e.symm)
  exact ⟨h.below, fun a => h.l0 (k 0 (by decide) a), fun a b => h.o0 (k 0 (by decide) a) (fun q => b (hM 3 q)), fun a => h.l1 (k 1 (by decide) a), fun a => h.l2 (k 2 (by decide) a), fun a => h.l3 (k 3 (by decide) a), fun _ => rfl, fun a => h.l5 (k 5 (by decide) a), fun a b c => h.n50 (k 5 (by decide) a) (k 0 (by decide) b) (fun q => c (hM 3 q)), fun a b => h.n53 (k 5 (by decide) a) (k 3 (by decide) b)⟩
theorem JO.new0 (h : JO x rs y V30 V31 L w β0 β3 c3 β5 v29 v30 v31 v32 v33 v34) (hL : ∀ j, L' j → 0 = j ∨ L j) : JO x rs y V30 V31 L' (w.alloc (.cells #[] 29)) w.heap.size β3 c3 β5 (.slice (some ⟨w.heap.size, 0, none⟩) 0 0) v30 v31 v32 v33 v34 := by
  have k : ∀ j, j ≠ 0 → L' j → L j := fun j hj h => (hL j h).resolve_left (fun e => hj e.symm)
  have hb := (Below.refl w.heap.size w).alloc (Nat.le_refl _) (.cells #[] 29)
  have hs := h.below.size
  exact ⟨h.below.trans (hb.mono hs), fun _ => ⟨rfl, hs, by simp⟩, fun _ _ => World.ownsRow_made w #[] 0 hs (by unfold maxLen; omega) rfl, fun a => h.l1 (k 1 (by decide) a), fun a => h.l2 (k 2 (by decide) a), fun a => ⟨(h.l3 (k 3 (by decide) a)).1, (h.l3 (k 3 (by decide) a)).2.later hb⟩, fun a => h.l4 (k 4 (by decide) a),
    fun a => ⟨(h.l5 (k 5 (by decide) a)).1, by rw [hb.block β5 (lt_of_heap (h.l5 (k 5 (by decide) a)).2.1)]; exact (h.l5 (k 5 (by decide) a)).2.1, (h.l5 (k 5 (by decide) a)).2.2⟩, fun a _ _ => by have := lt_of_heap (h.l5 (k 5 (by decide) a)).2.1; omega, fun a b => h.n53 (k 5 (by decide) a) (k 3 (by decide) b)⟩
theorem JO.new5 (h : JO x rs y V30 V31 L w β0 β3 c3 β5 v29 v30 v31 v32 v33 v34) (hL : ∀ j, L' j → 5 = j ∨ L j) (hM : ∀ j, L j → L' j) : JO x rs y V30 V31 L' (w.alloc (.cells (rlCells y).toArray 29)) β0 β3 c3 w.heap.size v29 v30 v31 v32 v33 (.slice (some ⟨w.heap.size, 0, none⟩) 1 1) := by
  have k : ∀ j, j ≠ 5 → L' j → L j := fun j hj h => (hL j h).resolve_left (fun e => hj e.symm)
  have hb := (Below.refl w.heap.size w).alloc (Nat.le_refl _) (.cells (rlCells y).toArray 29)
  have hs := h.below.size
  exact ⟨h.below.trans (hb.mono hs), fun a => ⟨(h.l0 (k 0 (by decide) a)).1, (h.l0 (k 0 (by decide) a)).2.1, Nat.lt_of_lt_of_le (h.l0 (k 0 (by decide) a)).2.2 hb.size⟩, fun a b => World.ownsRow.alloc (h.o0 (k 0 (by decide) a) (fun q => b (hM 3 q))) _, fun a => h.l1 (k 1 (by decide) a), fun a => h.l2 (k 2 (by decide) a), fun a => ⟨(h.l3 (k 3 (by decide) a)).1, (h.l3 (k 3 (by decide) a)).2.later hb⟩, fun a => h.l4 (k 4 (by decide) a),
    fun _ => ⟨rfl, heap_alloc_new w _, hs⟩, fun _ b _ => by have := (h.l0 (k 0 (by decide) b)).2.2; omega, fun _ b => by have := (h.l3 (k 3 (by decide) b)).2.block.2; omega⟩
theorem JO.app3 (h : JO x rs y V30 V31 L w β0 β3 c3 β5 v29 v30 v31 v32 v33 v34) (hL : ∀ j, L' j → 3 = j ∨ L j) (h3 : L' 3) (h0 : L 0) (hn3 : ¬ L 3) {g cap : Nat} (ho : RlsOwn w' x.heap.size (.slice (some ⟨g, 0, none⟩) rs.length cap) rs) (hg : w.grownBy w' (some β0)) (hat : g = β0 ∨ w.heap.size ≤ g) : JO x rs y V30 V31 L' w' β0 g cap β5 v29 v30 v31 (.slice (some ⟨g, 0, none⟩) rs.length cap) v33 v34 := by
  have k : ∀ j, j ≠ 3 → L' j → L j := fun j hj h => (hL j h).resolve_left (fun e => hj e.symm)
  have hs := h.below.size
  have hb0 := h.l0 h0
  exact ⟨h.below.grown hg hs (fun kx hk => by simp at hk; omega), fun a => ⟨hb0.1, hb0.2.1, Nat.lt_of_lt_of_le hb0.2.2 hg.size⟩, fun _ b => absurd h3 b, fun a => h.l1 (k 1 (by decide) a), fun a => h.l2 (k 2 (by decide) a), fun _ => ⟨rfl, ho⟩, fun a => h.l4 (k 4 (by decide) a),
    fun a => ⟨(h.l5 (k 5 (by decide) a)).1, by rw [hg.block β5 (lt_of_heap (h.l5 (k 5 (by decide) a)).2.1) (by have := h.n50 (k 5 (by decide) a) h0 hn3; simp; omega)]; exact (h.l5 (k 5 (by decide) a)).2.1, (h.l5 (k 5 (by decide) a)).2.2⟩, fun _ _ c => absurd h3 c, fun a _ => by
      have h1 := lt_of_heap (h.l5 (k 5 (by decide) a)).2.1
      have h2 := h.n50 (k 5 (by decide) a) h0 hn3
      rcases hat with q | q <;> omega⟩
end
end Go.Proofs.YtnbiedijofdjhaaDoor
