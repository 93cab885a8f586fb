/-
  SchemeRoundTrips: two made schemes in one statement, laid in any order.
-/
import Derived.Test.YtnbiedijofdjhaaDoorVN
import Derived.Test.YtnbiedijofdjhaaDoorVO
namespace Go.Proofs.YtnbiedijofdjhaaDoor
open Go.RowKit
open Pl

/-- v is a made scheme, its rules in block b. -/
def MadeAt (base : Nat) (w : World) (b : Nat) (v : Value) : Prop := ∃ (m : Int) (off c : Nat) (rs : List Rl), v = .agg #[.int .i64 m, .int .u8 1, .slice (some ⟨b, off, none⟩) rs.length c] ∧ RlsFit w base b off c rs ∧ validB m 1 rs = true ∧ 2 ≤ rs.length ∧ rs.length ≤ 9 ∧ 1 ≤ m ∧ m ≤ 2
theorem MadeAt.later {base : Nat} {w w' : World} {b : Nat} {v : Value} (h : MadeAt base w b v) (hb : Below w.heap.size w w') : MadeAt base w' b v := by
  obtain ⟨m, off, c, rs, h1, h2, h3⟩ := h
  exact ⟨m, off, c, rs, h1, h2.later hb, h3⟩
theorem MadeAt.block {base : Nat} {w : World} {b : Nat} {v : Value} (h : MadeAt base w b v) : base ≤ b ∧ b < w.heap.size := by
  obtain ⟨m, off, c, rs, h1, h2, h3⟩ := h
  exact ⟨h2.1, h2.2.1⟩
def EE (e : Nat) : Prop := e = 1 ∨ e = 3 ∨ e = 4 ∨ e = 5
/-- What has been laid when the operations in L have been done: 0 and 2 load the raw schemes, 1 and 3 make, 4 and 5 are the variables. -/
structure JS (x : World) (rX rY : Value) (L : Nat → Prop) (w : World) (β : Nat → Nat) (v6 v7 v13 v14 v15 v16 : Value) : Prop where
  below : Below x.heap.size x w
  l0 : L 0 → v13 = rX
  l2 : L 2 → v15 = rY
  bd : ∀ e, EE e → L e → x.heap.size ≤ β e ∧ β e < w.heap.size
  ne : ∀ e e', EE e → EE e' → L e → L e' → e ≠ e' → β e ≠ β e'
  l1 : L 1 → MadeAt x.heap.size w (β 1) v14
  l3 : L 3 → MadeAt x.heap.size w (β 3) v16
  l4 : L 4 → v6 = .pointer (some ⟨β 4, 0, none⟩) ∧ SchBlock w (β 4) (.int .i64 0) (.int .u8 0) (.slice none 0 0)
  l5 : L 5 → v7 = .pointer (some ⟨β 5, 0, none⟩) ∧ SchBlock w (β 5) (.int .i64 0) (.int .u8 0) (.slice none 0 0)
section
variable {x w w' : World} {rX rY : Value} {L L' : Nat → Prop} {β : Nat → Nat} {v6 v7 v13 v14 v15 v16 : Value}
theorem JS.val0 (h : JS x rX rY L w β v6 v7 v13 v14 v15 v16) (hL : ∀ j, L' j → 0 = j ∨ L j) : JS x rX rY L' w β v6 v7 rX v14 v15 v16 := by
  have k : ∀ j, j ≠ 0 → L' j → L j := fun j hj h => (hL j h).resolve_left (fun e => hj e.symm)
  exact ⟨h.below, fun _ => rfl, fun h2 => h.l2 (k 2 (by decide) h2), fun e he h2 => h.bd e he (k e (by rcases he with rfl | rfl | rfl | rfl <;> decide) h2), fun e e' he he' h1 h2 => h.ne e e' he he' (k e (by rcases he with rfl | rfl | rfl | rfl <;> decide) h1) (k e' (by rcases he' with rfl | rfl | rfl | rfl <;> decide) h2),
    fun h2 => h.l1 (k 1 (by decide) h2), fun h2 => h.l3 (k 3 (by decide) h2), fun h2 => h.l4 (k 4 (by decide) h2), fun h2 => h.l5 (k 5 (by decide) h2)⟩
theorem JS.val2 (h : JS x rX rY L w β v6 v7 v13 v14 v15 v16) (hL : ∀ j, L' j → 2 = j ∨ L j) : JS x rX rY L' w β v6 v7 v13 v14 rY v16 := by
  have k : ∀ j, j ≠ 2 → L' j → L j := fun j hj h => (hL j h).resolve_left (fun e => hj e.symm)
  exact ⟨h.below, fun h2 => h.l0 (k 0 (by decide) h2), fun _ => rfl, fun e he h2 => h.bd e he (k e (by rcases he with rfl | rfl | rfl | rfl <;> decide) h2), fun e e' he he' h1 h2 => h.ne e e' he he' (k e (by rcases he with rfl | rfl | rfl | rfl <;> decide) h1) (k e' (by rcases he' with rfl | rfl | rfl | rfl <;> decide) h2),
    fun h2 => h.l1 (k 1 (by decide) h2), fun h2 => h.l3 (k 3 (by decide) h2), fun h2 => h.l4 (k 4 (by decide) h2), fun h2 => h.l5 (k 5 (by decide) h2)⟩
theorem JS.bd' (h : JS x rX rY L w β v6 v7 v13 v14 v15 v16) (e0 b : Nat) (hL : ∀ j, L' j → e0 = j ∨ L j) (hb : Below w.heap.size w w') (h1 : w.heap.size ≤ b) (h2 : b < w'.heap.size) : ∀ e, EE e → L' e → x.heap.size ≤ (if e = e0 then b else β e) ∧ (if e = e0 then b else β e) < w'.heap.size := fun e he hl => by
  have hs := h.below.size
  have hs2 := hb.size
  by_cases hq : e = e0
  · rw [if_pos hq]; omega
  · rw [if_neg hq]
    have := h.bd e he ((hL e hl).resolve_left (fun q => hq q.symm))
    omega
theorem JS.ne' (h : JS x rX rY L w β v6 v7 v13 v14 v15 v16) (e0 b : Nat) (hL : ∀ j, L' j → e0 = j ∨ L j) (h1 : w.heap.size ≤ b) : ∀ e e', EE e → EE e' → L' e → L' e' → e ≠ e' → (if e = e0 then b else β e) ≠ (if e' = e0 then b else β e') := fun e e' he he' hl hl' hne => by
  by_cases hq : e = e0
  · have hq' : ¬ e' = e0 := fun q => hne (hq.trans q.symm)
    rw [if_pos hq, if_neg hq']
    have := h.bd e' he' ((hL e' hl').resolve_left (fun q => hq' q.symm))
    omega
  · by_cases hq' : e' = e0
    · rw [if_neg hq, if_pos hq']
      have := h.bd e he ((hL e hl).resolve_left (fun q => hq q.symm))
      omega
    · rw [if_neg hq, if_neg hq']
      exact h.ne e e' he he' ((hL e hl).resolve_left (fun q => hq q.symm)) ((hL e' hl').resolve_left (fun q => hq' q.symm)) hne
theorem JS.new1 (h : JS x rX rY L w β v6 v7 v13 v14 v15 v16) (b : Nat) (v : Value) (hL : ∀ j, L' j → 1 = j ∨ L j) (hb : Below w.heap.size w w') (h1 : w.heap.size ≤ b) (hm : MadeAt x.heap.size w' b v) : JS x rX rY L' w' (fun e => if e = 1 then b else β e) v6 v7 v13 v v15 v16 := by
  have k : ∀ j, j ≠ 1 → L' j → L j := fun j hj h => (hL j h).resolve_left (fun e => hj e.symm)
  exact ⟨h.below.trans (hb.mono h.below.size), fun h2 => h.l0 (k 0 (by decide) h2), fun h2 => h.l2 (k 2 (by decide) h2), h.bd' 1 b hL hb h1 hm.block.2, h.ne' 1 b hL h1,
    fun _ => hm, fun h2 => (h.l3 (k 3 (by decide) h2)).later hb, fun h2 => ⟨(h.l4 (k 4 (by decide) h2)).1, (h.l4 (k 4 (by decide) h2)).2.below hb⟩, fun h2 => ⟨(h.l5 (k 5 (by decide) h2)).1, (h.l5 (k 5 (by decide) h2)).2.below hb⟩⟩
theorem JS.new3 (h : JS x rX rY L w β v6 v7 v13 v14 v15 v16) (b : Nat) (v : Value) (hL : ∀ j, L' j → 3 = j ∨ L j) (hb : Below w.heap.size w w') (h1 : w.heap.size ≤ b) (hm : MadeAt x.heap.size w' b v) : JS x rX rY L' w' (fun e => if e = 3 then b else β e) v6 v7 v13 v14 v15 v := by
  have k : ∀ j, j ≠ 3 → L' j → L j := fun j hj h => (hL j h).resolve_left (fun e => hj e.symm)
  exact ⟨h.below.trans (hb.mono h.below.size), fun h2 => h.l0 (k 0 (by decide) h2), fun h2 => h.l2 (k 2 (by decide) h2), h.bd' 3 b hL hb h1 hm.block.2, h.ne' 3 b hL h1,
    fun h2 => (h.l1 (k 1 (by decide) h2)).later hb, fun _ => hm, fun h2 => ⟨(h.l4 (k 4 (by decide) h2)).1, (h.l4 (k 4 (by decide) h2)).2.below hb⟩, fun h2 => ⟨(h.l5 (k 5 (by decide) h2)).1, (h.l5 (k 5 (by decide) h2)).2.below hb⟩⟩
theorem JS.new4 (h : JS x rX rY L w β v6 v7 v13 v14 v15 v16) (hL : ∀ j, L' j → 4 = j ∨ L j) : JS x rX rY L' (w.alloc (.cells #[.int .i64 0, .int .u8 0, .slice none 0 0] 24)) (fun e => if e = 4 then w.heap.size else β e) (.pointer (some ⟨w.heap.size, 0, none⟩)) v7 v13 v14 v15 v16 := by
  have k : ∀ j, j ≠ 4 → L' j → L j := fun j hj h => (hL j h).resolve_left (fun e => hj e.symm)
  have hb := (Below.refl w.heap.size w).alloc (Nat.le_refl _) (.cells #[.int .i64 0, .int .u8 0, .slice none 0 0] 24)
  exact ⟨h.below.trans (hb.mono h.below.size), fun h2 => h.l0 (k 0 (by decide) h2), fun h2 => h.l2 (k 2 (by decide) h2), h.bd' 4 _ hL hb (Nat.le_refl _) (by simp), h.ne' 4 _ hL (Nat.le_refl _),
    fun h2 => (h.l1 (k 1 (by decide) h2)).later hb, fun h2 => (h.l3 (k 3 (by decide) h2)).later hb, fun _ => ⟨rfl, SchBlock.new w _ _ _⟩, fun h2 => ⟨(h.l5 (k 5 (by decide) h2)).1, (h.l5 (k 5 (by decide) h2)).2.below hb⟩⟩
theorem JS.new5 (h : JS x rX rY L w β v6 v7 v13 v14 v15 v16) (hL : ∀ j, L' j → 5 = j ∨ L j) : JS x rX rY L' (w.alloc (.cells #[.int .i64 0, .int .u8 0, .slice none 0 0] 24)) (fun e => if e = 5 then w.heap.size else β e) v6 (.pointer (some ⟨w.heap.size, 0, none⟩)) v13 v14 v15 v16 := by
  have k : ∀ j, j ≠ 5 → L' j → L j := fun j hj h => (hL j h).resolve_left (fun e => hj e.symm)
  have hb := (Below.refl w.heap.size w).alloc (Nat.le_refl _) (.cells #[.int .i64 0, .int .u8 0, .slice none 0 0] 24)
  exact ⟨h.below.trans (hb.mono h.below.size), fun h2 => h.l0 (k 0 (by decide) h2), fun h2 => h.l2 (k 2 (by decide) h2), h.bd' 5 _ hL hb (Nat.le_refl _) (by simp), h.ne' 5 _ hL (Nat.le_refl _),
    fun h2 => (h.l1 (k 1 (by decide) h2)).later hb, fun h2 => (h.l3 (k 3 (by decide) h2)).later hb, fun h2 => ⟨(h.l4 (k 4 (by decide) h2)).1, (h.l4 (k 4 (by decide) h2)).2.below hb⟩, fun _ => ⟨rfl, SchBlock.new w _ _ _⟩⟩
end
end Go.Proofs.YtnbiedijofdjhaaDoor
