/-
  Words that are near: plain facts, and how they lie in memory; the order's function.
-/
import Derived.Test.YtadaijepalhohaaAL
import Derived.DeepKeys
namespace Go.Proofs.Ytadaijepalhohaa
open Go.RowKit
open Pl

/-- A word that is near, by its index and distance. -/
structure Fd where
  word : Int
  cost : Int
deriving DecidableEq
def ltF (x y : Fd) : Prop := x.cost < y.cost ∨ (x.cost = y.cost ∧ x.word < y.word)
theorem ltF_trans {x y z : Fd} (h : ltF x y) (k : ltF y z) : ltF x z := by unfold ltF at *; omega
theorem ltF_irrefl (x : Fd) : ¬ ltF x x := by unfold ltF; omega
/-- Two strictly ordered lists of the same elements are equal. -/
theorem sorted_eq : ∀ {l r : List Fd}, l.Pairwise ltF → r.Pairwise ltF → (∀ x, x ∈ l ↔ x ∈ r) → l = r
  | [], [], _, _, _ => rfl
  | [], y :: r, _, _, h => absurd ((h y).2 List.mem_cons_self) (by simp)
  | x :: l, [], _, _, h => absurd ((h x).1 List.mem_cons_self) (by simp)
  | x :: l, y :: r, h1, h2, h => by
    rw [List.pairwise_cons] at h1 h2
    have hxy : x = y := by
      have a1 := (h x).1 List.mem_cons_self
      have a2 := (h y).2 List.mem_cons_self
      rcases List.mem_cons.1 a1 with e | e
      · exact e
      · rcases List.mem_cons.1 a2 with e' | e'
        · exact e'.symm
        · exact absurd (ltF_trans (h1.1 y e') (h2.1 x e)) (ltF_irrefl x)
    subst hxy
    rw [sorted_eq h1.2 h2.2 (fun z => by
      constructor
      · intro hz
        rcases List.mem_cons.1 ((h z).1 (List.mem_cons_of_mem _ hz)) with e | e
        · subst e; exact absurd (h1.1 z hz) (ltF_irrefl z)
        · exact e
      · intro hz
        rcases List.mem_cons.1 ((h z).2 (List.mem_cons_of_mem _ hz)) with e | e
        · subst e; exact absurd (h2.1 z hz) (ltF_irrefl z)
        · exact e)]
def cmpI (x y : Int) : Int := if x < y then -1 else if y < x then 1 else 0
set_option maxHeartbeats 400000 in
theorem isNaN_any (x : Int) (w : World) : Calls Try.prog 36 #[.int .i64 x] w fun e w' => e = .returned (.bool false) ∧ w = w' := by
  have h : (x != x) = false := by simp
  go_enter Try.func36, Try.ntmps36
  go_wp2_with fail
  go_ret
  exact ⟨by simp, rfl⟩
set_option maxHeartbeats 400000 in
theorem Compare_any (x y : Int) (w : World) : Calls Try.prog 28 #[.int .i64 x, .int .i64 y] w fun e w' => e = .returned (.int .i64 (cmpI x y)) ∧ w = w' := by
  have C1 := fun W => isNaN_any x W
  have C2 := fun W => isNaN_any y W
  rcases Int.lt_trichotomy x y with h | h | h
  · have E := Lib.hid (show cmpI x y = -1 by unfold cmpI; rw [if_pos h])
    go_enter Try.func28, Try.ntmps28
    go_wp2_with (first | ((with_reducible refine (C1 _).mono ?_); rintro e w' ⟨rfl, rfl⟩) | ((with_reducible refine (C2 _).mono ?_); rintro e w' ⟨rfl, rfl⟩))
    go_ret
    exact ⟨ret_int E.out.symm, rfl⟩
  · subst h
    have E := Lib.hid (show cmpI x x = 0 by unfold cmpI; rw [if_neg (Int.lt_irrefl x), if_neg (Int.lt_irrefl x)])
    have hn : ¬ x < x := Int.lt_irrefl x
    go_enter Try.func28, Try.ntmps28
    go_wp2_with ((with_reducible refine (C1 _).mono ?_); rintro e w' ⟨rfl, rfl⟩)
    go_ret
    exact ⟨ret_int E.out.symm, rfl⟩
  · have E := Lib.hid (show cmpI x y = 1 by unfold cmpI; rw [if_neg (by omega), if_pos h])
    have hn : ¬ x < y := by omega
    go_enter Try.func28, Try.ntmps28
    go_wp2_with (first | ((with_reducible refine (C1 _).mono ?_); rintro e w' ⟨rfl, rfl⟩) | ((with_reducible refine (C2 _).mono ?_); rintro e w' ⟨rfl, rfl⟩))
    go_ret
    exact ⟨ret_int E.out.symm, rfl⟩
abbrev fdV (x : Fd) : Value := .agg #[.int .i64 x.word, .int .i64 x.cost]
set_option maxHeartbeats 400000 in
theorem near1_any (x y : Fd) (w : World) : Calls Try.prog 27 #[fdV x, fdV y] w fun e w' => e = .returned (.int .i64 (cmpI x.cost y.cost)) ∧ Below w.heap.size w w' := by
  have b1 := (Below.refl w.heap.size w).alloc (Nat.le_refl _) (.cells #[.int .i64 x.word, .int .i64 x.cost] 57)
  have HB := Lib.hid (b1.alloc b1.size (.cells #[.int .i64 y.word, .int .i64 y.cost] 57))
  have X1 := Lib.hid ((Blk.new w 57 [.int .i64 x.word, .int .i64 x.cost]).alloc (.cells #[.int .i64 y.word, .int .i64 y.cost] 57))
  have Y1 := Blk.new (w.alloc (.cells #[.int .i64 x.word, .int .i64 x.cost] 57)) 57 [.int .i64 y.word, .int .i64 y.cost]
  rw [World.size_alloc] at Y1
  have Y1 := Lib.hid Y1
  have C := fun W => Compare_any x.cost y.cost W
  clear b1
  go_enter Try.func27, Try.ntmps27
  go_upto_region 1 with fail
  generalize hw : (w.alloc _).alloc _ = w1 at *
  clear hw
  have q1 := X1.out.cell 1
  have q2 := Y1.out.cell 1
  simp only [List.getElem?_cons_succ, List.getElem?_cons_zero] at q1 q2
  go_wp2_with ((with_reducible refine (C _).mono ?_); rintro e w' ⟨rfl, rfl⟩)
  go_ret
  exact ⟨rfl, HB.out⟩
/-- The block g begins with these words. -/
def FBlk (W : World) (g : Nat) (fs : List Fd) : Prop := ∃ cs, Blk W g 57 cs ∧ fs.length * 2 ≤ cs.length ∧ ∀ i (h : i < fs.length), cs[i * 2]? = some (.int .i64 fs[i].word) ∧ cs[i * 2 + 1]? = some (.int .i64 fs[i].cost)
theorem FBlk.lt {W : World} {g : Nat} {fs : List Fd} (h : FBlk W g fs) : g < W.heap.size := by obtain ⟨_, h, _⟩ := h; exact h.lt
theorem FBlk.below {W W' : World} {g : Nat} {fs : List Fd} (h : FBlk W g fs) (hb : Below W.heap.size W W') : FBlk W' g fs := by
  obtain ⟨cs, h1, h2⟩ := h
  exact ⟨cs, h1.below hb, h2⟩
theorem FBlk.but {W W' : World} {g : Nat} {fs : List Fd} {ex : List Nat} (h : FBlk W g fs) (hb : But ex W W') (hx : g ∉ ex) : FBlk W' g fs := by
  obtain ⟨cs, h1, h2⟩ := h
  exact ⟨cs, h1.but hb hx, h2⟩
theorem FBlk.cells {W : World} {g : Nat} {fs : List Fd} (h : FBlk W g fs) (i : Nat) (hi : i < fs.length) : W.cell? ⟨g, i * 2, none⟩ = some (.int .i64 fs[i].word) ∧ W.cell? ⟨g, i * 2 + 1, none⟩ = some (.int .i64 fs[i].cost) := by
  obtain ⟨cs, h1, h2, h3⟩ := h
  exact ⟨(h1.cell _).trans (h3 i hi).1, (h1.cell _).trans (h3 i hi).2⟩
theorem FBlk.there {W : World} {g : Nat} {fs : List Fd} (h : FBlk W g fs) (i : Nat) (hi : i < fs.length) : W.there g (i * 2) 2 := fun j hj => by
  obtain ⟨cs, h1, h2, h3⟩ := h
  exact ⟨by rw [h1.cell, List.getElem?_eq_getElem (by omega)]; rfl, h1.free _⟩
theorem FBlk.put {W : World} {g : Nat} {fs : List Fd} (h : FBlk W g fs) (i : Nat) (hi : i < fs.length) (x : Fd) : FBlk (W.setCells g (i * 2) [.int .i64 x.word, .int .i64 x.cost]) g (fs.set i x) := by
  obtain ⟨cs, h1, h2, h3⟩ := h
  refine ⟨_, (h1.put (i * 2) (.int .i64 x.word)).put (i * 2 + 1) (.int .i64 x.cost), by simpa using h2, fun k hk => ?_⟩
  rw [List.length_set] at hk
  by_cases e : k = i
  · subst e
    constructor
    · rw [List.getElem?_set_ne (by omega), List.getElem?_set_self (by omega)]; simp
    · rw [List.getElem?_set_self (by rw [List.length_set]; omega)]; simp
  · rw [List.getElem?_set_ne (by omega), List.getElem?_set_ne (by omega), List.getElem?_set_ne (by omega), List.getElem?_set_ne (by omega), List.getElem_set_ne (by omega)]
    exact h3 k hk
theorem But.cells {ex : List Nat} {a w : World} (h : But ex a w) {g : Nat} (hg : g ∈ ex) : ∀ (vs : List Value) (o : Nat), But ex a (w.setCells g o vs) := by
  intro vs
  induction vs generalizing w with
  | nil => intro o; exact h
  | cons v vs ih => intro o; exact ih (h.setCell (p := ⟨g, o, none⟩) hg v) (o + 1)
end Go.Proofs.Ytadaijepalhohaa
