/-
  The deferred closure of readScheme.
-/
import Derived.Test.YtnbiedijofdjhaaDoorSN
import Derived.Defers
import Derived.Recover
import Derived.Laws.Pointers
namespace Go.Proofs.YtnbiedijofdjhaaDoor
open Go.RowKit
open Pl

/-- The block of an error that a function laid. -/
def ErBlock (W : World) (b : Nat) (x : Int) : Prop := W.heap[b]? = some (.cells #[.int .i64 x] 33 (0, 0))
theorem ErBlock.below {W W' : World} {b : Nat} {x : Int} (h : ErBlock W b x) (hb : Below W.heap.size W W') : ErBlock W' b x := by
  have hlt := lt_of_heap h
  unfold ErBlock at h ⊢; rw [hb.block b hlt]; exact h
theorem ErBlock.cell {W : World} {b : Nat} {x : Int} (h : ErBlock W b x) : W.cell? ⟨b, 0, none⟩ = some (.int .i64 x) ∧ W.frozen? ⟨b, 0, none⟩ = false := by
  unfold ErBlock at h
  exact ⟨by simp [World.cell?, h], by simp [World.frozen?, h]⟩
theorem ErBlock.kept {W W' : World} {b b' : Nat} {x : Int} (h : ErBlock W b x) (hg : W.grownBy W' (some b')) (hne : b' ≠ b) : ErBlock W' b x := by
  have hlt := lt_of_heap h
  unfold ErBlock at h ⊢; rw [hg.block b hlt (fun e => hne (Option.some.inj e).symm)]; exact h
theorem SchBlock.setCell {W : World} {b b' : Nat} {c0 c1 c2 u : Value} (h : SchBlock W b c0 c1 c2) (hne : b' ≠ b) : SchBlock (W.setCell ⟨b', 0, none⟩ u) b c0 c1 c2 := by
  unfold SchBlock at h ⊢
  simp only [World.setCell, Array.getElem?_modify, if_neg hne]; exact h
theorem SchBlock.lt {W : World} {b : Nat} {c0 c1 c2 : Value} (h : SchBlock W b c0 c1 c2) : b < W.heap.size := lt_of_heap h
theorem ErBlock.lt {W : World} {b : Nat} {x : Int} (h : ErBlock W b x) : b < W.heap.size := lt_of_heap h

set_option maxHeartbeats 400000 in
set_option maxRecDepth 100000 in
theorem catch_p (base b b2 : Nat) (c0 c1 c2 : Value) (x : Int) (w0 W : World) (hs : SchBlock W b c0 c1 c2) (he : ErBlock W b2 x) (hne : b ≠ b2) (h1 : base ≤ b) (h2 : base ≤ b2) (hb : Below base w0 W) :
    CallsD Tryd.prog 87 #[.pointer (some ⟨b, 0, none⟩), .pointer (some ⟨b2, 0, none⟩)] (.panicking pcF) W fun e u' w' =>
      e = .returned (.tuple #[]) ∧ u' = .panicking [{ v := .iface 33 (.int .i64 3), recovered := true }] ∧ SchBlock w' b (.int .i64 0) (.int .u8 0) (.slice none 0 0) ∧ w'.cell? ⟨b2, 0, none⟩ = some (.int .i64 3) ∧ Below base w0 w' := by
  refine callsD_of_wpS Tryd.func87 rfl fun c₀ cs hu => ?_
  apply wpS_seq
  apply wpS_region
  simp [wpOpsS, go_sem, recoverD, hu, Tryd.ntmps87, Exit.thenS]
  refine wpS_cond (t := true) (by simp [Act.eval, Array.replicate]) ?_
  simp only [if_true]
  refine wpS_of_wp ?_
  show (Code.region 1 _ false).wp _ _ { tmps := #[.pointer (some ⟨b, 0, none⟩), .pointer (some ⟨b2, 0, none⟩), .iface 33 (.int .i64 3), .bool true, undef], defers := [] } W
  go_wp2_with (first | (refine wpList_store_sch rfl _ _ rfl _ _ _ _ hs rfl _ _ _ _ _ rfl ?_; intro W' hB' hg' hs'; obtain ⟨e1, e2⟩ := (he.kept hg' hne).cell))
  refine ⟨rfl, _, rfl, _, by simp [results, Tryd.results87], rfl, rfl, hB'.setCell (fun e => hne e.symm), by simp [go_sem, e1], (hb.grown hg' (Nat.le_trans h1 (Nat.le_of_lt hs.lt)) (by simp; exact h1)).setCell h2 _⟩

set_option maxHeartbeats 400000 in
theorem catch_i (b b2 : Nat) (W : World) :
    CallsD Tryd.prog 87 #[.pointer (some ⟨b, 0, none⟩), .pointer (some ⟨b2, 0, none⟩)] .returning W fun e u' w' =>
      e = .returned (.tuple #[]) ∧ u' = .returning ∧ w' = W := by
  refine callsD_of_wpS Tryd.func87 rfl fun c₀ cs hu => ?_
  apply wpS_seq
  apply wpS_region
  simp [wpOpsS, go_sem, recoverD, hu, Tryd.ntmps87, Exit.thenS]
  refine wpS_cond (t := false) (by simp [Act.eval, Array.replicate]) ?_
  simp only [Bool.false_eq_true, if_false]
  refine wpS_of_wp (wp_skip ?_)
  cases c₀
  simp_all [bodyPostS, results, Tryd.results87]
set_option maxHeartbeats 400000 in
/-- The door where the body has panicked: the closure recovers, the zero scheme and the error are handed back. -/
theorem door_p {R : Ending → World → Prop} {tmps : Array Value} {base b b2 : Nat} {w0 W : World} {c0 c1 c2 : Value} {x : Int} (n : Int)
    (h2 : tmps.getD 2 undef = .pointer (some ⟨b, 0, none⟩)) (h3 : tmps.getD 3 undef = .int .i64 n) (h4 : tmps.getD 4 undef = .pointer (some ⟨b2, 0, none⟩))
    (hs : SchBlock W b c0 c1 c2) (he : ErBlock W b2 x) (hne : b ≠ b2) (h1 : base ≤ b) (hb2 : base ≤ b2) (hb : Below base w0 W)
    (hR : ∀ w', Below base w0 w' → R (.returned (.tuple #[.agg #[.int .i64 0, .int .u8 0, .slice none 0 0], .int .i64 n, .int .i64 3])) w') :
    bodyPostD Tryd.prog Tryd.f63 R (.panic pcF) { tmps := tmps, defers := [{ target := .fn (.func 87) #[.pointer (some ⟨b, 0, none⟩), .pointer (some ⟨b2, 0, none⟩)], args := #[] }] } W := by
  refine leaves_cons (f := 87) (args := #[.pointer (some ⟨b, 0, none⟩), .pointer (some ⟨b2, 0, none⟩)]) (by simp) (by simp [go_sem]) ?_
  refine (catch_p base b b2 c0 c1 c2 x w0 W hs he hne h1 hb2 hb).mono ?_
  rintro e u' w' ⟨rfl, rfl, hs', he', hb'⟩
  have e2 : tmps[2]?.getD undef = .pointer (some ⟨b, 0, none⟩) := by simpa using h2
  have e3 : tmps[3]?.getD undef = .int .i64 n := by simpa using h3
  have e4 : tmps[4]?.getD undef = .pointer (some ⟨b2, 0, none⟩) := by simpa using h4
  obtain ⟨s0, s1, s2⟩ := SchBlock.cells hs'
  simp [Leaves, settle, results, Tryd.results63, go_sem, e2, e3, e4, asAddr, s0, s1, s2, he']
  exact hR _ hb'
set_option maxHeartbeats 400000 in
/-- The door where the body has returned: what was read, and no error. -/
theorem door_r {R : Ending → World → Prop} {tmps : Array Value} {b b2 : Nat} {W : World} {c0 c1 c2 : Value} {x : Int} (n : Int)
    (h2 : tmps.getD 2 undef = .pointer (some ⟨b, 0, none⟩)) (h3 : tmps.getD 3 undef = .int .i64 n) (h4 : tmps.getD 4 undef = .pointer (some ⟨b2, 0, none⟩))
    (hs : SchBlock W b c0 c1 c2) (he : W.cell? ⟨b2, 0, none⟩ = some (.int .i64 x))
    (hR : R (.returned (.tuple #[.agg #[c0, c1, c2], .int .i64 n, .int .i64 x])) W) :
    bodyPostD Tryd.prog Tryd.f63 R .ret { tmps := tmps, defers := [{ target := .fn (.func 87) #[.pointer (some ⟨b, 0, none⟩), .pointer (some ⟨b2, 0, none⟩)], args := #[] }] } W := by
  refine leaves_cons (f := 87) (args := #[.pointer (some ⟨b, 0, none⟩), .pointer (some ⟨b2, 0, none⟩)]) (by simp) (by simp [go_sem]) ?_
  refine (catch_i b b2 W).mono ?_
  rintro e u' w' ⟨rfl, rfl, rfl⟩
  have e2 : tmps[2]?.getD undef = .pointer (some ⟨b, 0, none⟩) := by simpa using h2
  have e3 : tmps[3]?.getD undef = .int .i64 n := by simpa using h3
  have e4 : tmps[4]?.getD undef = .pointer (some ⟨b2, 0, none⟩) := by simpa using h4
  obtain ⟨s0, s1, s2⟩ := SchBlock.cells hs
  simp [Leaves, settle, results, Tryd.results63, go_sem, e2, e3, e4, asAddr, s0, s1, s2, he]
  exact hR
end Go.Proofs.YtnbiedijofdjhaaDoor
