/-
  A raw event as an argument; small facts that every row of events needs.
-/
import Derived.Test.YtmioocmjlbjfpaaDoorH0
import Derived.Test.YtmioocmjlbjfpaaDoorII
import Derived.Test.YtmioocmjlbjfpaaDoorZ
namespace Go.Proofs.YtmioocmjlbjfpaaDoor
open Go.RowKit
open Pl

theorem PairsAt.up {W : World} {B0 B1 : Nat} {v : Value} {n : Nat} (h : PairsAt W B0 v n) (hb : B0 ≤ B1) : PairsAt W B1 v n := by
  obtain ⟨a, c, rfl, h⟩ := h
  refine ⟨a, c, rfl, fun hp => ?_⟩
  obtain ⟨b, off, rfl, hlt, hc⟩ := h hp
  exact ⟨b, off, rfl, by omega, hc⟩
/-- The value is a raw event whose slices can be read. -/
def RawAt (W : World) (B0 : Nat) (v : Value) : Prop := ∃ k n m lv pv ln pn, v = .agg #[.int .u8 k, lv, pv, .int .u8 n, .int .u8 m] ∧ (0 ≤ k ∧ k ≤ 255) ∧ (0 ≤ n ∧ n ≤ 255) ∧ (0 ≤ m ∧ m ≤ 255) ∧ (BytesAt W B0 lv ln ∧ ln ≤ maxLen) ∧ PairsAt W B0 pv pn ∧ pn ≤ maxLen
theorem RawAt.into {W W' : World} {v : Value} (h : RawAt W W.heap.size v) (hb : Below W.heap.size W W') : RawAt W' W'.heap.size v := by
  obtain ⟨k, n, m, lv, pv, ln, pn, rfl, h1, h2, h3, ⟨h4, h5⟩, h6, h7⟩ := h
  exact ⟨k, n, m, lv, pv, ln, pn, rfl, h1, h2, h3, ⟨(h4.below hb).up hb.size, h5⟩, (h6.below hb).up hb.size, h7⟩
theorem sameB_self (a : Ev) : sameB a a = true := (sameB_iff a a).2 rfl
theorem sameB_comm (a b : Ev) : sameB a b = sameB b a := by
  rw [Bool.eq_iff_iff, sameB_iff, sameB_iff]; exact ⟨Eq.symm, Eq.symm⟩
theorem PtsAt.on {W W' : World} {v : Value} {ps : List (Int × Int)} (h : PtsAt W W.heap.size v ps) (hb : Below W.heap.size W W') : PtsAt W' W'.heap.size v ps := (h.below hb).up hb.size
theorem below_alloc (W : World) (o : Obj) : Below W.heap.size W (W.alloc o) := (Below.refl _ _).alloc (Nat.le_refl _) o

end Go.Proofs.YtmioocmjlbjfpaaDoor
