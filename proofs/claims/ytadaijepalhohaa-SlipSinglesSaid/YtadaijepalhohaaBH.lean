/-
  A single slip.
-/
import Derived.Test.YtadaijepalhohaaBA
namespace Go.Proofs.Ytadaijepalhohaa
open Pl

theorem one_add {s : Sl} (hs : s.Pos) (p q : List UInt8) (c : UInt8) : D s (p ++ q) (p ++ ([c] ++ q)) ≤ s.add := by
  have h1 := D_parts s p p q ([c] ++ q)
  have h2 := D_parts s [] [c] q q
  rw [D_self hs] at h1 h2
  rw [D_nil] at h2
  simp only [List.nil_append, List.length_singleton] at h2
  omega
theorem one_drop {s : Sl} (hs : s.Pos) (p q : List UInt8) (c : UInt8) : D s (p ++ ([c] ++ q)) (p ++ q) ≤ s.drop := by
  have h1 := D_parts s p p ([c] ++ q) q
  have h2 := D_parts s [c] [] q q
  rw [D_self hs] at h1 h2
  rw [D_end] at h2
  simp only [List.nil_append, List.length_singleton] at h2
  omega
theorem one_put {s : Sl} (hs : s.Pos) (p q : List UInt8) (x c : UInt8) : D s (p ++ ([x] ++ q)) (p ++ ([c] ++ q)) ≤ putC s x c := by
  have h1 := D_parts s p p ([x] ++ q) ([c] ++ q)
  have h2 := D_parts s [x] [c] q q
  have h3 := D_put_le s x c [] []
  rw [D_self hs] at h1 h2 h3
  omega
theorem one_swap {s : Sl} (hs : s.Pos) (p q : List UInt8) (x y : UInt8) : D s (p ++ ([x, y] ++ q)) (p ++ ([y, x] ++ q)) ≤ s.swap := by
  have h1 := D_parts s p p ([x, y] ++ q) ([y, x] ++ q)
  have h2 := D_parts s [x, y] [y, x] q q
  have h3 := D_swap_le s x y [] []
  rw [D_self hs] at h1 h2 h3
  omega
theorem has_turn (x y : Al) : x.has y.a y.b = y.has x.a x.b := by
  unfold Al.has
  rw [BEq.comm (a := x.a) (b := y.a), BEq.comm (a := x.b) (b := y.b), BEq.comm (a := x.a) (b := y.b), BEq.comm (a := x.b) (b := y.a), Bool.and_comm (y.b == x.a)]
theorem firstC_at (put : Int) (p q : UInt8) : ∀ (xs : List Al) (k : Nat) (hk : k < xs.length), (∀ j (hj : j < k), (xs[j]'(by omega)).has p q = false) → xs[k].has p q = true → firstC put p q xs = min put xs[k].c
  | x :: l, 0, _, _, h => by
    have h : x.has p q = true := h
    simp [firstC, h]
  | x :: l, k + 1, hk, hn, h => by
    have h0 : x.has p q = false := hn 0 (by omega)
    have hk' : k < l.length := by simpa using hk
    have ih := firstC_at put p q l k hk' (fun j hj => hn (j + 1) (by omega)) h
    simp [firstC, h0, ih]
theorem alike_fresh (xs : List Al) (h : alikeB xs = true) (k : Nat) (hk : k < xs.length) : freshB xs[k] (xs.take k) = true := by
  have h1 : alB xs xs.length = true := by
    unfold alikeB at h
    simp only [Bool.and_eq_true] at h
    exact h.2
  have h2 : alB xs (k + 1) = true := by
    cases e : alB xs (k + 1) with
    | true => rfl
    | false => rw [alB_no xs (k + 1) e xs.length (by omega)] at h1; cases h1
  rw [alB_succ xs k hk] at h2
  simp only [Bool.and_eq_true] at h2
  exact h2.2.2
theorem alike_cost (s : Sl) (hs : s.Pos) (h : alikeB s.alike = true) (k : Nat) (hk : k < s.alike.length) : putC s s.alike[k].a s.alike[k].b ≤ min s.alike[k].c s.put := by
  have hc := hs.alike _ (List.getElem_mem hk)
  have hp := hs.put
  unfold putC
  split
  · omega
  · have hf := alike_fresh s.alike h k hk
    unfold freshB at hf
    rw [List.all_eq_true] at hf
    rw [firstC_at s.put _ _ s.alike k hk (fun j hj => by
      have := hf s.alike[j] (by rw [List.mem_take_iff_getElem]; exact ⟨j, by omega, rfl⟩)
      rw [has_turn]
      simpa using this) (by unfold Al.has; simp)]
    omega
end Go.Proofs.Ytadaijepalhohaa
