/-
  Greater costs; twice the costs.
-/
import Derived.Test.YtadaijepalhohaaAZ
namespace Go.Proofs.Ytadaijepalhohaa
open Pl

/-- Costs that are greater, by at most three. -/
structure Dearer (s z : Sl) : Prop where
  swap : s.swap ≤ z.swap ∧ z.swap ≤ s.swap + 3
  drop : s.drop ≤ z.drop ∧ z.drop ≤ s.drop + 3
  add : s.add ≤ z.add ∧ z.add ≤ s.add + 3
  put : s.put ≤ z.put ∧ z.put ≤ s.put + 3
  alike : z.alike = s.alike
theorem firstC_mono (p q : UInt8) {x y : Int} (h : x ≤ y ∧ y ≤ x + 3) : ∀ l : List Al, firstC x p q l ≤ firstC y p q l ∧ firstC y p q l ≤ firstC x p q l + 3
  | [] => by simpa [firstC] using h
  | a :: l => by
    simp only [firstC]
    split
    · omega
    · exact firstC_mono p q h l
theorem putC_dear {s z : Sl} (h : Dearer s z) (p q : UInt8) : putC s p q ≤ putC z p q ∧ putC z p q ≤ putC s p q + 3 := by
  unfold putC
  split
  · omega
  · rw [h.alike]
    exact firstC_mono p q h.put _
theorem way_dear {s z : Sl} (h : Dearer s z) {m t : List UInt8} {c : Int} (hw : Pl.Way z m t c) : ∃ d, Pl.Way s m t d ∧ d ≤ c := by
  induction hw with
  | nil => exact ⟨0, Pl.Way.nil, Int.le_refl _⟩
  | put a b _ ih => obtain ⟨d, h1, h2⟩ := ih; exact ⟨_, Pl.Way.put a b h1, by have := putC_dear h a b; omega⟩
  | drop a _ ih => obtain ⟨d, h1, h2⟩ := ih; exact ⟨_, Pl.Way.drop a h1, by have := h.drop; omega⟩
  | add a _ ih => obtain ⟨d, h1, h2⟩ := ih; exact ⟨_, Pl.Way.add a h1, by have := h.add; omega⟩
  | swap a b _ ih => obtain ⟨d, h1, h2⟩ := ih; exact ⟨_, Pl.Way.swap a b h1, by have := h.swap; omega⟩
theorem way_cheap {s z : Sl} (h : Dearer s z) {m t : List UInt8} {c : Int} (hw : Pl.Way s m t c) : ∃ d, Pl.Way z m t d ∧ d ≤ c + 3 * ((m.length : Int) + (t.length : Int)) := by
  induction hw with
  | nil => exact ⟨0, Pl.Way.nil, by simp⟩
  | put a b _ ih => obtain ⟨d, h1, h2⟩ := ih; exact ⟨_, Pl.Way.put a b h1, by have := putC_dear h a b; simp only [List.length_cons]; omega⟩
  | drop a _ ih => obtain ⟨d, h1, h2⟩ := ih; exact ⟨_, Pl.Way.drop a h1, by have := h.drop; simp only [List.length_cons]; omega⟩
  | add a _ ih => obtain ⟨d, h1, h2⟩ := ih; exact ⟨_, Pl.Way.add a h1, by have := h.add; simp only [List.length_cons]; omega⟩
  | swap a b _ ih => obtain ⟨d, h1, h2⟩ := ih; exact ⟨_, Pl.Way.swap a b h1, by have := h.swap; simp only [List.length_cons]; omega⟩
theorem D_dear {s z : Sl} (h : Dearer s z) (m t : List UInt8) : D s m t ≤ D z m t ∧ D z m t ≤ D s m t + 3 * ((m.length : Int) + (t.length : Int)) := by
  obtain ⟨d, h1, h2⟩ := way_dear h (way_of z m t)
  obtain ⟨e, h3, h4⟩ := way_cheap h (way_of s m t)
  have := D_le_way s h1
  have := D_le_way z h3
  omega
def twoA (x : Al) : Al := ⟨x.a, x.b, 2 * x.c⟩
def twoS (s : Sl) : Sl := ⟨2 * s.swap, 2 * s.drop, 2 * s.add, 2 * s.put, s.alike.map twoA⟩
theorem firstC_two (put : Int) (p q : UInt8) : ∀ l : List Al, firstC (2 * put) p q (l.map twoA) = 2 * firstC put p q l
  | [] => by simp [firstC]
  | a :: l => by
    simp only [List.map_cons, firstC, show (twoA a).has p q = a.has p q from rfl, show (twoA a).c = 2 * a.c from rfl, firstC_two put p q l]
    split <;> omega
theorem putC_two (s : Sl) (p q : UInt8) : putC (twoS s) p q = 2 * putC s p q := by
  unfold putC
  split
  · rfl
  · exact firstC_two _ _ _ _
theorem way_two {s : Sl} {m t : List UInt8} {c : Int} (hw : Pl.Way s m t c) : Pl.Way (twoS s) m t (2 * c) := by
  induction hw with
  | nil => exact Pl.Way.nil
  | put a b _ ih => have := Pl.Way.put a b ih; rw [putC_two, ← Int.mul_add] at this; exact this
  | drop a _ ih => have := Pl.Way.drop a ih; rw [show (twoS s).drop = 2 * s.drop from rfl, ← Int.mul_add] at this; exact this
  | add a _ ih => have := Pl.Way.add a ih; rw [show (twoS s).add = 2 * s.add from rfl, ← Int.mul_add] at this; exact this
  | swap a b _ ih => have := Pl.Way.swap a b ih; rw [show (twoS s).swap = 2 * s.swap from rfl, ← Int.mul_add] at this; exact this
theorem way_half {s : Sl} {m t : List UInt8} {c : Int} (hw : Pl.Way (twoS s) m t c) : ∃ d, Pl.Way s m t d ∧ c = 2 * d := by
  induction hw with
  | nil => exact ⟨0, Pl.Way.nil, rfl⟩
  | put a b _ ih => obtain ⟨d, h1, h2⟩ := ih; exact ⟨_, Pl.Way.put a b h1, by rw [putC_two]; omega⟩
  | drop a _ ih => obtain ⟨d, h1, h2⟩ := ih; exact ⟨_, Pl.Way.drop a h1, by rw [show (twoS s).drop = 2 * s.drop from rfl]; omega⟩
  | add a _ ih => obtain ⟨d, h1, h2⟩ := ih; exact ⟨_, Pl.Way.add a h1, by rw [show (twoS s).add = 2 * s.add from rfl]; omega⟩
  | swap a b _ ih => obtain ⟨d, h1, h2⟩ := ih; exact ⟨_, Pl.Way.swap a b h1, by rw [show (twoS s).swap = 2 * s.swap from rfl]; omega⟩
theorem D_two (s : Sl) (m t : List UInt8) : D (twoS s) m t = 2 * D s m t := by
  have h1 := D_le_way _ (way_two (way_of s m t))
  obtain ⟨d, h2, h3⟩ := way_half (way_of (twoS s) m t)
  have h4 := D_le_way s h2
  omega
theorem Dearer.bd {s z : Sl} (h : Dearer s z) (hs : Small s) : Bd z := by
  have h1 := hs.swap
  have h2 := hs.drop
  have h3 := hs.add
  have h4 := hs.put
  have g1 := h.swap
  have g2 := h.drop
  have g3 := h.add
  have g4 := h.put
  exact ⟨⟨by omega, by omega, by omega, by omega, by rw [h.alike]; exact fun x hx => (hs.low x hx).1⟩, by omega, by omega, by omega, by omega⟩
theorem twoS_bd {s : Sl} (hs : Small s) : Bd (twoS s) := by
  have h1 := hs.swap
  have h2 := hs.drop
  have h3 := hs.add
  have h4 := hs.put
  refine ⟨⟨?_, ?_, ?_, ?_, ?_⟩, ?_, ?_, ?_, ?_⟩
  · show 1 ≤ 2 * s.swap; omega
  · show 1 ≤ 2 * s.drop; omega
  · show 1 ≤ 2 * s.add; omega
  · show 1 ≤ 2 * s.put; omega
  · intro x hx
    obtain ⟨y, hy, rfl⟩ := List.mem_map.1 (show x ∈ s.alike.map twoA from hx)
    have := (hs.low y hy).1
    show 1 ≤ 2 * y.c
    omega
  · show 2 * s.swap ≤ 4000; omega
  · show 2 * s.drop ≤ 4000; omega
  · show 2 * s.add ≤ 4000; omega
  · show 2 * s.put ≤ 4000; omega
end Go.Proofs.Ytadaijepalhohaa
