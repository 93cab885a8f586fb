/-
  First chains of small schemes, by certificates; the reports on the law's own examples.
-/
import Derived.Test.YtadaijepalhohabDoorGH
namespace Go.Proofs.YtadaijepalhohabDoor
open Go.RowKit
open Pl

def noneB (p : Rl → Bool) (rs : List Rl) (s W : Nat) (S : List Nat) : Bool :=
  S.contains s && (List.range rs.length).all fun k => match edgeOf p rs k with
    | some (a, b) => !S.contains a || (S.contains b && !W.testBit b)
    | none => true
theorem none_cert {p : Rl → Bool} {rs : List Rl} {s W : Nat} {S : List Nat} (h : noneB p rs s W S = true) : fC p rs s (fun t => W.testBit t = true) = [] := by
  refine fC_none fun l t hn hx c => ?_
  unfold noneB at h
  rw [Bool.and_eq_true] at h
  have hk : ∀ k a b, edgeOf p rs k = some (a, b) → a ∈ S → b ∈ S ∧ ¬ W.testBit b = true := fun k a b he ha => by
    have h1 := List.all_eq_true.1 h.2 k (List.mem_range.2 (edgeOf_lt _ _ _ he))
    rw [he] at h1
    dsimp only at h1
    have ha' : S.contains a = true := by simpa using ha
    rw [ha', Bool.not_true, Bool.false_or, Bool.and_eq_true] at h1
    exact ⟨by simpa using h1.1, by simpa using h1.2⟩
  have key : ∀ l t, Chn (edgeOf p rs) s l t → t ∈ S ∧ (l ≠ [] → ¬ W.testBit t = true) := by
    intro l t c
    induction c with
    | nil => exact ⟨by simpa using h.1, fun h => absurd rfl h⟩
    | snoc _ e ih => exact ⟨(hk _ _ _ e ih.1).1, fun _ => (hk _ _ _ e ih.1).2⟩
  exact (key l t c).2 hn hx
def firstB (p : Rl → Bool) (rs : List Rl) (s W k : Nat) : Bool :=
  (match edgeOf p rs k with
    | some (a, b) => a == s && W.testBit b
    | none => false) && (List.range k).all fun j => match edgeOf p rs j with
    | some (a, b) => !(a == s && W.testBit b)
    | none => true
theorem first_cert {p : Rl → Bool} {rs : List Rl} {s W k : Nat} (h : firstB p rs s W k = true) : fC p rs s (fun t => W.testBit t = true) = [k] := by
  unfold firstB at h
  rw [Bool.and_eq_true] at h
  obtain ⟨h1, h2⟩ := h
  cases he : edgeOf p rs k with
  | none => rw [he] at h1; cases h1
  | some ab =>
    obtain ⟨a, b⟩ := ab
    rw [he] at h1
    dsimp only at h1
    rw [Bool.and_eq_true] at h1
    obtain rfl : a = s := by simpa using h1.1
    refine fC_first ⟨by simp, ⟨b, h1.2, .snoc (l := []) .nil he⟩, fun l t hn hx c => ?_⟩
    rcases Nat.lt_or_ge 1 l.length with q | q
    · exact Nat.le_of_lt (code_len (rs.length + 2) (by omega) (fun j hj => by
        obtain rfl : j = k := by simpa using hj
        have := edgeOf_lt _ _ _ he
        omega) (by simpa using q))
    · cases l with
      | nil => exact absurd rfl hn
      | cons j r =>
        have hr : r = [] := by
          cases r with
          | nil => rfl
          | cons _ _ => simp at q
        subst hr
        obtain ⟨b', he', c'⟩ := c.inv' j [] rfl
        obtain ⟨_, rfl⟩ | ⟨r, x, y, e, _⟩ := c'.inv
        · have hjk : k ≤ j := Nat.le_of_not_lt fun hlt => by
            have h3 := List.all_eq_true.1 h2 j (List.mem_range.2 hlt)
            rw [he'] at h3
            dsimp only at h3
            rw [hx] at h3
            simp at h3
          show 1 * (rs.length + 2) + k ≤ 1 * (rs.length + 2) + j
          omega
        · exact absurd e (by simp)
def rsA : List Rl := [⟨0, 0, [97], [], 0⟩, ⟨0, 1, [98], [], 0⟩]
def rsB : List Rl := [⟨0, 1, [97], [], 0⟩, ⟨1, 0, [], [], 0⟩, ⟨1, 1, [], [], 0⟩]
def rsC : List Rl := [⟨0, 0, [97], [], 0⟩, ⟨1, 0, [98], [], 0⟩]
def rsD : List Rl := [⟨0, 0, [97], [], 0⟩]
theorem endC_two (u : Nat) (rs : List Rl) : endC u rs 2 = endStep u rs (endStep u rs [] 0) 1 := rfl
theorem endStep_none {u : Nat} {rs : List Rl} {cur : List Nat} {i : Nat} (h : rndC rs i = []) : endStep u rs cur i = cur := by
  unfold endStep
  split
  · rw [if_neg (fun hh => hh.1 h)]
  · rfl
theorem validA : validB ((2 : Nat) : Int) ((1 : Nat) : Int) rsA = true := by decide +kernel
theorem validB' : validB ((2 : Nat) : Int) ((1 : Nat) : Int) rsB = true := by decide +kernel
theorem validC : validB ((2 : Nat) : Int) ((1 : Nat) : Int) rsC = true := by decide +kernel
theorem validD : validB ((2 : Nat) : Int) ((2 : Nat) : Int) rsD = true := by decide +kernel
theorem validE : validB ((0 : Nat) : Int) ((0 : Nat) : Int) [] = false := by decide +kernel
theorem rndA0 : rndC rsA 0 = [] := none_cert (S := [0]) (by decide +kernel)
theorem rndA1 : rndC rsA 1 = [] := none_cert (S := [1]) (by decide +kernel)
theorem rndB0 : rndC rsB 0 = [] := none_cert (S := [0]) (by decide +kernel)
theorem rndB1 : rndC rsB 1 = [2] := first_cert (by decide +kernel)
theorem rndC0 : rndC rsC 0 = [] := none_cert (S := [0]) (by decide +kernel)
theorem rndC1 : rndC rsC 1 = [] := none_cert (S := [1]) (by decide +kernel)
theorem rndD0 : rndC rsD 0 = [] := none_cert (S := [0]) (by decide +kernel)
theorem rndD1 : rndC rsD 1 = [] := none_cert (S := [1]) (by decide +kernel)
theorem endA : endlessC 2 1 rsA = [] := by unfold endlessC; rw [endC_two, endStep_none rndA0, endStep_none rndA1]
theorem endCc : endlessC 2 1 rsC = [] := by unfold endlessC; rw [endC_two, endStep_none rndC0, endStep_none rndC1]
theorem endD : endlessC 2 2 rsD = [] := by unfold endlessC; rw [endC_two, endStep_none rndD0, endStep_none rndD1]
theorem endB : endlessC 2 1 rsB = [2] := by
  unfold endlessC
  rw [endC_two, endStep_none rndB0]
  unfold endStep
  rw [if_pos (by decide +kernel), rndB1]
  simp
theorem stuckA : stuckC 2 1 rsA = [1] := by
  unfold stuckC
  rw [if_pos (by decide +kernel)]
  exact first_cert (by decide +kernel)
theorem stuckB : stuckC 2 1 rsB = [] := by
  unfold stuckC
  rw [if_pos (by decide +kernel)]
  exact none_cert (S := [0, 1]) (by decide +kernel)
theorem stuckCc : stuckC 2 1 rsC = [] := by
  unfold stuckC
  rw [if_pos (by decide +kernel)]
  exact none_cert (S := [0]) (by decide +kernel)
theorem stuckD : stuckC 2 2 rsD = [] := by
  unfold stuckC
  rw [if_neg (by decide +kernel)]
theorem repA : repC 2 1 rsA = ⟨[1], [1], []⟩ := by
  unfold repC
  rw [if_pos validA, stuckA, endA, show pickN (deadK (rMs 2 rsA) (lMs 2 1 rsA)) rsA rsA.length = [1] by decide +kernel]
  rfl
theorem repB : repC 2 1 rsB = ⟨[], [], [2]⟩ := by
  unfold repC
  rw [if_pos validB', stuckB, endB, show pickN (deadK (rMs 2 rsB) (lMs 2 1 rsB)) rsB rsB.length = [] by decide +kernel]
  rfl
theorem repCc : repC 2 1 rsC = ⟨[1], [], []⟩ := by
  unfold repC
  rw [if_pos validC, stuckCc, endCc, show pickN (deadK (rMs 2 rsC) (lMs 2 1 rsC)) rsC rsC.length = [1] by decide +kernel]
  rfl
theorem repD : repC 2 2 rsD = ⟨[0], [], []⟩ := by
  unfold repC
  rw [if_pos validD, stuckD, endD, show pickN (deadK (rMs 2 rsD) (lMs 2 2 rsD)) rsD rsD.length = [0] by decide +kernel]
  rfl
theorem repE : repC 0 0 [] = ⟨[], [], []⟩ := by
  unfold repC
  rw [validE]; rfl
theorem soundA : soundC 2 1 rsA = 40 := by
  unfold soundC
  rw [if_pos validA, if_pos (by decide +kernel), if_neg (by decide +kernel)]
theorem soundB : soundC 2 1 rsB = 41 := by
  unfold soundC
  rw [if_pos validB', if_pos (by decide +kernel), if_pos (by decide +kernel), endB, if_neg (by simp)]
theorem soundCc : soundC 2 1 rsC = 0 := by
  unfold soundC
  rw [if_pos validC, if_pos (by decide +kernel), if_pos (by decide +kernel), endCc, if_pos rfl]
theorem soundD : soundC 2 2 rsD = 50 := by
  unfold soundC
  rw [if_pos validD, if_neg (by decide +kernel)]
theorem soundE : soundC 0 0 [] = 20 := by
  unfold soundC
  rw [validE]; rfl
theorem prA1 : prB 2 1 rsA ⟨[], [0, 0, 1], []⟩ = true := by decide +kernel
theorem prA2 : prB 2 1 rsA ⟨[], [0], []⟩ = false := by decide +kernel
theorem prA3 : prB 2 1 rsA ⟨[0], [], []⟩ = false := by decide +kernel
theorem prC1 : prB 2 1 rsC ⟨[], [], []⟩ = true := by decide +kernel
theorem prD1 : prB 2 2 rsD ⟨[], [0], []⟩ = false := by decide +kernel
end Go.Proofs.YtadaijepalhohabDoor
