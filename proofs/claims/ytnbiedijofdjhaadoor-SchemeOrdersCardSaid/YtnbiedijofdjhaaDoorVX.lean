/-
  SchemeOrders: plain facts on a list that is turned; texts in memory.
-/
import Derived.Test.YtnbiedijofdjhaaDoorVU
namespace Go.Proofs.YtnbiedijofdjhaaDoor
open Go.RowKit
open Pl

def turnL (RT : List Rl) (y : Rl) (K : Nat) : List Rl := (List.range RT.length).map fun q => RT.getD ((q + K) % RT.length) y
theorem turnL_len (RT : List Rl) (y : Rl) (K : Nat) : (turnL RT y K).length = RT.length := by simp [turnL]
theorem mod_low {i r N : Nat} (h : i + r < N) : (i + r) % N = i + r := Nat.mod_eq_of_lt h
theorem mod_high {i r N : Nat} (h1 : N ≤ i + r) (h2 : i + r < 2 * N) : (i + r) % N = i + r - N := by
  rw [Nat.mod_eq_sub_mod h1, Nat.mod_eq_of_lt (by omega)]
theorem turnL_is (RT : List Rl) (y : Rl) (K : Nat) : turnL RT y K = RT.drop (K % RT.length) ++ RT.take (K % RT.length) := by
  rcases Nat.eq_zero_or_pos RT.length with h0 | h0
  · have : RT = [] := List.length_eq_zero_iff.1 h0
    subst this; simp [turnL]
  have hr := Nat.mod_lt K h0
  apply List.ext_getElem
  · rw [turnL_len, List.length_append, List.length_drop, List.length_take]; omega
  · intro i h1 h2
    rw [turnL_len] at h1
    have e : (i + K) % RT.length = (i + K % RT.length) % RT.length := by rw [Nat.add_mod, Nat.add_mod i (K % RT.length), Nat.mod_mod]
    have hg : (turnL RT y K)[i] = RT.getD ((i + K) % RT.length) y := by simp [turnL]
    rw [hg, e]
    rcases Nat.lt_or_ge (i + K % RT.length) RT.length with h | h
    · rw [mod_low h, List.getElem_append_left (by rw [List.length_drop]; omega), List.getElem_drop, List.getD_eq_getElem?_getD, List.getElem?_eq_getElem (by omega)]
      simp [Nat.add_comm]
    · rw [mod_high h (by omega), List.getElem_append_right (by rw [List.length_drop]; omega), List.getElem_take, List.getD_eq_getElem?_getD, List.getElem?_eq_getElem (by omega)]
      simp only [Option.getD_some, List.length_drop]
      congr 1
      omega
theorem turnL_perm (RT : List Rl) (y : Rl) (K : Nat) : RT.Perm (turnL RT y K) := by
  rw [turnL_is]
  have h := List.perm_append_comm (l₁ := RT.take (K % RT.length)) (l₂ := RT.drop (K % RT.length))
  rwa [List.take_append_drop] at h
theorem turnL_get (RT : List Rl) (y : Rl) (K i : Nat) (h : i < RT.length) (hk : (i + K) % RT.length < RT.length) : (turnL RT y K)[i]'(by rw [turnL_len]; exact h) = RT[(i + K) % RT.length] := by
  have hg : (turnL RT y K)[i]'(by rw [turnL_len]; exact h) = RT.getD ((i + K) % RT.length) y := by simp [turnL]
  rw [hg, List.getD_eq_getElem?_getD, List.getElem?_eq_getElem hk]; rfl
/-- The block g holds the texts ps. -/
def SCells (W : World) (g : Nat) (ps : List (List UInt8)) : Prop := g < W.heap.size ∧ ∀ j (h : j < ps.length), W.cell? ⟨g, j, none⟩ = some (.string (B ps[j]))
theorem SCells.below {W W' : World} {g : Nat} {ps : List (List UInt8)} (h : SCells W g ps) (hb : Below W.heap.size W W') : SCells W' g ps :=
  ⟨Nat.lt_of_lt_of_le h.1 hb.size, fun j hj => (hb.cell (p := ⟨g, j, none⟩) h.1).trans (h.2 j hj)⟩
theorem StrsOwn.scells {W : World} {base g n c : Nat} {ps : List (List UInt8)} (h : StrsOwn W base (.slice (some ⟨g, 0, none⟩) n c) ps) : SCells W g ps := ⟨h.block.2, fun j hj => by
  have := World.ownsRow.cells h (g := g) rfl j (.string (B ps[j])) (by unfold strCells; rw [List.getElem?_map, List.getElem?_eq_getElem hj]; rfl)
  rw [show (⟨g, 0, none⟩ : Addr).add j = ⟨g, j, none⟩ by unfold Addr.add; split <;> simp_all] at this
  exact this⟩
/-- The text that Print writes, if it writes one. -/
def textP (vb : Bool) (m : Int) (rs : List Rl) : List UInt8 := if vb then printS m 1 rs else []
theorem split_no {m : Int} {rs : List Rl} : splitS 10 [] (textP false m rs) = [[]] := rfl
theorem split_len {m : Int} {rs : List Rl} (h : validB m 1 rs = true) : (splitS 10 [] (printS m 1 rs)).length = rs.length + 2 := by
  rw [split_print h]; simp
theorem split_head {m : Int} {rs : List Rl} (h : validB m 1 rs = true) (h0 : 0 < (splitS 10 [] (printS m 1 rs)).length) : (splitS 10 [] (printS m 1 rs))[0] = headJ m := by
  simp only [split_print h]; rfl
theorem split_at {m : Int} {rs : List Rl} (h : validB m 1 rs = true) (i : Nat) (hi : i < rs.length) (h0 : i + 1 < (splitS 10 [] (printS m 1 rs)).length) : (splitS 10 [] (printS m 1 rs))[i + 1] = ruleJ rs[i] := by
  simp only [split_print h, List.getElem_cons_succ]
  rw [List.getElem_append_left (by simpa using hi)]
  simp
theorem print_len10 {m : Int} {rs : List Rl} (h : validB m 1 rs = true) (hl : rs.length ≤ 10) : (printS m 1 rs).length ≤ 1000 := by
  obtain ⟨hm1, hm8, -, -, hr⟩ := valid_ok h
  have h1 := rules_len m hm8 rs (fun k hk => (hr k hk).1)
  have h2 := headS_len (modes := m) (acc := 1) (by omega) hm8 (by decide) (by decide)
  unfold printS
  rw [List.length_append]; omega
end Go.Proofs.YtnbiedijofdjhaaDoor
