/-
  The calls of the law's own examples, each with its answer.
-/
import Derived.Test.YtmioocmjlbjfpaaDoorX
namespace Go.Proofs.YtmioocmjlbjfpaaDoor
open Go.RowKit
open Pl

def evS : Ev := ⟨4, [], [(1, 1), (2, 20)], [], 0, 0⟩
def evH : Ev := ⟨9, [], [], [], 0, 2⟩
def evE : Ev := ⟨6, [], [], [], 0, 0⟩
theorem p1 : parseS [115, 116, 114, 111, 107, 101, 32, 49, 32, 49, 32, 50, 32, 50, 48] = some evS := by kernel_rfl
theorem p2 : parseS [99, 104, 111, 114, 100, 32, 98, 97] = none := by kernel_rfl
theorem p3 : parseS [116, 111, 117, 99, 104, 32, 48, 49, 32, 49] = none := by kernel_rfl
theorem p4 : parseS [104, 111, 108, 100, 32, 48, 32, 48] = none := by kernel_rfl
theorem p5 : parseS [101, 114, 97, 115, 101, 32] = none := by kernel_rfl
theorem p6 : parseS [104, 111, 108, 100, 32, 48, 32, 50] = some evH := by kernel_rfl
theorem s1 : scr ([101, 114, 97, 115, 101, 10, 104, 111, 108, 100, 32, 48, 32, 50, 10].length + 1) [101, 114, 97, 115, 101, 10, 104, 111, 108, 100, 32, 48, 32, 50, 10] = ([evE, evH], true) := by kernel_rfl
theorem s2 : scr ([101, 114, 97, 115, 101, 10, 104, 111, 108, 100, 32, 48, 32, 50].length + 1) [101, 114, 97, 115, 101, 10, 104, 111, 108, 100, 32, 48, 32, 50] = ([evE], false) := by kernel_rfl
theorem s3 : scr ([10].length + 1) [10] = ([], false) := by kernel_rfl
theorem s4 : scr (([] : List UInt8).length + 1) [] = ([], true) := by kernel_rfl
theorem v1 : validB ⟨4, [], [(1, 1), (2, 20)], [], 0, 0⟩ = true := by kernel_rfl
theorem v2 : validB ⟨0, [], [], [], 0, 0⟩ = false := by kernel_rfl
theorem v3 : validB ⟨1, [97, 98], [], [], 0, 0⟩ = false := by kernel_rfl
def zeroE : Value := .agg #[.int .i64 0, .string ⟨#[]⟩, .slice none 0 0, .string ⟨#[]⟩, .int .i64 0, .int .i64 0]
theorem parse_bad (l : List UInt8) (h : parseS l = none) (hm : l.length ≤ 1000000) (w : World) :
    Calls Tryd.prog 7 #[.string (B l)] w fun e w' => e = .returned (.tuple #[.agg #[.int .i64 0, .string ⟨#[]⟩, .slice none 0 0, .string ⟨#[]⟩, .int .i64 0, .int .i64 0], .int .i64 3]) ∧ Below w.heap.size w w' := by
  have := Parse_any l w (by unfold maxLen; omega)
  rw [h] at this
  refine this.mono ?_
  rintro e w' ⟨he, hb⟩
  exact ⟨he, hb⟩
theorem parse_good (l : List UInt8) (ev : Ev) (h : parseS l = some ev) (hm : l.length ≤ 1000000) (w : World) :
    Calls Tryd.prog 7 #[.string (B l)] w fun e w' => (∃ a c, e = .returned (.tuple #[.agg #[.int .i64 ev.kind, .string (B ev.keys), .slice a ev.p.length c, .string (B ev.text), .int .i64 ev.n, .int .i64 ev.l], .int .i64 0]) ∧ PtsAt w' w'.heap.size (.slice a ev.p.length c) ev.p) ∧ Below w.heap.size w w' := by
  have := Parse_any l w (by unfold maxLen; omega)
  rw [h] at this
  refine this.mono ?_
  rintro e w' ⟨⟨v, he, hO⟩, hb⟩
  obtain ⟨a, c, rfl⟩ := own_form hO
  exact ⟨⟨a, c, he, hO.pts⟩, hb⟩
theorem script_is (s : List UInt8) (evs : List Ev) (ok : Bool) (h : scr (s.length + 1) s = (evs, ok)) (hs : s.length ≤ 1000000) (m : Int) (w : World) (hm : MaxVar w m) (hw0 : 0 < w.heap.size) :
    Calls Tryd.prog 11 #[.string (B s)] w fun e w' => (∃ a n c, e = .returned (.tuple #[.slice a n c, .int .i64 (evs.length : Nat), .int .i64 (if ok then 0 else 3)]) ∧ EvsAt w' (.slice a n c) (if ok then evs else []) ∧ n = (if ok then evs else []).length) ∧ Below w.heap.size w w' := by
  have := Script_any s m w (by omega) hm hw0
  unfold ScPost at this
  rw [h] at this
  refine this.mono ?_
  rintro e w' ⟨⟨v, its, he, hE, hi⟩, hb⟩
  obtain ⟨a, c, rfl⟩ := own_shape hE.1
  have hat := hE.at
  have hi' : its.map (·.1) = (if ok then evs else []) := hi
  rw [hi'] at hat
  have hn : its.length = (if ok then evs else []).length := by rw [← hi', List.length_map]
  exact ⟨⟨a, its.length, c, he, hat, hn⟩, hb⟩
theorem dec1 (n : Nat) (h : n < 10) : Lib.decDigits n = [UInt8.ofNat (48 + n)] := by rw [Lib.decDigits, dif_pos h]
theorem wrS : wrK 3 [] [(1, 1), (2, 20)] [] 0 0 = [32, 49, 32, 49, 32, 50, 32, 50, 48] := by
  have h20 : Lib.decDigits 20 = [50, 48] := by rw [Lib.decDigits, dif_neg (by decide)]; rw [show 20 / 10 = 2 from rfl, dec1 2 (by decide)]; rfl
  show wrNums [1, 1, 2, 20] = _
  simp only [wrNums, List.flatMap_cons, List.flatMap_nil, h20, dec1 1 (by decide), dec1 2 (by decide)]
  rfl
theorem wrH : wrK 8 [] [] [] 0 2 = [32, 48, 32, 50] := by
  show wrNums [0, 2] = _
  simp only [wrNums, List.flatMap_cons, List.flatMap_nil, dec1 0 (by decide), dec1 2 (by decide)]
  rfl
theorem print_stroke (a : Option Addr) (c : Nat) (w : World) (hP : PtsAt w w.heap.size (.slice a 2 c) [(1, 1), (2, 20)]) (hT : PowTab w) :
    Calls Tryd.prog 10 #[.agg #[.int .i64 4, .string ⟨#[]⟩, .slice a 2 c, .string ⟨#[]⟩, .int .i64 0, .int .i64 0]] w fun e w' => e = .returned (.string ⟨#[115, 116, 114, 111, 107, 101, 32, 49, 32, 49, 32, 50, 32, 50, 48]⟩) ∧ Below w.heap.size w w' := by
  have h := Print_valid 3 (by decide) [] a c [(1, 1), (2, 20)] [] 0 0 w (by kernel_rfl) hP (by decide) hT (by rw [wrS]; decide)
  rw [wrS] at h
  exact h
theorem print_hold (w : World) (hT : PowTab w) :
    Calls Tryd.prog 10 #[.agg #[.int .i64 9, .string ⟨#[]⟩, .slice none 0 0, .string ⟨#[]⟩, .int .i64 0, .int .i64 2]] w fun e w' => e = .returned (.string ⟨#[104, 111, 108, 100, 32, 48, 32, 50]⟩) ∧ Below w.heap.size w w' := by
  have h := Print_valid 8 (by decide) [] none 0 [] [] 0 2 w (by kernel_rfl) ⟨none, 0, rfl, fun h => by cases h⟩ (by decide) hT (by rw [wrH]; decide)
  rw [wrH] at h
  exact h
theorem valid_stroke (a : Option Addr) (c : Nat) (w : World) (hP : PtsAt w w.heap.size (.slice a 2 c) [(1, 1), (2, 20)]) :
    Calls Tryd.prog 13 #[.agg #[.int .i64 4, .string ⟨#[]⟩, .slice a 2 c, .string ⟨#[]⟩, .int .i64 0, .int .i64 0]] w fun e w' => e = .returned (.bool true) ∧ Below w.heap.size w w' := by
  have h := Valid_any 4 [] a c [(1, 1), (2, 20)] [] 0 0 w hP (by decide)
  rw [v1] at h
  exact h
theorem valid_zero (w : World) :
    Calls Tryd.prog 13 #[.agg #[.int .i64 0, .string ⟨#[]⟩, .slice none 0 0, .string ⟨#[]⟩, .int .i64 0, .int .i64 0]] w fun e w' => e = .returned (.bool false) ∧ Below w.heap.size w w' := by
  have h := Valid_any 0 [] none 0 [] [] 0 0 w ⟨none, 0, rfl, fun h => by cases h⟩ (by decide)
  rw [v2] at h
  exact h
theorem valid_ab (w : World) :
    Calls Tryd.prog 13 #[.agg #[.int .i64 1, .string ⟨#[97, 98]⟩, .slice none 0 0, .string ⟨#[]⟩, .int .i64 0, .int .i64 0]] w fun e w' => e = .returned (.bool false) ∧ Below w.heap.size w w' := by
  have h := Valid_any 1 [97, 98] none 0 [] [] 0 0 w ⟨none, 0, rfl, fun h => by cases h⟩ (by decide)
  rw [v3] at h
  exact h
theorem same_stroke (a a2 : Option Addr) (c c2 : Nat) (w : World) (hP : PtsAt w w.heap.size (.slice a 2 c) [(1, 1), (2, 20)]) (hQ : PtsAt w w.heap.size (.slice a2 2 c2) [(1, 1), (2, 20)]) :
    Calls Tryd.prog 9 #[.agg #[.int .i64 4, .string ⟨#[]⟩, .slice a 2 c, .string ⟨#[]⟩, .int .i64 0, .int .i64 0], .agg #[.int .i64 4, .string ⟨#[]⟩, .slice a2 2 c2, .string ⟨#[]⟩, .int .i64 0, .int .i64 0]] w fun e w' => e = .returned (.bool true) ∧ Below w.heap.size w w' :=
  same_ev evS a a2 c c2 w hP hQ (by decide)
theorem same_hold (a a2 : Option Addr) (c c2 : Nat) (w : World) (hP : PtsAt w w.heap.size (.slice a 0 c) []) (hQ : PtsAt w w.heap.size (.slice a2 0 c2) []) :
    Calls Tryd.prog 9 #[.agg #[.int .i64 9, .string ⟨#[]⟩, .slice a 0 c, .string ⟨#[]⟩, .int .i64 0, .int .i64 2], .agg #[.int .i64 9, .string ⟨#[]⟩, .slice a2 0 c2, .string ⟨#[]⟩, .int .i64 0, .int .i64 2]] w fun e w' => e = .returned (.bool true) ∧ Below w.heap.size w w' :=
  same_ev evH a a2 c c2 w hP hQ (by decide)
theorem same_two (v u : Value) (w : World) (hv : EvsAt w v [evE, evH]) (hu : EvsAt w u [evE, evH]) :
    Calls Tryd.prog 12 #[v, u] w fun e w' => e = .returned (.bool true) ∧ Below w.heap.size w w' :=
  SameAll_eq v u [evE, evH] w hv hu (by decide) (by intro ev h; simp at h; rcases h with rfl | rfl <;> decide)
/-- The list that the law builds. -/
def twoCells : Array Value := #[.int .i64 6, .string ⟨#[]⟩, .slice none 0 0, .string ⟨#[]⟩, .int .i64 0, .int .i64 0, .int .i64 9, .string ⟨#[]⟩, .slice none 0 0, .string ⟨#[]⟩, .int .i64 0, .int .i64 2]
theorem two_at {W : World} {b : Nat} (h : W.heap[b]? = some (.cells twoCells 31 (0, 0))) : EvsAt W (.slice (some ⟨b, 0, none⟩) 2 2) [evE, evH] := by
  have key : ∀ j, W.cell? ⟨b, j, none⟩ = twoCells[j]? := fun j => by simp only [World.cell?, h]; rfl
  refine ⟨_, 2, rfl, fun _ => ⟨b, 0, rfl, lt_of_heap h, fun i hi => ?_⟩⟩
  have hi' : i < 2 := hi
  rcases (show i = 0 ∨ i = 1 by omega) with rfl | rfl
  · exact ⟨none, 0, key 0, key 1, key 2, key 3, key 4, key 5, none, 0, rfl, fun h => by cases h⟩
  · exact ⟨none, 0, key 6, key 7, key 8, key 9, key 10, key 11, none, 0, rfl, fun h => by cases h⟩
theorem pts_lit {W : World} {b : Nat} (h : W.heap[b]? = some (.cells #[.int .i64 1, .int .i64 1, .int .i64 2, .int .i64 20] 40 (0, 0))) : PtsAt W W.heap.size (.slice (some ⟨b, 0, none⟩) 2 2) [(1, 1), (2, 20)] := by
  have key : ∀ j, W.cell? ⟨b, j, none⟩ = (#[.int .i64 1, .int .i64 1, .int .i64 2, .int .i64 20] : Array Value)[j]? := fun j => by simp only [World.cell?, h]; rfl
  refine ⟨_, 2, rfl, fun _ => ⟨b, 0, rfl, lt_of_heap h, fun i hi => ?_⟩⟩
  have hi' : i < 2 := hi
  rcases (show i = 0 ∨ i = 1 by omega) with rfl | rfl
  · exact ⟨key 0, key 1⟩
  · exact ⟨key 2, key 3⟩
end Go.Proofs.YtmioocmjlbjfpaaDoor
