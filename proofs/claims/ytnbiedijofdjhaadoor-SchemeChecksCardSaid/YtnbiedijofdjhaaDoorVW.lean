/-
  Lists of what has been listed; a raw scheme and a rule boxed; a rule as an argument.
-/
import Derived.Test.YtnbiedijofdjhaaDoorVU
namespace Go.Proofs.YtnbiedijofdjhaaDoor
open Go.ChangeShapes Go.WideShapes Go.ChangeAt Go.RowKit Go.ChangeMaps
open Pl

theorem none_listed {n j : Nat} (h : (Array.replicate n false).getD j false = true) : False := by
  by_cases hj : j < n
  · simp [hj] at h
  · simp [hj] at h
theorem ready_dep {ops : Array Oper} {listed : Array Bool} {i k : Nat} {o : Oper} (h : i ∈ Region.ready .any ops listed) (ho : ops[i]? = some o) (hk : o.after.any (fun e => Region.binds .any e && e.on == k) = true) : listed.getD k false = true := by
  obtain ⟨-, o', ho', hall⟩ := mem_ready.1 h
  obtain rfl : o' = o := Option.some.inj (ho'.symm.trans ho)
  obtain ⟨e, he, hb⟩ := Array.any_eq_true'.1 hk
  simp only [Bool.and_eq_true, beq_iff_eq] at hb
  rw [← hb.2]
  exact hall e he hb.1
theorem RlBlock.keptBy {W W' : World} {b : Nat} {r : Rl} {row : Option Nat} (h : RlBlock W b r) (hg : W.grownBy W' row) (hne : row ≠ some b) : RlBlock W' b r := by
  have hlt := lt_of_heap h
  unfold RlBlock at h ⊢; rw [hg.block b hlt (fun e => hne e.symm)]; exact h
theorem listed_mono {listed : Array Bool} {i j : Nat} (h : listed.getD j false = true) : (listed.setIfInBounds i true).getD j false = true := by
  by_cases e : i = j
  · subst e
    have hlt : i < listed.size := by
      rcases Nat.lt_or_ge i listed.size with q | q
      · exact q
      · simp [Nat.not_lt.2 q] at h
    simp [hlt]
  · rw [getD_set_ne false e]; exact h
theorem listed_self {ops : Array Oper} {listed : Array Bool} {i : Nat} (h : i ∈ Region.ready .any ops listed) : ¬ listed.getD i false = true ∧ (listed.setIfInBounds i true).getD i false = true := by
  have h1 := (mem_ready.1 h).1
  have hlt : i < listed.size := by
    rcases Nat.lt_or_ge i listed.size with q | q
    · exact q
    · simp [Nat.not_lt.2 q] at h1
  refine ⟨fun h2 => ?_, by simp [hlt]⟩
  rw [getD_both h1] at h2; cases h2
theorem oneCells (rs : List Rl) : ∀ u ∈ rs.flatMap rlCells, u.oneCell' = true := fun u hu => by
  obtain ⟨x, -, hx⟩ := List.mem_flatMap.1 hu
  simp only [rlCells, List.mem_cons, List.not_mem_nil, or_false] at hx
  rcases hx with rfl | rfl | rfl | rfl | rfl <;> rfl
theorem layO (w : World) (k d : Int) (v : Value) (y : Rl) : RwBlock ((w.alloc (.cells #[.int .u8 k, .int .u8 d, v] 27)).alloc (.cells #[.int .i64 y.src, .int .i64 y.dst, .string (B y.inp), .string (B y.out), .int .i64 y.cost] 29)) w.heap.size k d v ∧ RlBlock ((w.alloc (.cells #[.int .u8 k, .int .u8 d, v] 27)).alloc (.cells #[.int .i64 y.src, .int .i64 y.dst, .string (B y.inp), .string (B y.out), .int .i64 y.cost] 29)) (w.heap.size + 1) y ∧ Below w.heap.size w ((w.alloc (.cells #[.int .u8 k, .int .u8 d, v] 27)).alloc (.cells #[.int .i64 y.src, .int .i64 y.dst, .string (B y.inp), .string (B y.out), .int .i64 y.cost] 29)) := by
  refine ⟨RwBlock.below (show RwBlock (w.alloc (.cells #[.int .u8 k, .int .u8 d, v] 27)) w.heap.size k d v from heap_alloc_new w _) ((Below.refl _ _).alloc (Nat.le_refl _) _), ?_, ((Below.refl _ _).alloc (Nat.le_refl _) _).alloc (by simp) _⟩
  have := rl_new (w.alloc (.cells #[.int .u8 k, .int .u8 d, v] 27)) y _ rfl
  rw [World.size_alloc] at this
  exact this
theorem cellsInt : Tryd.prog.cellsOf 3 = 1 := by kernel_rfl
theorem cellsStr : Tryd.prog.cellsOf 9 = 1 := by kernel_rfl
theorem cellsRule : Tryd.prog.cellsOf 29 = 5 := by kernel_rfl
theorem rec29 : Tryd.prog.readableRec 29 = true := by kernel_rfl
theorem row29 : 29 < Tryd.prog.types.size := of_decide_eq_true (by kernel_rfl)
set_option maxRecDepth 100000 in
theorem rule_cells {H : Type} {enc : TypeId × Value → H} {W : World} {cs : List Value} {x : DataW H × List MemPlace} {fuel : Nat} (hlen : cs.length = 5) (hf : DataW.trod enc Tryd.prog W 0 (fun _ => true) true fuel 29 cs = some x) :
    ∃ r : Rl, cs = [.int .i64 r.src, .int .i64 r.dst, .string (B r.inp), .string (B r.out), .int .i64 r.cost] ∧ r.inp.length ≤ maxLen ∧ r.out.length ≤ maxLen := by
  match cs, hlen with
  | [x0, x1, x2, x3, x4], _ =>
    obtain ⟨zs, f', _, _, _, hlen, hg⟩ := DataW.trod_struct Tryd.underlying29 hf
    match zs, hlen with
    | [y0, y1, y2, y3, y4], _ =>
      have g0 : DataW.trod enc Tryd.prog W 0 (fun _ => true) true f' 3 [x0] = some y0 := by simpa [Value.cells, cellsInt] using hg 0 _ rfl
      have g1 : DataW.trod enc Tryd.prog W 0 (fun _ => true) true f' 3 [x1] = some y1 := by simpa [Value.cells, cellsInt] using hg 1 _ rfl
      have g2 : DataW.trod enc Tryd.prog W 0 (fun _ => true) true f' 9 [x2] = some y2 := by simpa [Value.cells, cellsStr] using hg 2 _ rfl
      have g3 : DataW.trod enc Tryd.prog W 0 (fun _ => true) true f' 9 [x3] = some y3 := by simpa [Value.cells, cellsStr] using hg 3 _ rfl
      have g4 : DataW.trod enc Tryd.prog W 0 (fun _ => true) true f' 3 [x4] = some y4 := by simpa [Value.cells, cellsInt] using hg 4 _ rfl
      obtain ⟨a, ha, -, -⟩ := DataW.trod_int Tryd.underlying3 g0
      obtain ⟨b, hb, -, -⟩ := DataW.trod_int Tryd.underlying3 g1
      obtain ⟨s, hs, -, ls⟩ := DataW.trod_string Tryd.underlying9 g2
      obtain ⟨t, ht, -, lt⟩ := DataW.trod_string Tryd.underlying9 g3
      obtain ⟨c, hc, -, -⟩ := DataW.trod_int Tryd.underlying3 g4
      obtain rfl : x0 = .int .i64 a := by simpa using ha
      obtain rfl : x1 = .int .i64 b := by simpa using hb
      obtain rfl : x2 = .string s := by simpa using hs
      obtain rfl : x3 = .string t := by simpa using ht
      obtain rfl : x4 = .int .i64 c := by simpa using hc
      exact ⟨⟨a, b, s.data.toList, t.data.toList, c⟩, by dsimp only; rw [B_toList, B_toList], by dsimp only; rw [length_toList]; exact ls, by dsimp only; rw [length_toList]; exact lt⟩
set_option maxRecDepth 100000 in
theorem open_tRule {H : Type} {enc : TypeId × Value → H} {W : World} {r : Reach} {base : Nat} {v : Value} {d : DataW H} {p : List MemPlace} (hv : Value.okWide Tryd.prog W r base 29 v) (h : DataW.Trod enc Tryd.prog W 0 (fun _ => true) true 29 v d p) :
    ∃ o : Rl, v = rlV o ∧ o.inp.length ≤ maxLen ∧ o.out.length ≤ maxLen := by
  obtain ⟨cs, rfl, hsz⟩ := okWide_struct Tryd.underlying29 hv
  rw [cellsRule] at hsz
  obtain ⟨l⟩ := cs
  obtain ⟨fuel, hf⟩ := h
  obtain ⟨r, hr, h1, h2⟩ := rule_cells (by simpa using hsz) (by simpa [Value.cells] using hf)
  exact ⟨r, by rw [show l = _ from by simpa using hr], h1, h2⟩
set_option maxRecDepth 100000 in
theorem back_tRule {H : Type} {enc : TypeId × Value → H} {W W' : World} {v : Value} {d : DataW H} {p : List MemPlace} (h : DataW.Trod enc Tryd.prog W 0 (fun _ => true) true 29 v d p) (hb : Below W.heap.size W W') :
    DataW.Trod enc Tryd.prog W' 0 (fun b => decide (b < W.heap.size)) true 29 v d p :=
  Below.trod raw_out rec29 row29 h hb (DataW.TrodAll.lt (trodAll_mk1 h))
end Go.Proofs.YtnbiedijofdjhaaDoor
