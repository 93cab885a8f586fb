/-
  Made: what it needs of memory.
-/
import Derived.Test.YtnbiedijofdjhaaDoorVG
import Derived.Test.YtnbiedijofdjhaaDoorVH
namespace Go.Proofs.YtnbiedijofdjhaaDoor
open Go.RowKit
open Pl

/-- A slice of n raw rules, in memory below block number B0. -/
def RawsAt (W : World) (B0 : Nat) (v : Value) (n : Nat) : Prop := ∃ a c, v = .slice a n c ∧ (0 < n → ∃ b off, a = some ⟨b, off, none⟩ ∧ b < B0 ∧ ∀ i, i < n → ∃ (la oa : Option Addr) (lc oc : Nat) (f t k : Int) (xs ys : List Int),
  W.cell? ⟨b, off + i * 5, none⟩ = some (.slice la xs.length lc) ∧ W.cell? ⟨b, off + i * 5 + 1, none⟩ = some (.slice oa ys.length oc) ∧ W.cell? ⟨b, off + i * 5 + 2, none⟩ = some (.int .u8 f) ∧ W.cell? ⟨b, off + i * 5 + 3, none⟩ = some (.int .u8 t) ∧ W.cell? ⟨b, off + i * 5 + 4, none⟩ = some (.int .u8 k) ∧
  BytesIs W B0 (.slice la xs.length lc) xs ∧ BytesIs W B0 (.slice oa ys.length oc) ys ∧ xs.length ≤ maxLen ∧ ys.length ≤ maxLen ∧ (0 ≤ f ∧ f ≤ 255) ∧ (0 ≤ t ∧ t ≤ 255) ∧ (0 ≤ k ∧ k ≤ 255))
theorem RawsAt.on {W W' : World} {v : Value} {n : Nat} (h : RawsAt W W.heap.size v n) (hb : Below W.heap.size W W') : RawsAt W' W'.heap.size v n := by
  obtain ⟨a, c, rfl, h⟩ := h
  refine ⟨a, c, rfl, fun hp => ?_⟩
  obtain ⟨b, off, rfl, hlt, hc⟩ := h hp
  refine ⟨b, off, rfl, Nat.lt_of_lt_of_le hlt hb.size, fun i hi => ?_⟩
  obtain ⟨la, oa, lc, oc, f, t, k, xs, ys, h0, h1, h2, h3, h4, h5, h6, h7⟩ := hc i hi
  have e := fun o => hb.cell (p := ⟨b, o, none⟩) hlt
  exact ⟨la, oa, lc, oc, f, t, k, xs, ys, (e _).trans h0, (e _).trans h1, (e _).trans h2, (e _).trans h3, (e _).trans h4, h5.on hb, h6.on hb, h7⟩
def RwBlock (W : World) (b : Nat) (k d : Int) (v : Value) : Prop := W.heap[b]? = some (.cells #[.int .u8 k, .int .u8 d, v] 27 (0, 0))
theorem RwBlock.below {W W' : World} {b : Nat} {k d : Int} {v : Value} (h : RwBlock W b k d v) (hb : Below W.heap.size W W') : RwBlock W' b k d v := by
  have hlt := lt_of_heap h
  unfold RwBlock at h ⊢; rw [hb.block b hlt]; exact h
theorem RwBlock.cells {W : World} {b : Nat} {k d : Int} {v : Value} (h : RwBlock W b k d v) : W.cell? ⟨b, 0, none⟩ = some (.int .u8 k) ∧ W.cell? ⟨b, 1, none⟩ = some (.int .u8 d) ∧ W.cell? ⟨b, 2, none⟩ = some v := by
  unfold RwBlock at h
  exact ⟨by simp [World.cell?, h], by simp [World.cell?, h], by simp [World.cell?, h]⟩
theorem RwBlock.keptBy {W W' : World} {b : Nat} {k d : Int} {v : Value} {row : Option Nat} (h : RwBlock W b k d v) (hg : W.grownBy W' row) (hne : row ≠ some b) : RwBlock W' b k d v := by
  have hlt := lt_of_heap h
  unfold RwBlock at h ⊢; rw [hg.block b hlt (fun e => hne e.symm)]; exact h
theorem RwBlock.setCell {W : World} {b b' o : Nat} {k d : Int} {v u : Value} (h : RwBlock W b k d v) (hne : b' ≠ b) : RwBlock (W.setCell ⟨b', o, none⟩ u) b k d v := by
  unfold RwBlock at h ⊢
  simp only [World.setCell, Array.getElem?_modify, if_neg hne]; exact h
/-- The rules rs: a row of the call's own, or full to the end, from some place of a block on. -/
def RlsFit (W : World) (base b0 off c : Nat) (rs : List Rl) : Prop := base ≤ b0 ∧ b0 < W.heap.size ∧ ((off = 0 ∧ RlsOwn W base (.slice (some ⟨b0, 0, none⟩) rs.length c) rs) ∨ (c = rs.length ∧ ∀ j u, (rs.flatMap rlCells)[j]? = some u → W.cell? ⟨b0, off + j, none⟩ = some u))
theorem RlsFit.keep {W W' : World} {base b0 off c : Nat} {rs : List Rl} (h : RlsFit W base b0 off c rs) (hs : W.heap.size ≤ W'.heap.size) (hk : ∀ g, base ≤ g → g < W.heap.size → W'.heap[g]? = W.heap[g]?) : RlsFit W' base b0 off c rs := by
  obtain ⟨h1, h2, h3⟩ := h
  refine ⟨h1, by omega, h3.imp (fun h => ⟨h.1, h.2.keep hk⟩) fun h => ⟨h.1, fun j u hj => ?_⟩⟩
  rw [World.cell?_of_block (w := W) (a := ⟨b0, off + j, none⟩) (hk b0 h1 h2)]; exact h.2 j u hj
theorem RlsOwn.keep1 {W W' : World} {base g n c : Nat} {rs : List Rl} (h : RlsOwn W base (.slice (some ⟨g, 0, none⟩) n c) rs) (hk : W'.heap[g]? = W.heap[g]?) : RlsOwn W' base (.slice (some ⟨g, 0, none⟩) n c) rs := by
  refine ⟨h.1, ?_⟩
  rcases h.2 with h | ⟨g', cap, cur, hv, hgb, hg, r⟩
  · exact Or.inl h
  · obtain rfl : g = g' := by simp at hv; exact hv.1
    exact Or.inr ⟨g, cap, cur, hv, hgb, by rw [hk]; exact hg, r⟩
theorem RlsFit.keep1 {W W' : World} {base b0 off c : Nat} {rs : List Rl} (h : RlsFit W base b0 off c rs) (hs : W.heap.size ≤ W'.heap.size) (hk : W'.heap[b0]? = W.heap[b0]?) : RlsFit W' base b0 off c rs := by
  obtain ⟨h1, h2, h3⟩ := h
  refine ⟨h1, by omega, h3.imp (fun h => ⟨h.1, h.2.keep1 hk⟩) fun h => ⟨h.1, fun j u hj => ?_⟩⟩
  rw [World.cell?_of_block (w := W) (a := ⟨b0, off + j, none⟩) hk]; exact h.2 j u hj
theorem RlsFit.base {W : World} {base base' b0 off c : Nat} {rs : List Rl} (h : RlsFit W base b0 off c rs) (hb : base' ≤ base) : RlsFit W base' b0 off c rs :=
  ⟨Nat.le_trans hb h.1, h.2.1, h.2.2.imp (fun h => ⟨h.1, h.2.base hb⟩) id⟩
theorem RlsFit.later {W W' : World} {base b0 off c : Nat} {rs : List Rl} (h : RlsFit W base b0 off c rs) (hb : Below W.heap.size W W') : RlsFit W' base b0 off c rs := h.keep hb.size fun g _ hg => hb.block g hg
theorem RlsOwn.cells {W : World} {base g c n : Nat} {rs : List Rl} (h : RlsOwn W base (.slice (some ⟨g, 0, none⟩) n c) rs) : ∀ j u, (rs.flatMap rlCells)[j]? = some u → W.cell? ⟨g, j, none⟩ = some u := fun j u hj => by
  have := World.ownsRow.cells h (g := g) rfl j u hj
  rw [show (⟨g, 0, none⟩ : Addr).add j = ⟨g, j, none⟩ by unfold Addr.add; split <;> simp_all] at this
  exact this
theorem RlsOwn.block {W : World} {base g c n : Nat} {rs : List Rl} (h : RlsOwn W base (.slice (some ⟨g, 0, none⟩) n c) rs) : base ≤ g ∧ g < W.heap.size := World.ownsRow.lt h g rfl
/-- The rules without the first few. -/
theorem RlsOwn.drop {W : World} {base g : Nat} {rs : List Rl} (h : RlsOwn W base (.slice (some ⟨g, 0, none⟩) rs.length rs.length) rs) (q : Nat) (hq : q ≤ rs.length) : RlsFit W base g (q * 5) (rs.length - q) (rs.drop q) := by
  refine ⟨h.block.1, h.block.2, Or.inr ⟨by simp, fun j u hj => h.cells _ u ?_⟩⟩
  have e : rs.flatMap rlCells = (rs.take q).flatMap rlCells ++ (rs.drop q).flatMap rlCells := by rw [← List.flatMap_append, List.take_append_drop]
  have hl : ((rs.take q).flatMap rlCells).length = q * 5 := by rw [rlCells_length, List.length_take]; congr 1; omega
  rw [e, List.getElem?_append_right (by omega), hl]
  rw [show q * 5 + j - q * 5 = j by omega]; exact hj
theorem RlsOwn.cut {W : World} {base g c : Nat} {rs : List Rl} {r : Rl} (h : RlsOwn W base (.slice (some ⟨g, 0, none⟩) (rs.length + 1) c) (rs ++ [r])) : RlsOwn W base (.slice (some ⟨g, 0, none⟩) rs.length c) rs := by
  refine ⟨rlCells_length rs, ?_⟩
  rcases h.2 with ⟨h, -⟩ | ⟨g', cap, cur, hv, hgb, hg, h1, h2, h3, h4⟩
  · simp at h
  · obtain ⟨rfl, rfl⟩ : g = g' ∧ c = cap := by simp at hv; exact ⟨hv.1, hv.2⟩
    refine Or.inr ⟨g, c, cur, rfl, hgb, hg, by simp at h1; omega, h2, h3, ?_⟩
    have h5 := congrArg (List.take (rs.length * 5)) h4
    rw [List.take_take, List.flatMap_append, ← rlCells_length rs, List.take_left] at h5
    rw [← h5, rlCells_length]
    congr 1
    simp
theorem validB_add {m : Int} {rs : List Rl} {r : Rl} (h : validB m 1 rs = true) (hl : rs.length ≤ 63) (hr : rightB m (rs ++ [r]) rs.length r = true) : validB m 1 (rs ++ [r]) = true := by
  unfold validB at h ⊢
  rw [Bool.and_eq_true] at h ⊢
  obtain ⟨hf, ha⟩ := h
  constructor
  · unfold frameB at hf ⊢
    simp only [Bool.and_eq_true, decide_eq_true_eq, List.length_append, List.length_singleton] at hf ⊢
    exact ⟨hf.1, hf.2.1, hf.2.2.1, hf.2.2.2.1, by omega⟩
  · rw [List.length_append, List.length_singleton]
    refine List.all_eq_true.2 fun k hk => ?_
    have hk := List.mem_range.1 hk
    rcases Nat.lt_or_ge k rs.length with h | h
    · have h2 := List.all_eq_true.1 ha k (List.mem_range.2 h)
      unfold rightAt at h2 ⊢
      rw [List.getElem?_append_left h]
      rw [List.getElem?_eq_getElem h] at h2 ⊢
      unfold rightB at h2 ⊢
      rw [List.take_append_of_le_length (by omega)]
      exact h2
    · obtain rfl : k = rs.length := by omega
      unfold rightAt
      simpa using hr
/-- One rule more. -/
theorem wpList_append_fit {ops : Array Oper} {rest : List Oper} {o : Oper} {a : Act} {Q : Exit → Act → World → Prop} {W : World} (hgd : o.guard = none) (s x : Operand) (ho : o.op = .call { callee := .builtin .append, args := #[s, x], argTypes := #[22, 22] })
    {base b0 off c : Nat} {rs : List Rl} (hs : a.eval s = .slice (some ⟨b0, off, none⟩) rs.length c) (hown : RlsFit W base b0 off c rs) (r : Rl) (nb : Nat) (hx : a.eval x = .slice (some ⟨nb, 0, none⟩) 1 1) (hn : W.heap[nb]? = some (.cells (rlCells r).toArray 29 (0, 0))) (hlen : rs.length ≤ 1000)
    (h : ∀ g cap W' row, RlsOwn W' base (.slice (some ⟨g, 0, none⟩) (rs.length + 1) cap) (rs ++ [r]) → W.grownBy W' row → (row = none ∨ row = some b0) → (g = b0 ∨ W.heap.size ≤ g) → wpList Tryd.prog ops Q rest (a.put o.dst (.slice (some ⟨g, 0, none⟩) (rs.length + 1) cap)) W') : wpList Tryd.prog ops Q (o :: rest) a W := by
  obtain ⟨hb0, hb1, hf⟩ := hown
  obtain ⟨i0, hi0, hz0, hz1, hz2⟩ := info_parts infoRl
  have hlen' : (rs ++ [r]).length = rs.length + 1 := by simp
  have hn' : rs.length + 1 ≤ maxLen := by unfold maxLen; omega
  have hby : (rs.length + 1) * 56 ≤ 140737488355328 := by omega
  rcases hf with ⟨rfl, hf⟩ | ⟨rfl, hf⟩
  · refine wpList_append_lies _ hgd s x _ ho base 29 i0 _ 5 56 Tryd.underlying22 hi0 hz0 hz1 hz2 rfl (by omega) (.slice (some ⟨b0, 0, none⟩) rs.length c) rs.length (rs.flatMap rlCells) hs hf ⟨nb, 0, none⟩ 1 1 (rlCells r) hx rfl (World.news_of_block (cs := (rlCells r).toArray) (t := 29) (fr := (0, 0)) hn) (by simp [rlCells, Value.oneCell']) (by omega) hn' hby (by omega) W.heap.size rfl ?_
    intro gg cap' w8 hown8 hgrow hat hlt8
    refine h gg cap' w8 (some b0) ?_ hgrow (Or.inr rfl) (hat.imp (fun e => by simpa [Value.ownBlock] using e.symm) fun e => by omega)
    unfold RlsOwn
    rw [hlen', List.flatMap_append]
    simpa using hown8
  · refine wpList_append_grows W hgd s x _ ho 29 i0 _ 5 56 Tryd.underlying22 hi0 hz0 hz1 hz2 rfl (by omega) (some ⟨b0, off, none⟩) rs.length rs.length (rs.flatMap rlCells) hs (fun e => by cases e) (rlCells_length rs) (fun b hb j u hj => ?_) ⟨nb, 0, none⟩ 1 1 (rlCells r) hx rfl (World.news_of_block (cs := (rlCells r).toArray) (t := 29) (fr := (0, 0)) hn) (by simp [rlCells, Value.oneCell']) (by omega) hn' hby ?_
    · obtain rfl := Option.some.inj hb
      rw [show (⟨b0, off, none⟩ : Addr).add j = ⟨b0, off + j, none⟩ by unfold Addr.add; split <;> simp_all]
      exact hf j u hj
    · intro v' w8 hown8 hgrow
      obtain ⟨g, cap', rfl, hg, -⟩ := hown8.form (by omega)
      refine h g cap' w8 none ?_ hgrow (Or.inl rfl) (Or.inr hg)
      refine RlsOwn.base (b := W.heap.size) ?_ (by omega)
      unfold RlsOwn
      rw [hlen', List.flatMap_append]
      simpa using hown8
end Go.Proofs.YtnbiedijofdjhaaDoor
