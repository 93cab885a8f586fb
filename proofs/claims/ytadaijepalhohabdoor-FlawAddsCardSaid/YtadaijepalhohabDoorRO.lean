/-
  Rules in rows of their own.
-/
import Derived.Test.YtadaijepalhohabDoorFH
import Derived.Test.YtadaijepalhohabDoorPV
import Derived.Deep.AppendLies
namespace Go.Proofs.YtadaijepalhohabDoor
open Go.RowKit
open Pl

def rlCells (r : Rl) : List Value := [.int .i64 r.src, .int .i64 r.dst, .string (B r.inp), .string (B r.out), .int .i64 r.cost]
/-- The slice v is a list of rules in memory from block number base on. -/
def RlsOwn (W : World) (base : Nat) (v : Value) (rs : List Rl) : Prop := W.ownsRow base 31 5 v rs.length (rs.flatMap rlCells)
theorem SchBlock.free {W : World} {b : Nat} {c0 c1 c2 : Value} (h : SchBlock W b c0 c1 c2) : W.frozen? ⟨b, 2, none⟩ = false := by
  unfold SchBlock at h; simp [World.frozen?, h]
theorem SchBlock.put2 {W : World} {b : Nat} {c0 c1 c2 v : Value} (h : SchBlock W b c0 c1 c2) : SchBlock (W.setCell ⟨b, 2, none⟩ v) b c0 c1 v := by
  unfold SchBlock at h ⊢
  simp [World.setCell, Array.getElem?_modify, h]
theorem SchBlock.keptBy {W W' : World} {b : Nat} {c0 c1 c2 : Value} {row : Option Nat} (h : SchBlock W b c0 c1 c2) (hg : W.grownBy W' row) (hne : row ≠ some b) : SchBlock W' b c0 c1 c2 := by
  have hlt := lt_of_heap h
  unfold SchBlock at h ⊢; rw [hg.block b hlt (fun e => hne e.symm)]; exact h
theorem RlsOwn.keep {W W' : World} {base : Nat} {v : Value} {rs : List Rl} (h : RlsOwn W base v rs) (hk : ∀ g, base ≤ g → g < W.heap.size → W'.heap[g]? = W.heap[g]?) : RlsOwn W' base v rs := by
  refine ⟨h.1, ?_⟩
  rcases h.2 with h | ⟨g, cap, cur, hv, hgb, hg, r⟩
  · exact Or.inl h
  · exact Or.inr ⟨g, cap, cur, hv, hgb, by rw [hk g hgb (lt_of_heap hg)]; exact hg, r⟩
theorem RlsOwn.later {W W' : World} {base : Nat} {v : Value} {rs : List Rl} (h : RlsOwn W base v rs) (hb : Below W.heap.size W W') : RlsOwn W' base v rs := h.keep fun g _ hg => hb.block g hg
theorem RlsOwn.base {W : World} {b b' : Nat} {v : Value} {rs : List Rl} (h : RlsOwn W b v rs) (hb : b' ≤ b) : RlsOwn W b' v rs := World.ownsRow.mono h hb
theorem RlsOwn.ne {W : World} {b : Nat} {v : Value} {rs : List Rl} (h : RlsOwn W b v rs) {k : Nat} (hk : k < b) : v.ownBlock ≠ some k := by
  rcases h.2 with ⟨rfl, -⟩ | ⟨g, cap, cur, rfl, hg, -⟩
  · simp [Value.ownBlock]
  · intro e
    have : g = k := by simpa [Value.ownBlock] using e
    omega
theorem infoRl : (Tryd.prog.info? 31).map (fun i => (i.zero, i.size, i.bytes)) = some (some (.agg #[.int .i64 0, .int .i64 0, .string ⟨#[]⟩, .string ⟨#[]⟩, .int .i64 0]), 5, 56) := by kernel_rfl
theorem rlCells_get (rs : List Rl) : ∀ (i : Nat) (h : i < rs.length), (rs.flatMap rlCells)[i * 5]? = some (.int .i64 rs[i].src) ∧ (rs.flatMap rlCells)[i * 5 + 1]? = some (.int .i64 rs[i].dst) ∧ (rs.flatMap rlCells)[i * 5 + 2]? = some (.string (B rs[i].inp)) ∧ (rs.flatMap rlCells)[i * 5 + 3]? = some (.string (B rs[i].out)) ∧ (rs.flatMap rlCells)[i * 5 + 4]? = some (.int .i64 rs[i].cost) := by
  induction rs with
  | nil => intro i h; cases h
  | cons p r ih =>
    intro i h
    have e : (p :: r).flatMap rlCells = .int .i64 p.src :: .int .i64 p.dst :: .string (B p.inp) :: .string (B p.out) :: .int .i64 p.cost :: r.flatMap rlCells := rfl
    cases i with
    | zero => rw [e]; exact ⟨rfl, rfl, rfl, rfl, rfl⟩
    | succ i =>
      have h' : i < r.length := by simpa using h
      rw [e, show (i + 1) * 5 = (((((i * 5) + 1) + 1) + 1) + 1) + 1 by omega]
      exact ih i h'
theorem rlCells_length (rs : List Rl) : (rs.flatMap rlCells).length = rs.length * 5 := by
  induction rs with
  | nil => rfl
  | cons p r ih => rw [List.flatMap_cons, List.length_append, ih, List.length_cons]; simp only [rlCells, List.length_cons, List.length_nil]; omega
theorem RlsOwn.at {W : World} {b : Nat} {v : Value} {rs : List Rl} (h : RlsOwn W b v rs) : ∃ a c, v = .slice a rs.length c ∧ rs.length ≤ c ∧ RlsAt W W.heap.size v rs := by
  rcases h.2 with ⟨rfl, h0⟩ | ⟨g, cap, cur, hv, hb, hg, hn, hle, hc, ht⟩
  · exact ⟨none, 0, by rw [h0], by omega, none, 0, by rw [h0], fun hp => by omega⟩
  · refine ⟨_, _, hv, ?_, _, _, hv, fun _ => ⟨g, 0, rfl, lt_of_heap hg, fun i hi => ?_⟩⟩
    · exact hn
    have key : ∀ j u, (rs.flatMap rlCells)[j]? = some u → W.cell? ⟨g, j, none⟩ = some u := by
      intro j u hu
      have hj : j < (rs.flatMap rlCells).length := by
        rcases Nat.lt_or_ge j (rs.flatMap rlCells).length with h | h
        · exact h
        · rw [List.getElem?_eq_none h] at hu; cases hu
      rw [rlCells_length] at hj
      rw [← ht, List.getElem?_take, if_pos hj] at hu
      simp only [World.cell?, hg]
      simpa using hu
    rw [Nat.zero_add]
    obtain ⟨k0, k1, k2, k3, k4⟩ := rlCells_get rs i hi
    exact ⟨key _ _ k0, key _ _ k1, key _ _ k2, key _ _ k3, key _ _ k4⟩
theorem RlsOwn.keep1 {W W' : World} {base g n c : Nat} {rs : List Rl} (h : RlsOwn W base (.slice (some ⟨g, 0, none⟩) n c) rs) (hk : W'.heap[g]? = W.heap[g]?) : RlsOwn W' base (.slice (some ⟨g, 0, none⟩) n c) rs := by
  refine ⟨h.1, ?_⟩
  rcases h.2 with h | ⟨g', cap, cur, hv, hgb, hg, r⟩
  · exact Or.inl h
  · obtain rfl : g = g' := by simp at hv; exact hv.1
    exact Or.inr ⟨g, cap, cur, hv, hgb, by rw [hk]; exact hg, r⟩
theorem RlsOwn.cells {W : World} {base g c n : Nat} {rs : List Rl} (h : RlsOwn W base (.slice (some ⟨g, 0, none⟩) n c) rs) : ∀ j u, (rs.flatMap rlCells)[j]? = some u → W.cell? ⟨g, j, none⟩ = some u := fun j u hj => by
  have := World.ownsRow.cells h (g := g) rfl j u hj
  rw [show (⟨g, 0, none⟩ : Addr).add j = ⟨g, j, none⟩ by unfold Addr.add; split <;> simp_all] at this
  exact this
theorem RlsOwn.block {W : World} {base g c n : Nat} {rs : List Rl} (h : RlsOwn W base (.slice (some ⟨g, 0, none⟩) n c) rs) : base ≤ g ∧ g < W.heap.size := World.ownsRow.lt h g rfl
theorem RlsOwn.cut {W : World} {base g c : Nat} {rs : List Rl} {r : Rl} (h : RlsOwn W base (.slice (some ⟨g, 0, none⟩) (rs.length + 1) c) (rs ++ [r])) : RlsOwn W base (.slice (some ⟨g, 0, none⟩) rs.length c) rs := by
  refine ⟨rlCells_length rs, ?_⟩
  rcases h.2 with ⟨h, -⟩ | ⟨g', cap, cur, hv, hgb, hg, h1, h2, h3, h4⟩
  · simp at h
  · obtain ⟨rfl, rfl⟩ : g = g' ∧ c = cap := by simp at hv; exact ⟨hv.1, hv.2⟩
    refine Or.inr ⟨g, c, cur, rfl, hgb, hg, by simp at h1; omega, h2, h3, ?_⟩
    have h5 := congrArg (List.take (rs.length * 5)) h4
    rw [List.take_take, List.flatMap_append, ← rlCells_length rs, List.take_left] at h5
    rw [← h5, rlCells_length]
    congr 1
    simp
theorem oneCells (rs : List Rl) : ∀ u ∈ rs.flatMap rlCells, u.oneCell' = true := fun u hu => by
  obtain ⟨x, -, hx⟩ := List.mem_flatMap.1 hu
  simp only [rlCells, List.mem_cons, List.not_mem_nil, or_false] at hx
  rcases hx with rfl | rfl | rfl | rfl | rfl <;> rfl
theorem validB_add {m acc : Int} {rs : List Rl} {r : Rl} (h : validB m acc rs = true) (hl : rs.length ≤ 63) (hr : rightB m (rs ++ [r]) rs.length r = true) : validB m acc (rs ++ [r]) = true := by
  unfold validB at h ⊢
  rw [Bool.and_eq_true] at h ⊢
  obtain ⟨hf, ha⟩ := h
  constructor
  · unfold frameB at hf ⊢
    simp only [Bool.and_eq_true, decide_eq_true_eq, List.length_append, List.length_singleton] at hf ⊢
    exact ⟨hf.1, hf.2.1, hf.2.2.1, hf.2.2.2.1, by omega⟩
  · rw [List.length_append, List.length_singleton]
    refine List.all_eq_true.2 fun k hk => ?_
    have hk := List.mem_range.1 hk
    rcases Nat.lt_or_ge k rs.length with h | h
    · have h2 := List.all_eq_true.1 ha k (List.mem_range.2 h)
      unfold rightAt at h2 ⊢
      rw [List.getElem?_append_left h]
      rw [List.getElem?_eq_getElem h] at h2 ⊢
      unfold rightB at h2 ⊢
      rw [List.take_append_of_le_length (by omega)]
      exact h2
    · obtain rfl : k = rs.length := by omega
      unfold rightAt
      simpa using hr
end Go.Proofs.YtadaijepalhohabDoor
