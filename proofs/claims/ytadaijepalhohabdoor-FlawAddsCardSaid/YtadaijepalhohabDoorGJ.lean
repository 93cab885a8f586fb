/-
  The maker of schemes: what it lays.
-/
import Derived.Test.YtadaijepalhohabDoorRO
import Derived.Test.YtadaijepalhohabDoorVE
import Derived.Test.YtadaijepalhohabDoorTI
import Derived.Test.YtadaijepalhohabDoorFC
namespace Go.Proofs.YtadaijepalhohabDoor
open Go.RowKit
open Pl

/-- The slice reads as n triples of bytes. -/
def TrisAt (W : World) (B0 : Nat) (v : Value) (n : Nat) : Prop :=
  ∃ a c, v = .slice a n c ∧ (0 < n → ∃ b off, a = some ⟨b, off, none⟩ ∧ b < B0 ∧ ∀ i, i < n → ∃ x y z : Nat, (x < 256 ∧ y < 256 ∧ z < 256) ∧
    W.cell? ⟨b, off + i * 3, none⟩ = some (.int .u8 (x : Nat)) ∧ W.cell? ⟨b, off + i * 3 + 1, none⟩ = some (.int .u8 (y : Nat)) ∧ W.cell? ⟨b, off + i * 3 + 2, none⟩ = some (.int .u8 (z : Nat)))
theorem TrisAt.on {W W' : World} {v : Value} {n : Nat} (h : TrisAt W W.heap.size v n) (hb : Below W.heap.size W W') : TrisAt W' W'.heap.size v n := by
  obtain ⟨a, c, hv, h⟩ := h
  refine ⟨a, c, hv, fun hn => ?_⟩
  obtain ⟨b, off, ha, hlt, hc⟩ := h hn
  refine ⟨b, off, ha, Nat.lt_of_lt_of_le hlt hb.size, fun i hi => ?_⟩
  obtain ⟨x, y, z, h0, h1, h2, h3⟩ := hc i hi
  exact ⟨x, y, z, h0, (hb.cell (p := ⟨b, _, none⟩) hlt).trans h1, (hb.cell (p := ⟨b, _, none⟩) hlt).trans h2, (hb.cell (p := ⟨b, _, none⟩) hlt).trans h3⟩
def FRBlock (W : World) (b : Nat) (k d v : Value) : Prop := W.heap[b]? = some (.cells #[k, d, v] 24 (0, 0))
theorem FRBlock.new (w : World) (k d v : Value) : FRBlock (w.alloc (.cells #[k, d, v] 24)) w.heap.size k d v := heap_alloc_new w _
theorem FRBlock.below {W W' : World} {b : Nat} {k d v : Value} (h : FRBlock W b k d v) (hb : Below W.heap.size W W') : FRBlock W' b k d v := by
  have hlt := lt_of_heap h
  unfold FRBlock at h ⊢; rw [hb.block b hlt]; exact h
theorem FRBlock.cells {W : World} {b : Nat} {k d v : Value} (h : FRBlock W b k d v) : W.cell? ⟨b, 0, none⟩ = some k ∧ W.cell? ⟨b, 1, none⟩ = some d ∧ W.cell? ⟨b, 2, none⟩ = some v := by
  unfold FRBlock at h
  refine ⟨?_, ?_, ?_⟩ <;> simp [World.cell?, h]
theorem FRBlock.keptBy {W W' : World} {b : Nat} {k d v : Value} {row : Option Nat} (h : FRBlock W b k d v) (hg : W.grownBy W' row) (hne : row ≠ some b) : FRBlock W' b k d v := by
  have hlt := lt_of_heap h
  unfold FRBlock at h ⊢; rw [hg.block b hlt (fun e => hne e.symm)]; exact h
theorem FRBlock.setCell {W : World} {b b' o : Nat} {k d v u : Value} (h : FRBlock W b k d v) (hne : b' ≠ b) : FRBlock (W.setCell ⟨b', o, none⟩ u) b k d v := by
  unfold FRBlock at h ⊢
  rw [heap_setCell_other W _ b _ (fun e => hne e.symm)]; exact h
/-- A block of texts. -/
def TxBlock (W : World) (b : Nat) (ls : List (List UInt8)) : Prop := W.heap[b]? = some (.cells (ls.map fun l => Value.string (B l)).toArray 9 (0, 0))
theorem TxBlock.below {W W' : World} {b : Nat} {ls : List (List UInt8)} (h : TxBlock W b ls) (hb : Below W.heap.size W W') : TxBlock W' b ls := by
  have hlt := lt_of_heap h
  unfold TxBlock at h ⊢; rw [hb.block b hlt]; exact h
theorem TxBlock.cell {W : World} {b : Nat} {ls : List (List UInt8)} (h : TxBlock W b ls) (j : Nat) (hj : j < ls.length) : W.cell? ⟨b, j, none⟩ = some (.string (B ls[j])) := by
  unfold TxBlock at h
  simp [World.cell?, h, hj]
theorem TxBlock.keptBy {W W' : World} {b : Nat} {ls : List (List UInt8)} {row : Option Nat} (h : TxBlock W b ls) (hg : W.grownBy W' row) (hne : row ≠ some b) : TxBlock W' b ls := by
  have hlt := lt_of_heap h
  unfold TxBlock at h ⊢; rw [hg.block b hlt (fun e => hne e.symm)]; exact h
theorem TxBlock.setCell {W : World} {b b' o : Nat} {ls : List (List UInt8)} {u : Value} (h : TxBlock W b ls) (hne : b' ≠ b) : TxBlock (W.setCell ⟨b', o, none⟩ u) b ls := by
  unfold TxBlock at h ⊢
  rw [heap_setCell_other W _ b _ (fun e => hne e.symm)]; exact h
def insL : List (List UInt8) := [[], [97], [98], [], [99], [97, 98]]
def outsL : List (List UInt8) := [[], [97], [66], [49]]
theorem ins_at (j : Nat) (hj : j < 6) : (insL[j]'hj).length ≤ 4 := by
  have h : insL.all (fun l => decide (l.length ≤ 4)) = true := by decide
  exact of_decide_eq_true (List.all_eq_true.1 h _ (List.getElem_mem _))
theorem outs_at (j : Nat) (hj : j < 4) : (outsL[j]'hj).length ≤ 4 := by
  have h : outsL.all (fun l => decide (l.length ≤ 4)) = true := by decide
  exact of_decide_eq_true (List.all_eq_true.1 h _ (List.getElem_mem _))
/-- The rules that the maker makes: at most one letter comes out, and none takes a z first. -/
def SmallO (rs : List Rl) : Prop := ∀ x ∈ rs, x.out.length ≤ 1 ∧ x.inp.head? ≠ some 122
theorem ins_z (j : Nat) (hj : j < 6) : (insL[j]'hj).head? ≠ some 122 := by
  have h : insL.all (fun l => decide (l.head? ≠ some 122)) = true := by decide
  exact of_decide_eq_true (List.all_eq_true.1 h _ (List.getElem_mem _))
theorem outs_one (j : Nat) (hj : j < 4) : (outsL[j]'hj).length ≤ 1 := by
  have h : outsL.all (fun l => decide (l.length ≤ 1)) = true := by decide
  exact of_decide_eq_true (List.all_eq_true.1 h _ (List.getElem_mem _))
theorem SmallO.add {rs : List Rl} {y : Rl} (h : SmallO rs) (hy : y.out.length ≤ 1 ∧ y.inp.head? ≠ some 122) : SmallO (rs ++ [y]) := fun x hx => by
  rcases List.mem_append.1 hx with hx | hx
  · exact h x hx
  · obtain rfl : x = y := by simpa using hx
    exact hy
/-- What the maker's loop keeps. -/
def MkRel (w : World) (m acc : Nat) (rk ra rv : Value) (n : Nat) (W : World) : Prop :=
  ∃ (rs : List Rl) (va : Option Addr) (vc : Nat), SchBlock W (w.heap.size + 2) (.int .i64 (m : Nat)) (.int .u8 (acc : Nat)) (.slice va rs.length vc) ∧ RlsOwn W (w.heap.size + 5) (.slice va rs.length vc) rs ∧ validB m acc rs = true ∧ rs.length ≤ n ∧
    FRBlock W w.heap.size rk ra rv ∧ SchBlock W (w.heap.size + 1) (.int .i64 0) (.int .u8 0) (.slice none 0 0) ∧ TxBlock W (w.heap.size + 3) insL ∧ TxBlock W (w.heap.size + 4) outsL ∧ Below w.heap.size w W ∧ w.heap.size + 5 ≤ W.heap.size ∧ SmallO rs
/-- What the maker hands back: some valid scheme. -/
def FMade (w : World) (e : Ending) (w' : World) : Prop :=
  ∃ (m acc : Nat) (rs : List Rl) (va : Option Addr) (vc : Nat), e = .returned (.agg #[.int .i64 (m : Nat), .int .u8 (acc : Nat), .slice va rs.length vc]) ∧ (1 ≤ m ∧ m ≤ 5) ∧ acc < 256 ∧ validB m acc rs = true ∧ rs.length ≤ 12 ∧ RlsOwn w' w.heap.size (.slice va rs.length vc) rs ∧ Below w.heap.size w w'
/-- The same, and its rules are small. -/
def FMadeS (w : World) (e : Ending) (w' : World) : Prop :=
  ∃ (m acc : Nat) (rs : List Rl) (va : Option Addr) (vc : Nat), e = .returned (.agg #[.int .i64 (m : Nat), .int .u8 (acc : Nat), .slice va rs.length vc]) ∧ (1 ≤ m ∧ m ≤ 5) ∧ acc < 256 ∧ validB m acc rs = true ∧ rs.length ≤ 12 ∧ RlsOwn w' w.heap.size (.slice va rs.length vc) rs ∧ Below w.heap.size w w' ∧ SmallO rs
theorem FMadeS.made {w : World} {e : Ending} {w' : World} (h : FMadeS w e w') : FMade w e w' := by
  obtain ⟨m, acc, rs, va, vc, h1, h2, h3, h4, h5, h6, h7, -⟩ := h
  exact ⟨m, acc, rs, va, vc, h1, h2, h3, h4, h5, h6, h7⟩
theorem frame_empty {m acc : Nat} (h1 : 1 ≤ m) (h2 : m ≤ 5) (h3 : 1 ≤ acc) (h4 : acc < 2 ^ m) : validB m acc [] = true := by
  unfold validB frameB
  have e : ((acc : Nat) : Int) < 2 ^ ((m : Nat) : Int).toNat := by
    rw [Int.toNat_natCast]
    have := Int.ofNat_lt.2 h4
    push_cast at this ⊢
    exact this
  simp only [Bool.and_eq_true, decide_eq_true_eq]
  exact ⟨⟨by omega, by omega, by omega, e, by simp⟩, by simp⟩
end Go.Proofs.YtadaijepalhohabDoor
