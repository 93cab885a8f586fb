/-
  event.kindOf: the walk over the table, in whatever order; event.split.
-/
import Derived.Test.YtmioocmjlbjfpaaDoorJ
import Derived.Test.YtmioocmjlbjfpaaDoorShelf
import Derived.Maps.RangeWalk
namespace Go.Proofs.YtmioocmjlbjfpaaDoor
open Go.RowKit
open Pl
open Go.ChangeMaps (setBlock heap_setBlock_same heap_setBlock_other)

/-- The number of the kind with this name, from 0. -/
def kindIx (l : List UInt8) : Option Nat := (List.range 12).find? fun i => nameTab i == l
theorem name_inj : ∀ i, i < 12 → ∀ j, j < 12 → nameTab i = nameTab j → i = j := by
  refine under12 ?_ ?_ ?_ ?_ ?_ ?_ ?_ ?_ ?_ ?_ ?_ ?_ <;> exact under12 (by decide) (by decide) (by decide) (by decide) (by decide) (by decide) (by decide) (by decide) (by decide) (by decide) (by decide) (by decide)
theorem kindIx_yes {l : List UInt8} {i : Nat} (hi : i < 12) (h : nameTab i = l) : kindIx l = some i := by
  unfold kindIx
  cases e : (List.range 12).find? (fun i => nameTab i == l) with
  | none =>
    have := List.find?_eq_none.1 e i (List.mem_range.2 hi)
    simp [h] at this
  | some j =>
    have h1 := List.find?_some e
    have h2 := List.mem_range.1 (List.mem_of_find?_eq_some e)
    have h3 : nameTab j = l := by simpa using h1
    rw [name_inj i hi j h2 (h.trans h3.symm)]
theorem kindIx_no {l : List UInt8} (h : ∀ i, i < 12 → nameTab i ≠ l) : kindIx l = none := by
  unfold kindIx
  rw [List.find?_eq_none]
  intro i hi
  have := h i (List.mem_range.1 hi)
  simp [this]
theorem kindIx_some {l : List UInt8} {i : Nat} (h : kindIx l = some i) : i < 12 ∧ nameTab i = l := by
  unfold kindIx at h
  have h1 := List.find?_some h
  exact ⟨List.mem_range.1 (List.mem_of_find?_eq_some h), by simpa using h1⟩

/-- A walk over the table is under way. -/
def IterAt (W : World) (r b : Nat) (seen : Array Nat) : Prop := W.heap[r]? = some (.mapIter (some b) 12 seen 12)
theorem IterAt.lt {W : World} {r b : Nat} {seen : Array Nat} (h : IterAt W r b seen) : r < W.heap.size := lt_of_heap h
theorem IterAt.below {W W' : World} {r b : Nat} {seen : Array Nat} (h : IterAt W r b seen) (hb : Below W.heap.size W W') : IterAt W' r b seen := by
  have := h.lt
  unfold IterAt at h ⊢; rw [hb.block r this]; exact h
def tabLeft (r : Nat) (W : World) : Nat := match W.heap[r]? with
  | some (.mapIter _ _ seen _) => (leftOf tableEs seen).size
  | _ => 0
theorem IterAt.left {W : World} {r b : Nat} {seen : Array Nat} (h : IterAt W r b seen) : tabLeft r W = (leftOf tableEs seen).size := by
  unfold IterAt at h; simp only [tabLeft, h]

theorem wpList_range_tab (W : World) {ops : Array Oper} {rest : List Oper} {o : Oper} {a : Act} {Q : Exit → Act → World → Prop} (hg : o.guard = none) (m : Operand) (hop : o.op = Op.range 52 m) (b : Nat) (hm : a.eval m = .map (some b)) (hT : TabAt W b)
    (hK : ∀ W', TabAt W' b → IterAt W' W.heap.size b #[] → Below W.heap.size W W' → wpList Tryd.prog ops Q rest (a.put o.dst (.pointer (some ⟨W.heap.size, 0, none⟩))) W') :
    wpList Tryd.prog ops Q (o :: rest) a W := by
  refine wpList_plain hg fun K' hK' => ?_
  have hrun := run_range_map (P := Tryd.prog) W 52 3 62 b tableEs 12 Tryd.underlying52 hT
  unfold Oper.wp
  simp [execOp, hop, hm, hrun, Result.andThen]
  exact hK' _ _ (hK _ (hT.alloc _) (MapKept.heap_alloc W _).1 ((Below.refl _ _).alloc (Nat.le_refl _) _))

theorem wpList_next_tab (W : World) {ops : Array Oper} {rest : List Oper} {o : Oper} {a : Act} {Q : Exit → Act → World → Prop} (hg : o.guard = none) (it : Operand) (hop : o.op = Op.next it false) (r b : Nat) (seen : Array Nat)
    (hit : a.eval it = .pointer (some ⟨r, 0, none⟩)) (hT : TabAt W b) (hI : IterAt W r b seen)
    (hDone : (∀ i, i < 12 → seen.contains i = true) → wpList Tryd.prog ops Q rest (a.put o.dst (.tuple #[.bool false])) W)
    (hMore : ∀ i, i < 12 → ∀ W', TabAt W' b → IterAt W' r b (seen.push i) → W.grownBy W' (some r) → W'.heap.size = W.heap.size → (leftOf tableEs (seen.push i)).size < (leftOf tableEs seen).size →
      (Instr.entry (.pointer (some ⟨r, 0, none⟩))).run Tryd.prog W' = .ok (.tuple #[.int .i64 ((i + 1 : Nat) : Int), formAt i]) W' → wpList Tryd.prog ops Q rest (a.put o.dst (.tuple #[.bool true, .int .i64 ((i + 1 : Nat) : Int), formAt i])) W') :
    wpList Tryd.prog ops Q (o :: rest) a W := by
  refine wpList_plain hg fun K' hK' => ?_
  unfold Oper.wp
  have hne : r ≠ b := by
    intro e; subst e
    unfold TabAt at hT; unfold IterAt at hI
    rw [hT] at hI; cases hI
  rcases run_next_at (P := Tryd.prog) W o.type r b 12 12 seen tableEs 12 hI hT (fun x hx => by obtain ⟨i, hi, rfl⟩ := mem_table hx; exact hi) (Nat.le_refl _) with ⟨h0, hrun⟩ | ⟨e, he, w1, hal, hrun⟩
  · simp [execOp, hop, hit, hrun, Result.andThen]
    exact hK' _ _ (hDone fun i hi => all_seen tableEs seen h0 (entryAt i) (table_mem i hi))
  · obtain ⟨i, hi, rfl⟩ := mem_table (mem_left he).1
    have hI1 : w1.heap[r]? = some (.mapIter (some b) 12 seen 12) := by rcases hal with rfl | rfl <;> exact hI
    have hT1 : w1.heap[b]? = some (.map tableEs 12) := by rcases hal with rfl | rfl <;> exact hT
    have hT2 : (setBlock w1 r (.mapIter (some b) 12 (seen.push i) 12)).heap[b]? = some (.map tableEs 12) := by
      simp only [setBlock, Array.getElem?_setIfInBounds]
      rw [if_neg hne]; exact hT1
    have hI2 : (setBlock w1 r (.mapIter (some b) 12 (seen.push i) 12)).heap[r]? = some (.mapIter (some b) 12 (seen.push i) 12) := by
      have := lt_of_heap hI1
      simp only [setBlock, Array.getElem?_setIfInBounds]
      simp [this]
    have hrun' : (Instr.next (.pointer (some ⟨r, 0, none⟩)) false o.type).run Tryd.prog W = .ok (.tuple #[.bool true, .int .i64 ((i + 1 : Nat) : Int), formAt i]) (setBlock w1 r (.mapIter (some b) 12 (seen.push i) 12)) := hrun
    have hen := run_entry_at (P := Tryd.prog) (setBlock w1 r (.mapIter (some b) 12 (seen.push i) 12)) r b 12 seen tableEs 12 (entryAt i) hI2 hT2 (table_mem i hi) (by decide)
    have hfin := hMore i hi _ hT2 hI2 (by
      rcases hal with rfl | rfl
      all_goals exact ⟨rfl, rfl, rfl, by simp [setBlock], fun j _ hj => by
        simp only [setBlock]; exact Array.getElem?_setIfInBounds_ne (fun e => hj (by rw [e]))⟩) (by rcases hal with rfl | rfl <;> simp [setBlock]) (left_shrinks tableEs seen (entryAt i) he) hen
    generalize ((i + 1 : Nat) : Int) = kk at *
    simp [execOp, hop, hit, hrun', Result.andThen]
    exact hK' _ _ hfin

def kindNo (l : List UInt8) : Int := match kindIx l with | some i => ((i + 1 : Nat) : Int) | none => 0
theorem ret_ib {a b : Int} {p q : Bool} (h : a = b) (k : p = q) : Ending.returned (.tuple #[.int .i64 a, .bool p]) = .returned (.tuple #[.int .i64 b, .bool q]) := by rw [h, k]
theorem push_contains (seen : Array Nat) (i j : Nat) : (seen.push i).contains j = (seen.contains j || j == i) := contains_push seen i j

set_option maxHeartbeats 4000000 in
set_option maxRecDepth 100000 in
theorem kindOf_any (b : Nat) (l : List UInt8) (w : World) (hT : TabAt w b) :
    Calls Tryd.prog 27 #[.map (some b), .string (B l)] w fun e w' => e = .returned (.tuple #[.int .i64 (kindNo l), .bool (kindIx l).isSome]) ∧ Below w.heap.size w w' := by
  go_enter Tryd.func27, Tryd.ntmps27
  go_wp2_with (first | (refine wpList_range_tab _ rfl _ rfl b rfl hT ?_; intro w0 hT0 hI0 hb0))
  go_frame
  go_loopw [6] (fun _ wr => ∃ seen : Array Nat, TabAt wr b ∧ IterAt wr w.heap.size b seen ∧ (∀ i, i < 12 → i ∈ seen → nameTab i ≠ l) ∧ Below w.heap.size w wr) (fun _ wr => tabLeft w.heap.size wr)
  case atStart => exact ⟨#[], hT0, hI0, fun i _ h => by simp at h, hb0⟩
  case round =>
    obtain ⟨seen, hTr, hIr, hs, hbr⟩ := hrel
    have Hs := Lib.hid hs
    clear hs hT0 hI0 hb0 hT
    go_wp2_with (first | (refine wpList_next_tab _ rfl _ rfl w.heap.size b seen rfl hTr hIr ?_ ?_))
    · intro hall
      have K1 := Lib.hid (kindIx_no (fun i hi => Hs.out i hi (by simpa using hall i hi)))
      clear hall
      go_wp2_with fail
      go_ret2
      exact ⟨ret_ib (by unfold kindNo; rw [K1.out]) (by rw [K1.out]; rfl), hbr⟩
    · intro i hi w1 hT1 hI1 hg1 hs1 hlt1 hen
      rw [formAt_eq i hi] at hen
      rw [formAt_eq i hi]
      have hfin := fun (h : nameTab i ≠ l) => Lib.hid (show ∀ j, j < 12 → j ∈ seen.push i → nameTab j ≠ l by
        intro j hj hjs
        rcases Array.mem_push.1 hjs with h1 | rfl
        · exact Hs.out j hj h1
        · exact h)
      have hyes := fun (h : nameTab i = l) => Lib.hid (kindIx_yes hi h)
      have hlft := hI1.left
      have hlft0 := hIr.left
      have hb1 : Below w.heap.size w w1 := hbr.grown hg1 (by have := hIr.lt; omega) (fun k hk => by cases hk; exact Nat.le_refl _)
      have hsz1 := hI1.lt
      by_cases hnl : nameTab i = l
      · have K1 := Lib.hid (hyes hnl).out
        have hq : ((B (nameTab i)).toList == (B l).toList) = true := by rw [hnl]; simp
        clear hfin hyes hnl hI1 hT1 hTr hIr hg1 hlt1 hlft hlft0
        generalize B (nameTab i) = nm at *
        have hkd := Lib.hid (show kindNo l = (i : Int) + 1 by unfold kindNo; rw [K1.out]; simp)
        generalize (i : Int) + 1 = kd at *
        go_wp2_with fail
        go_ret2
        exact ⟨ret_ib hkd.out.symm (by rw [K1.out]; rfl), hb1.alloc (by omega) _⟩
      · have K1 := Lib.hid (hfin hnl).out
        have hq : ((B (nameTab i)).toList == (B l).toList) = false := by
          rw [beq_eq_false_iff_ne, ByteArray.toList_eq, ByteArray.toList_eq, toList_B, toList_B]; exact hnl
        clear hfin hyes hnl
        generalize B (nameTab i) = nm at *
        generalize (i : Int) + 1 = kd at *
        have hT2 : ∀ o, TabAt (w1.alloc o) b := fun o => hT1.alloc o
        have hI2 : ∀ o, IterAt (w1.alloc o) w.heap.size b (seen.push i) := fun o => hI1.below ((Below.refl _ _).alloc (Nat.le_refl _) o)
        have hT2' := Lib.hid hT2
        have hI2' := Lib.hid hI2
        clear hT2 hI2 hI1 hT1 hTr hg1 hlft
        go_wp2_with fail
        go_roundw
        case rel => exact ⟨seen.push i, hT2'.out _, hI2'.out _, K1.out, hb1.alloc (by omega) _⟩
        case measure => rw [(hI2'.out _).left, hIr.left]; exact hlt1
end Go.Proofs.YtmioocmjlbjfpaaDoor
