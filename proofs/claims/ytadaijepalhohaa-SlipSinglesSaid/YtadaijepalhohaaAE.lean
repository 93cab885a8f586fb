/-
  Valid.
-/
import Derived.Test.YtadaijepalhohaaAD
namespace Go.Proofs.Ytadaijepalhohaa
open Go.RowKit
open Pl

/-- The block of slips that a function laid. -/
def SlBlock (W : World) (b : Nat) (s : Sl) (v : Value) : Prop := W.heap[b]? = some (.cells #[.int .i64 s.swap, .int .i64 s.drop, .int .i64 s.add, .int .i64 s.put, v] 32 (0, 0))
theorem SlBlock.new (w : World) (s : Sl) (v : Value) : SlBlock (w.alloc (.cells #[.int .i64 s.swap, .int .i64 s.drop, .int .i64 s.add, .int .i64 s.put, v] 32)) w.heap.size s v := heap_alloc_new w _
theorem SlBlock.below {W W' : World} {b : Nat} {s : Sl} {v : Value} (h : SlBlock W b s v) (hb : Below W.heap.size W W') : SlBlock W' b s v := by
  have hlt := lt_of_heap h
  unfold SlBlock at h ⊢; rw [hb.block b hlt]; exact h
theorem SlBlock.cells {W : World} {b : Nat} {s : Sl} {v : Value} (h : SlBlock W b s v) : W.cell? ⟨b, 0, none⟩ = some (.int .i64 s.swap) ∧ W.cell? ⟨b, 1, none⟩ = some (.int .i64 s.drop) ∧ W.cell? ⟨b, 2, none⟩ = some (.int .i64 s.add) ∧ W.cell? ⟨b, 3, none⟩ = some (.int .i64 s.put) ∧ W.cell? ⟨b, 4, none⟩ = some v := by
  unfold SlBlock at h
  refine ⟨?_, ?_, ?_, ?_, ?_⟩ <;> simp [World.cell?, h]
def validS (s : Sl) : Bool := costB s.swap && (costB s.drop && (costB s.add && (costB s.put && alikeB s.alike)))
theorem four_0 (a b c d : Int) (W : World) : (Instr.index 69 (.agg #[.int .i64 a, .int .i64 b, .int .i64 c, .int .i64 d]) (.int .i64 0)).run Try.prog W = .ok (.int .i64 a) W := by kernel_rfl
theorem four_1 (a b c d : Int) (W : World) : (Instr.index 69 (.agg #[.int .i64 a, .int .i64 b, .int .i64 c, .int .i64 d]) (.int .i64 1)).run Try.prog W = .ok (.int .i64 b) W := by kernel_rfl
theorem four_2 (a b c d : Int) (W : World) : (Instr.index 69 (.agg #[.int .i64 a, .int .i64 b, .int .i64 c, .int .i64 d]) (.int .i64 2)).run Try.prog W = .ok (.int .i64 c) W := by kernel_rfl
theorem four_3 (a b c d : Int) (W : World) : (Instr.index 69 (.agg #[.int .i64 a, .int .i64 b, .int .i64 c, .int .i64 d]) (.int .i64 3)).run Try.prog W = .ok (.int .i64 d) W := by kernel_rfl
/-- The first n costs are right. -/
def costsB (s : Sl) : Nat → Bool
  | 0 => true
  | 1 => costB s.swap
  | 2 => costB s.swap && costB s.drop
  | 3 => costB s.swap && (costB s.drop && costB s.add)
  | _ => costB s.swap && (costB s.drop && (costB s.add && costB s.put))
set_option maxHeartbeats 1000000 in
set_option maxRecDepth 100000 in
theorem Valid_any (s : Sl) (a : Option Addr) (c : Nat) (w : World) (hx : AlsAt w w.heap.size (.slice a s.alike.length c) s.alike) (hl : s.alike.length ≤ maxLen) (hc : s.alike.length ≤ c) :
    Calls Try.prog 20 #[.agg #[.int .i64 s.swap, .int .i64 s.drop, .int .i64 s.add, .int .i64 s.put, .slice a s.alike.length c]] w fun e w' => e = .returned (.bool (validS s)) ∧ Below w.heap.size w w' := by
  have b1 := (Below.refl w.heap.size w).alloc (Nat.le_refl _) (.cells #[.int .i64 s.swap, .int .i64 s.drop, .int .i64 s.add, .int .i64 s.put, .slice a s.alike.length c] 32)
  have SB := Lib.hid (SlBlock.new w s (.slice a s.alike.length c))
  have CV := fun W (h : Below w.heap.size w W) => Lib.hid (validAlike_any s.alike a c W (hx.on h) hl hc)
  have HB := Lib.hid b1
  clear hx b1 hl hc
  have F0 := fun W => four_0 s.swap s.drop s.add s.put W
  have F1 := fun W => four_1 s.swap s.drop s.add s.put W
  have F2 := fun W => four_2 s.swap s.drop s.add s.put W
  have F3 := fun W => four_3 s.swap s.drop s.add s.put W
  go_enter Try.func20, Try.ntmps20
  go_upto_region 1 with fail
  generalize w.alloc _ = w1 at *
  obtain ⟨q0, q1, q2, q3, q4⟩ := SB.out.cells
  go_wp2_with fail
  clear q0 q1 q2 q3 q4
  go_loopw [14] (fun iv wr => wr = w1 ∧ ∃ i : Nat, iv = .int .i64 (i : Nat) ∧ i ≤ 4 ∧ costsB s i = true) (fun iv _ => 4 - (intOf iv).toNat)
  case atStart => exact ⟨rfl, 0, rfl, by omega, rfl⟩
  case round =>
    obtain ⟨rfl, i, rfl, hi, hcs⟩ := hrel
    rcases (show i = 0 ∨ i = 1 ∨ i = 2 ∨ i = 3 ∨ i = 4 by omega) with rfl | rfl | rfl | rfl | rfl
    · have L := fun W => isCost_any s.swap W
      cases o : costB s.swap with
      | true =>
        rw [o] at L
        have HO := Lib.hid (show costsB s 1 = true from o)
        clear o hcs
        go_wp2_with (((with_reducible refine (L _).mono ?_); rintro e w' ⟨rfl, rfl⟩))
        go_roundw
        case rel => exact ⟨trivial, 1, by go_num, by omega, HO.out⟩
        case measure => simp [intOf]
      | false =>
        rw [o] at L
        have HO := Lib.hid (show validS s = false by unfold validS; rw [o]; rfl)
        clear o hcs
        go_wp2_with (((with_reducible refine (L _).mono ?_); rintro e w' ⟨rfl, rfl⟩))
        go_ret
        exact ⟨ret_bool HO.out.symm, HB.out⟩
    · have L := fun W => isCost_any s.drop W
      cases o : costB s.drop with
      | true =>
        rw [o] at L
        have HO := Lib.hid (show costsB s 2 = true by have h : costB s.swap = true := hcs; show (costB s.swap && costB s.drop) = true; rw [h, o]; rfl)
        clear o hcs
        go_wp2_with (((with_reducible refine (L _).mono ?_); rintro e w' ⟨rfl, rfl⟩))
        go_roundw
        case rel => exact ⟨trivial, 2, by go_num, by omega, HO.out⟩
        case measure => simp [intOf]
      | false =>
        rw [o] at L
        have HO := Lib.hid (show validS s = false by unfold validS; rw [o]; simp)
        clear o hcs
        go_wp2_with (((with_reducible refine (L _).mono ?_); rintro e w' ⟨rfl, rfl⟩))
        go_ret
        exact ⟨ret_bool HO.out.symm, HB.out⟩
    · have L := fun W => isCost_any s.add W
      cases o : costB s.add with
      | true =>
        rw [o] at L
        have HO := Lib.hid (show costsB s 3 = true by have h : (costB s.swap && costB s.drop) = true := hcs; show (costB s.swap && (costB s.drop && costB s.add)) = true; rw [o]; simpa using h)
        clear o hcs
        go_wp2_with (((with_reducible refine (L _).mono ?_); rintro e w' ⟨rfl, rfl⟩))
        go_roundw
        case rel => exact ⟨trivial, 3, by go_num, by omega, HO.out⟩
        case measure => simp [intOf]
      | false =>
        rw [o] at L
        have HO := Lib.hid (show validS s = false by unfold validS; rw [o]; simp)
        clear o hcs
        go_wp2_with (((with_reducible refine (L _).mono ?_); rintro e w' ⟨rfl, rfl⟩))
        go_ret
        exact ⟨ret_bool HO.out.symm, HB.out⟩
    · have L := fun W => isCost_any s.put W
      cases o : costB s.put with
      | true =>
        rw [o] at L
        have HO := Lib.hid (show costsB s 4 = true by have h : (costB s.swap && (costB s.drop && costB s.add)) = true := hcs; show (costB s.swap && (costB s.drop && (costB s.add && costB s.put))) = true; rw [o]; simpa using h)
        clear o hcs
        go_wp2_with (((with_reducible refine (L _).mono ?_); rintro e w' ⟨rfl, rfl⟩))
        go_roundw
        case rel => exact ⟨trivial, 4, by go_num, by omega, HO.out⟩
        case measure => simp [intOf]
      | false =>
        rw [o] at L
        have HO := Lib.hid (show validS s = false by unfold validS; rw [o]; simp)
        clear o hcs
        go_wp2_with (((with_reducible refine (L _).mono ?_); rintro e w' ⟨rfl, rfl⟩))
        go_ret
        exact ⟨ret_bool HO.out.symm, HB.out⟩
    · have HO := Lib.hid (show validS s = alikeB s.alike by
        have h : (costB s.swap && (costB s.drop && (costB s.add && costB s.put))) = true := hcs
        unfold validS
        simp only [Bool.and_eq_true] at h
        rw [h.1, h.2.1, h.2.2.1, h.2.2.2]; rfl)
      have C := (CV wr HB.out).out
      clear hcs
      obtain ⟨q0, q1, q2, q3, q4⟩ := SB.out.cells
      go_wp2_with fail
      refine C.mono ?_
      rintro e w' ⟨rfl, hb⟩
      have HW := Lib.hid (HB.out.trans (hb.mono HB.out.size))
      clear hb C CV
      go_wp2_with fail
      go_ret
      exact ⟨ret_bool HO.out.symm, HW.out⟩
end Go.Proofs.Ytadaijepalhohaa
