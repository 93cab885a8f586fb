/-
  Modes; the frame of a scheme.
-/
import Derived.Test.YtadaijepalhohabDoorSA
import Derived.Deep.RegionHeld3
import Derived.IntWalk
namespace Go.Proofs.YtadaijepalhohabDoor
open Go.RowKit
open Pl

def modeB (modes m : Int) : Bool := decide (0 ≤ m) && decide (m < modes)
def frameB (modes acc : Int) (n : Nat) : Bool := decide (1 ≤ modes) && (decide (modes ≤ 8) && (decide (1 ≤ acc) && (decide (acc < 2 ^ modes.toNat) && decide (n ≤ 64))))

theorem lt_of_heap {W : World} {b : Nat} {o : Obj} (h : W.heap[b]? = some o) : b < W.heap.size := by
  rcases Nat.lt_or_ge b W.heap.size with hlt | hge
  · exact hlt
  · rw [Array.getElem?_eq_none hge] at h; cases h
/-- The block of a scheme that a function laid. -/
def SchBlock (W : World) (b : Nat) (modes acc v : Value) : Prop := W.heap[b]? = some (.cells #[modes, acc, v] 28 (0, 0))
theorem SchBlock.new (w : World) (modes acc v : Value) : SchBlock (w.alloc (.cells #[modes, acc, v] 28)) w.heap.size modes acc v := heap_alloc_new w _
theorem SchBlock.below {W W' : World} {b : Nat} {modes acc v : Value} (h : SchBlock W b modes acc v) (hb : Below W.heap.size W W') : SchBlock W' b modes acc v := by
  have hlt := lt_of_heap h
  unfold SchBlock at h ⊢; rw [hb.block b hlt]; exact h
theorem SchBlock.cells {W : World} {b : Nat} {modes acc v : Value} (h : SchBlock W b modes acc v) : W.cell? ⟨b, 0, none⟩ = some modes ∧ W.cell? ⟨b, 1, none⟩ = some acc ∧ W.cell? ⟨b, 2, none⟩ = some v := by
  unfold SchBlock at h
  refine ⟨?_, ?_, ?_⟩ <;> simp [World.cell?, h]
set_option maxHeartbeats 400000 in
theorem isMode_any (modes acc m : Int) (a : Option Addr) (n c : Nat) (w : World) :
    Calls Tryd.prog 54 #[.agg #[.int .i64 modes, .int .u8 acc, .slice a n c], .int .i64 m] w fun e w' => e = .returned (.bool (modeB modes m)) ∧ Below w.heap.size w w' := by
  have hb : Below w.heap.size w (w.alloc (.cells #[.int .i64 modes, .int .u8 acc, .slice a n c] 28)) := (Below.refl _ _).alloc (Nat.le_refl _) _
  by_cases h1 : 0 ≤ m
  · by_cases h2 : m < modes
    · have E := Lib.hid (show modeB modes m = true by unfold modeB; rw [decide_eq_true h1, decide_eq_true h2]; rfl)
      go_enter Tryd.func54, Tryd.ntmps54
      go_wp2_with fail
      go_ret
      exact ⟨ret_bool E.out.symm, hb⟩
    · have E := Lib.hid (show modeB modes m = false by unfold modeB; rw [decide_eq_true h1, decide_eq_false h2]; rfl)
      go_enter Tryd.func54, Tryd.ntmps54
      go_wp2_with fail
      go_ret
      exact ⟨ret_bool E.out.symm, hb⟩
  · have E := Lib.hid (show modeB modes m = false by unfold modeB; rw [decide_eq_false h1]; rfl)
    go_enter Tryd.func54, Tryd.ntmps54
    go_wp2_with fail
    go_ret
    exact ⟨ret_bool E.out.symm, hb⟩

theorem below_drewN {b : Nat} {W W' : World} (h : Below b W W') : ∀ n, Below b W (W'.drewN n)
  | 0 => h
  | n + 1 => (below_drewN h n).drew
set_option maxHeartbeats 1000000 in
set_option maxRecDepth 100000 in
theorem framed_any (modes acc : Int) (a : Option Addr) (n c : Nat) (w : World) (hm0 : -9223372036854775808 ≤ modes) (hm1 : modes ≤ 9223372036854775807) (ha0 : 0 ≤ acc) (ha1 : acc ≤ 255) :
    Calls Tryd.prog 46 #[.agg #[.int .i64 modes, .int .u8 acc, .slice a n c]] w fun e w' => e = .returned (.bool (frameB modes acc n)) ∧ Below w.heap.size w w' := by
  have HB := Lib.hid (show Below w.heap.size w (w.alloc (.cells #[.int .i64 modes, .int .u8 acc, .slice a n c] 28)) from (Below.refl _ _).alloc (Nat.le_refl _) _)
  have hwa : IntKind.i64.wrap acc = acc := IntWalk.i64_in _ (by omega)
  have hw2 : IntKind.i64.wrap 2 = 2 := IntWalk.i64_in _ (by omega)
  have hw4 : IntKind.i64.wrap 4 = 4 := IntWalk.i64_in _ (by omega)
  have hw8 : IntKind.i64.wrap 8 = 8 := IntWalk.i64_in _ (by omega)
  have hw16 : IntKind.i64.wrap 16 = 16 := IntWalk.i64_in _ (by omega)
  have hw32 : IntKind.i64.wrap 32 = 32 := IntWalk.i64_in _ (by omega)
  have hw64 : IntKind.i64.wrap 64 = 64 := IntWalk.i64_in _ (by omega)
  have hw128 : IntKind.i64.wrap 128 = 128 := IntWalk.i64_in _ (by omega)
  have hw256 : IntKind.i64.wrap 256 = 256 := IntWalk.i64_in _ (by omega)
  have SB := Lib.hid (SchBlock.new w (.int .i64 modes) (.int .u8 acc) (.slice a n c))
  by_cases h1 : 1 ≤ modes
  · have d1 : decide (1 ≤ modes) = true := decide_eq_true h1
    by_cases h2 : modes ≤ 8
    · have d2 : decide (modes ≤ 8) = true := decide_eq_true h2
      by_cases h3 : 1 ≤ acc
      · have d3 : decide (1 ≤ acc) = true := decide_eq_true h3
        by_cases h4 : acc < 2 ^ modes.toNat
        · have d4 : decide (acc < 2 ^ modes.toNat) = true := decide_eq_true h4
          by_cases h5 : n ≤ 64
          · have E := Lib.hid (show frameB modes acc n = true by unfold frameB; rw [d1, d2, d3, d4, decide_eq_true h5]; rfl)
            have d5 : decide ((n : Int) ≤ 64) = true := decide_eq_true (by omega)
            rcases (show modes = 1 ∨ modes = 2 ∨ modes = 3 ∨ modes = 4 ∨ modes = 5 ∨ modes = 6 ∨ modes = 7 ∨ modes = 8 by omega) with rfl | rfl | rfl | rfl | rfl | rfl | rfl | rfl
            all_goals
              (first | (change decide (acc < 2) = true at d4) | (change decide (acc < 4) = true at d4) | (change decide (acc < 8) = true at d4) | (change decide (acc < 16) = true at d4) | (change decide (acc < 32) = true at d4) | (change decide (acc < 64) = true at d4) | (change decide (acc < 128) = true at d4) | (change decide (acc < 256) = true at d4))
              go_enter Tryd.func46, Tryd.ntmps46
              go_wp2_with fail
              generalize w.alloc _ = w1 at *
              obtain ⟨c0, c1, c2⟩ := SB.out.cells
              go_quiet (fail)
              go_wp2_with fail
              go_ret
              exact ⟨ret_bool E.out.symm, below_drewN HB.out _⟩
          · have E := Lib.hid (show frameB modes acc n = false by unfold frameB; rw [d1, d2, d3, d4, decide_eq_false h5]; rfl)
            have d5 : decide ((n : Int) ≤ 64) = false := decide_eq_false (by omega)
            rcases (show modes = 1 ∨ modes = 2 ∨ modes = 3 ∨ modes = 4 ∨ modes = 5 ∨ modes = 6 ∨ modes = 7 ∨ modes = 8 by omega) with rfl | rfl | rfl | rfl | rfl | rfl | rfl | rfl
            all_goals
              (first | (change decide (acc < 2) = true at d4) | (change decide (acc < 4) = true at d4) | (change decide (acc < 8) = true at d4) | (change decide (acc < 16) = true at d4) | (change decide (acc < 32) = true at d4) | (change decide (acc < 64) = true at d4) | (change decide (acc < 128) = true at d4) | (change decide (acc < 256) = true at d4))
              go_enter Tryd.func46, Tryd.ntmps46
              go_wp2_with fail
              generalize w.alloc _ = w1 at *
              obtain ⟨c0, c1, c2⟩ := SB.out.cells
              go_quiet (fail)
              go_wp2_with fail
              go_ret
              exact ⟨ret_bool E.out.symm, below_drewN HB.out _⟩
        · have E := Lib.hid (show frameB modes acc n = false by unfold frameB; rw [d1, d2, d3, decide_eq_false h4]; rfl)
          have d4 : decide (acc < 2 ^ modes.toNat) = false := decide_eq_false h4
          rcases (show modes = 1 ∨ modes = 2 ∨ modes = 3 ∨ modes = 4 ∨ modes = 5 ∨ modes = 6 ∨ modes = 7 ∨ modes = 8 by omega) with rfl | rfl | rfl | rfl | rfl | rfl | rfl | rfl
          all_goals
            (first | (change decide (acc < 2) = false at d4) | (change decide (acc < 4) = false at d4) | (change decide (acc < 8) = false at d4) | (change decide (acc < 16) = false at d4) | (change decide (acc < 32) = false at d4) | (change decide (acc < 64) = false at d4) | (change decide (acc < 128) = false at d4) | (change decide (acc < 256) = false at d4))
            go_enter Tryd.func46, Tryd.ntmps46
            go_wp2_with fail
            generalize w.alloc _ = w1 at *
            obtain ⟨c0, c1, c2⟩ := SB.out.cells
            go_quiet (fail)
            go_wp2_with fail
            go_ret
            exact ⟨ret_bool E.out.symm, below_drewN HB.out _⟩
      · have E := Lib.hid (show frameB modes acc n = false by unfold frameB; rw [d1, d2, decide_eq_false h3]; rfl)
        have d3 : decide (1 ≤ acc) = false := decide_eq_false h3
        go_enter Tryd.func46, Tryd.ntmps46
        go_wp2_with fail
        generalize w.alloc _ = w1 at *
        obtain ⟨c0, c1, c2⟩ := SB.out.cells
        go_quiet (fail)
        go_wp2_with fail
        go_ret
        exact ⟨ret_bool E.out.symm, below_drewN HB.out _⟩
    · have E := Lib.hid (show frameB modes acc n = false by unfold frameB; rw [d1, decide_eq_false h2]; rfl)
      have d2 : decide (modes ≤ 8) = false := decide_eq_false h2
      go_enter Tryd.func46, Tryd.ntmps46
      go_wp2_with fail
      generalize w.alloc _ = w1 at *
      obtain ⟨c0, c1, c2⟩ := SB.out.cells
      go_quiet (fail)
      go_wp2_with fail
      go_ret
      exact ⟨ret_bool E.out.symm, below_drewN HB.out _⟩
  · have E := Lib.hid (show frameB modes acc n = false by unfold frameB; rw [decide_eq_false h1]; rfl)
    have d1 : decide (1 ≤ modes) = false := decide_eq_false h1
    go_enter Tryd.func46, Tryd.ntmps46
    go_wp2_with fail
    generalize w.alloc _ = w1 at *
    obtain ⟨c0, c1, c2⟩ := SB.out.cells
    go_quiet (fail)
    go_wp2_with fail
    go_ret
    exact ⟨ret_bool E.out.symm, below_drewN HB.out _⟩
end Go.Proofs.YtadaijepalhohabDoor
