/-
  Characters: kindOf, only, Letters, Word.
-/
import Derived.Test.YtadaijepalhohabDoorRows
import Derived.Test.YtadaijepalhohabDoorSP0
import Derived.WalkKit
import Derived.WalkSpells
import Derived.WalkLawsBesides
import Derived.Deep.QuietTactic
import Derived.BigQuiet
import Derived.Laws.RangeAny
import Derived.Lib.Hide
namespace Go.Proofs.YtadaijepalhohabDoor
open Go.RowKit
open Pl

theorem ret_bool {a b : Bool} (h : a = b) : Ending.returned (.bool a) = .returned (.bool b) := by rw [h]
theorem ret_int {k : IntKind} {a b : Int} (h : a = b) : Ending.returned (.int k a) = .returned (.int k b) := by rw [h]
/-- The package's table of stretches. -/
def StrTab (w : World) : Prop := w.heap[0]? = some (.cells #[.int .u8 97, .int .u8 122, .int .i64 1, .int .u8 65, .int .u8 90, .int .i64 2, .int .u8 48, .int .u8 57, .int .i64 4] 86 (0, 0))
theorem StrTab.below {w w' : World} {b : Nat} (h : StrTab w) (hb : Below b w w') (h0 : 0 < b) : StrTab w' := by
  unfold StrTab at h ⊢; rw [hb.block _ h0]; exact h

theorem tab_0 (W : World) : (Instr.index 86 (.agg #[.int .u8 97, .int .u8 122, .int .i64 1, .int .u8 65, .int .u8 90, .int .i64 2, .int .u8 48, .int .u8 57, .int .i64 4]) (.int .i64 0)).run Tryd.prog W = .ok (.agg #[.int .u8 97, .int .u8 122, .int .i64 1]) W := by kernel_rfl
theorem tab_1 (W : World) : (Instr.index 86 (.agg #[.int .u8 97, .int .u8 122, .int .i64 1, .int .u8 65, .int .u8 90, .int .i64 2, .int .u8 48, .int .u8 57, .int .i64 4]) (.int .i64 1)).run Tryd.prog W = .ok (.agg #[.int .u8 65, .int .u8 90, .int .i64 2]) W := by kernel_rfl
theorem tab_2 (W : World) : (Instr.index 86 (.agg #[.int .u8 97, .int .u8 122, .int .i64 1, .int .u8 65, .int .u8 90, .int .i64 2, .int .u8 48, .int .u8 57, .int .i64 4]) (.int .i64 2)).run Tryd.prog W = .ok (.agg #[.int .u8 48, .int .u8 57, .int .i64 4]) W := by kernel_rfl

set_option maxHeartbeats 1000000 in
set_option maxRecDepth 100000 in
theorem kindOf_any (c : UInt8) (w : World) (hT : StrTab w) :
    Calls Tryd.prog 59 #[.int .u8 (c.toNat : Int)] w fun e w' => e = .returned (.int .i64 (kindB c : Int)) ∧ Below w.heap.size w w' := by
  unfold StrTab at hT
  have t0 : w.cell? ⟨0, 0, none⟩ = some (.int .u8 97) := by simp [World.cell?, hT]
  have t1 : w.cell? ⟨0, 1, none⟩ = some (.int .u8 122) := by simp [World.cell?, hT]
  have t2 : w.cell? ⟨0, 2, none⟩ = some (.int .i64 1) := by simp [World.cell?, hT]
  have t3 : w.cell? ⟨0, 3, none⟩ = some (.int .u8 65) := by simp [World.cell?, hT]
  have t4 : w.cell? ⟨0, 4, none⟩ = some (.int .u8 90) := by simp [World.cell?, hT]
  have t5 : w.cell? ⟨0, 5, none⟩ = some (.int .i64 2) := by simp [World.cell?, hT]
  have t6 : w.cell? ⟨0, 6, none⟩ = some (.int .u8 48) := by simp [World.cell?, hT]
  have t7 : w.cell? ⟨0, 7, none⟩ = some (.int .u8 57) := by simp [World.cell?, hT]
  have t8 : w.cell? ⟨0, 8, none⟩ = some (.int .i64 4) := by simp [World.cell?, hT]
  clear hT
  go_enter Tryd.func59, Tryd.ntmps59
  go_wp2_with fail
  clear t0 t1 t2 t3 t4 t5 t6 t7 t8
  have T0 := tab_0
  have T1 := tab_1
  have T2 := tab_2
  go_loopw [6] (fun i wr => ∃ j : Nat, i = .int .i64 j ∧ j ≤ 3 ∧ (1 ≤ j → ¬ (97 ≤ c.toNat ∧ c.toNat ≤ 122)) ∧ (2 ≤ j → ¬ (65 ≤ c.toNat ∧ c.toNat ≤ 90)) ∧ (3 ≤ j → ¬ (48 ≤ c.toNat ∧ c.toNat ≤ 57)) ∧ Below w.heap.size w wr) (fun i _ => 3 - (intOf i).toNat)
  case atStart => exact ⟨0, rfl, by omega, by omega, by omega, by omega, Below.refl _ _⟩
  case round =>
    obtain ⟨j, rfl, hj, m1, m2, m3, hb⟩ := hrel
    have HB := Lib.hid hb
    clear hb
    have n1 := Lib.hid m1
    have n2 := Lib.hid m2
    have n3 := Lib.hid m3
    clear m1 m2 m3
    rcases (show j = 0 ∨ j = 1 ∨ j = 2 ∨ j = 3 by omega) with rfl | rfl | rfl | rfl
    · by_cases h1 : (97 : Int) ≤ (c.toNat : Int)
      · by_cases h2 : (c.toNat : Int) ≤ 122
        · have E := Lib.hid (show kindB c = 1 by have := n1.out; have := n2.out; unfold kindB; split <;> (try omega) <;> split <;> (try omega) <;> split <;> omega)
          go_wp2_with fail
          go_ret
          exact ⟨ret_int (by rw [E.out]; rfl), HB.out.alloc HB.out.size _⟩
        · go_wp2_with fail
          go_roundw
          case rel => exact ⟨0+1, rfl, by omega, by have := n1.out; omega, by have := n2.out; omega, by have := n3.out; omega, HB.out.alloc HB.out.size _⟩
          case measure => simp [intOf]
      · go_wp2_with fail
        go_roundw
        case rel => exact ⟨0+1, rfl, by omega, by have := n1.out; omega, by have := n2.out; omega, by have := n3.out; omega, HB.out.alloc HB.out.size _⟩
        case measure => simp [intOf]
    · by_cases h1 : (65 : Int) ≤ (c.toNat : Int)
      · by_cases h2 : (c.toNat : Int) ≤ 90
        · have E := Lib.hid (show kindB c = 2 by have := n1.out; have := n2.out; unfold kindB; split <;> (try omega) <;> split <;> (try omega) <;> split <;> omega)
          go_wp2_with fail
          go_ret
          exact ⟨ret_int (by rw [E.out]; rfl), HB.out.alloc HB.out.size _⟩
        · go_wp2_with fail
          go_roundw
          case rel => exact ⟨1+1, rfl, by omega, by have := n1.out; omega, by have := n2.out; omega, by have := n3.out; omega, HB.out.alloc HB.out.size _⟩
          case measure => simp [intOf]
      · go_wp2_with fail
        go_roundw
        case rel => exact ⟨1+1, rfl, by omega, by have := n1.out; omega, by have := n2.out; omega, by have := n3.out; omega, HB.out.alloc HB.out.size _⟩
        case measure => simp [intOf]
    · by_cases h1 : (48 : Int) ≤ (c.toNat : Int)
      · by_cases h2 : (c.toNat : Int) ≤ 57
        · have E := Lib.hid (show kindB c = 4 by have := n1.out; have := n2.out; unfold kindB; split <;> (try omega) <;> split <;> (try omega) <;> split <;> omega)
          go_wp2_with fail
          go_ret
          exact ⟨ret_int (by rw [E.out]; rfl), HB.out.alloc HB.out.size _⟩
        · go_wp2_with fail
          go_roundw
          case rel => exact ⟨2+1, rfl, by omega, by have := n1.out; omega, by have := n2.out; omega, by have := n3.out; omega, HB.out.alloc HB.out.size _⟩
          case measure => simp [intOf]
      · go_wp2_with fail
        go_roundw
        case rel => exact ⟨2+1, rfl, by omega, by have := n1.out; omega, by have := n2.out; omega, by have := n3.out; omega, HB.out.alloc HB.out.size _⟩
        case measure => simp [intOf]
    · have E := Lib.hid (show kindB c = 0 by have := n1.out; have := n2.out; have := n3.out; unfold kindB; split <;> (try omega) <;> split <;> (try omega) <;> split <;> omega)
      go_wp2_with fail
      go_ret
      exact ⟨ret_int (by rw [E.out]; rfl), HB.out⟩
theorem and_cast (a k : Nat) (ha : a = 0 ∨ a = 1 ∨ a = 2 ∨ a = 4) (hk : k = 1 ∨ k = 4 ∨ k = 7) : bits BinOp.and IntKind.i64 (a : Int) (k : Int) = ((a &&& k : Nat) : Int) := by
  rcases ha with rfl | rfl | rfl | rfl <;> rcases hk with rfl | rfl | rfl <;> decide +kernel

set_option maxHeartbeats 1000000 in
set_option maxRecDepth 100000 in
theorem only_any (s : ByteArray) (k : Nat) (hk : k = 1 ∨ k = 4 ∨ k = 7) (w : World) (hT : StrTab w) (h0 : 0 < w.heap.size) (hm : s.size ≤ 9223372036854775807) :
    Calls Tryd.prog 55 #[.string s, .int .i64 (k : Int)] w fun e w' => e = .returned (.bool (onlyB k s.data.toList)) ∧ Below w.heap.size w w' := by
  have HT := Lib.hid hT
  have H0 := Lib.hid h0
  clear hT h0
  go_enter Tryd.func55, Tryd.ntmps55
  go_wp2_with fail
  go_loopw [8] (fun i wr => ∃ j : Nat, i = .int .i64 j ∧ j ≤ s.size ∧ onlyB k (s.data.toList.take j) = true ∧ Below w.heap.size w wr) (fun i _ => s.size - (intOf i).toNat)
  case atStart => exact ⟨0, rfl, Nat.zero_le _, rfl, Below.refl _ _⟩
  case round =>
    obtain ⟨j, rfl, hj, ha, hb⟩ := hrel
    have HA := Lib.hid ha
    have HB := Lib.hid hb
    clear ha hb
    by_cases hp : j < s.size
    · have hj0 : (0 : Int) ≤ (j : Int) := by omega
      have hj1 : (j : Int) < (s.size : Int) := by omega
      have C := fun W h => Lib.hid (kindOf_any (s[j]'hp) W h)
      have HS := Lib.hid (onlyB_take_succ k s j hp)
      have HN := Lib.hid (onlyB_no k s j hp)
      have hkc := kindB_cases (s[j]'hp)
      have AC := and_cast (kindB (s[j]'hp)) k hkc hk
      generalize kindB (s[j]'hp) = kd at *
      clear hkc
      generalize kd &&& k = q at *
      go_wp2_with fail
      refine ((C _ (HT.out.below HB.out H0.out)).out).mono ?_
      rintro e x1 ⟨rfl, hb⟩
      have HB1 := Lib.hid (HB.out.trans (hb.mono HB.out.size))
      clear hb C HB
      by_cases hz : q = 0
      · subst hz
        have Hf := Lib.hid (HN.out rfl)
        go_wp2_with fail
        go_ret
        exact ⟨ret_bool Hf.out.symm, HB1.out⟩
      · have hzi : ((q : Int) == 0) = false := by rw [beq_eq_false_iff_ne]; omega
        have hzb : (q != 0) = true := by simpa using hz
        have HS2 := Lib.hid (show onlyB k (s.data.toList.take (j + 1)) = true by rw [HS.out, HA.out, hzb]; rfl)
        clear hzb
        go_wp2_with fail
        go_roundw
        case rel => exact ⟨j + 1, by go_num, by omega, HS2.out, HB1.out⟩
        case measure => simp [intOf]; omega
    · have hj1 : ¬ (j : Int) < (s.size : Int) := by omega
      have Hf := Lib.hid (onlyB_all k s j hp HA.out)
      go_wp2_with fail
      go_ret
      exact ⟨ret_bool Hf.out.symm, HB.out⟩
end Go.Proofs.YtadaijepalhohabDoor
