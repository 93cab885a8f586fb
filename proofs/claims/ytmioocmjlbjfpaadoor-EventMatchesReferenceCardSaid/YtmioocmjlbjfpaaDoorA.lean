/-
  The small functions of package event: what each call answers and what it does to the world.
-/
import Derived.Test.YtmioocmjlbjfpaaDoorRows
import Derived.Test.YtmioocmjlbjfpaaDoorP
import Derived.WalkKit
import Derived.WalkSpells
import Derived.WalkLawsBesides
import Derived.Deep.QuietTactic
import Derived.BigQuiet
import Derived.Laws.RangeAny
import Derived.Lib.Hide
namespace Go.Proofs.YtmioocmjlbjfpaaDoor
open Go.RowKit
open Pl

theorem ret_bool {a b : Bool} (h : a = b) : Ending.returned (.bool a) = .returned (.bool b) := by rw [h]
theorem ret_int {k : IntKind} {a b : Int} (h : a = b) : Ending.returned (.int k a) = .returned (.int k b) := by rw [h]

set_option maxHeartbeats 400000 in
theorem has_any (a b n : Int) (w : World) :
    Calls Tryd.prog 52 #[.agg #[.int .i64 a, .int .i64 b], .int .i64 n] w fun e w' => e = .returned (.bool (hasB a b n)) ∧ Below w.heap.size w w' := by
  by_cases h1 : a ≤ n
  · by_cases h2 : n ≤ b
    · have E := Lib.hid (hasB_yes h1 h2)
      go_enter Tryd.func52, Tryd.ntmps52
      go_wp2
      go_ret
      exact ⟨ret_bool E.out.symm, (Below.refl _ _).alloc (Nat.le_refl _) _⟩
    · have E := Lib.hid (hasB_no2 (a := a) (by omega : b < n))
      go_enter Tryd.func52, Tryd.ntmps52
      go_wp2
      go_ret
      exact ⟨ret_bool E.out.symm, (Below.refl _ _).alloc (Nat.le_refl _) _⟩
  · have E := Lib.hid (hasB_no1 (b := b) (by omega : n < a))
    go_enter Tryd.func52, Tryd.ntmps52
    go_wp2
    go_ret
    exact ⟨ret_bool E.out.symm, (Below.refl _ _).alloc (Nat.le_refl _) _⟩

theorem width_pos (s : ByteArray) (pos : Nat) (h : pos < s.size) : 1 ≤ (Utf8.decode s pos).2 := by
  by_cases ha : (s[pos]'h).toNat < 128
  · rw [decode_ascii s pos h ha]
    exact Nat.le_refl _
  · exact (decode_high s pos h (by omega)).2

set_option maxHeartbeats 800000 in
set_option maxRecDepth 100000 in
theorem letters_any (s : ByteArray) (w : World) :
    Calls Tryd.prog 53 #[.string s] w fun e w' => e = .returned (.bool (lettersB s.data.toList)) ∧ Below w.heap.size w w' := by
  go_enter Tryd.func53, Tryd.ntmps53
  go_wp2
  go_loopw [4] (fun _ w' => ∃ pos : Nat, w' = w.iter s pos ∧ lettersB (s.data.toList.take pos) = true) (fun _ w' => s.size - w'.iterPos w.heap.size)
  case atStart => exact ⟨0, rfl, rfl⟩
  case round =>
    obtain ⟨pos, rfl, hl⟩ := hrel
    have Hl := Lib.hid hl
    clear hl
    by_cases hp : pos < s.size
    · by_cases ha : (s[pos]'hp).toNat < 128
      · have hnx : ∀ ty, (Instr.next (.pointer (some ⟨w.heap.size, 0, none⟩)) true ty).run Tryd.prog (w.iter s pos) = _ := fun ty => run_next_ascii w s pos ty hp ha
        have Hs := Lib.hid (lettersB_take_succ s pos hp)
        have Hn := fun h => Lib.hid (lettersB_no s pos hp h)
        by_cases h1 : 97 ≤ ((s[pos]'hp).toNat : Int)
        · by_cases h2 : ((s[pos]'hp).toNat : Int) ≤ 122
          · have Hi := Lib.hid (isLow_true h1 h2)
            go_wp2
            go_roundw
            case rel => exact ⟨pos + 1, rfl, by rw [Hs.out, Hl.out, Hi.out]; rfl⟩
            case measure => simp; omega
          · have Hi := Lib.hid (Hn (isLow_no (Or.inr (by omega)))).out
            clear Hn Hs
            go_wp2
            go_ret
            exact ⟨ret_bool Hi.out.symm, (Below.refl _ _).alloc (Nat.le_refl _) _⟩
        · have Hi := Lib.hid (Hn (isLow_no (Or.inl (by omega)))).out
          clear Hn Hs
          go_wp2
          go_ret
          exact ⟨ret_bool Hi.out.symm, (Below.refl _ _).alloc (Nat.le_refl _) _⟩
      · have hd := (decode_high s pos hp (by omega)).1
        have hnx : ∀ ty, (Instr.next (.pointer (some ⟨w.heap.size, 0, none⟩)) true ty).run Tryd.prog (w.iter s pos) = _ := fun ty => run_next_any w s pos ty hp
        have Hi := Lib.hid (lettersB_no s pos hp (isLow_no (Or.inr (by omega))))
        have h2 : 122 < ((Utf8.decode s pos).1 : Int) := by omega
        have h1 : ¬ ((Utf8.decode s pos).1 : Int) < 97 := by omega
        go_wp2
        go_ret
        exact ⟨ret_bool Hi.out.symm, (Below.refl _ _).alloc (Nat.le_refl _) _⟩
    · have hnx : ∀ ty, (Instr.next (.pointer (some ⟨w.heap.size, 0, none⟩)) true ty).run Tryd.prog (w.iter s pos) = _ := fun ty => run_next_end w s pos ty hp
      have Hi := Lib.hid (lettersB_all s pos hp Hl.out)
      go_wp2
      go_ret
      exact ⟨ret_bool Hi.out.symm, (Below.refl _ _).alloc (Nat.le_refl _) _⟩

set_option maxHeartbeats 800000 in
set_option maxRecDepth 100000 in
theorem increasing_any (s : ByteArray) (w : World) (hlow : lettersB s.data.toList = true) :
    Calls Tryd.prog 54 #[.string s] w fun e w' => e = .returned (.bool (incB s.data.toList)) ∧ Below w.heap.size w w' := by
  have hL := Lib.hid hlow
  clear hlow
  go_enter Tryd.func54, Tryd.ntmps54
  go_wp2
  go_loopw [3, 5] (fun b _ w' => ∃ pos : Nat, w' = w.iter s pos ∧ b = .int .i32 (lastOf (s.data.toList.take pos)) ∧ incB (s.data.toList.take pos) = true) (fun _ _ w' => s.size - w'.iterPos w.heap.size)
  case atStart => exact ⟨0, rfl, rfl, rfl⟩
  case round =>
    obtain ⟨pos, rfl, rfl, hl⟩ := hrel
    have Hl := Lib.hid hl
    clear hl
    have hb := lastOf_ge (s.data.toList.take pos)
    by_cases hp : pos < s.size
    · have hlw := low_of hL.out pos hp
      have hnx : ∀ ty, (Instr.next (.pointer (some ⟨w.heap.size, 0, none⟩)) true ty).run Tryd.prog (w.iter s pos) = _ := fun ty => run_next_ascii w s pos ty hp (by omega)
      have Hls := Lib.hid (lastOf_step s pos hp)
      have Hst := Lib.hid (incB_step s pos hp Hl.out)
      have Hno := Lib.hid (incB_no s pos hp)
      by_cases h1 : ((s[pos]'hp).toNat : Int) ≤ lastOf (s.data.toList.take pos)
      · have Hi := Lib.hid (Hno.out h1)
        clear Hls Hst Hno
        generalize lastOf (s.data.toList.take pos) = z at *
        go_wp2
        go_ret
        exact ⟨ret_bool Hi.out.symm, (Below.refl _ _).alloc (Nat.le_refl _) _⟩
      · have Hi := Lib.hid (Hst.out (by omega))
        clear Hst Hno
        generalize lastOf (s.data.toList.take pos) = z at *
        go_wp2
        go_roundw
        case rel => exact ⟨pos + 1, rfl, by rw [Hls.out], Hi.out⟩
        case measure => simp; omega
    · have hnx : ∀ ty, (Instr.next (.pointer (some ⟨w.heap.size, 0, none⟩)) true ty).run Tryd.prog (w.iter s pos) = _ := fun ty => run_next_end w s pos ty hp
      have Hi := Lib.hid (incB_all s pos hp Hl.out)
      go_wp2
      go_ret
      exact ⟨ret_bool Hi.out.symm, (Below.refl _ _).alloc (Nat.le_refl _) _⟩

end Go.Proofs.YtmioocmjlbjfpaaDoor
