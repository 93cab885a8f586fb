/-
  FlawSound's walk.
-/
import Derived.Test.YthgealgaefimpaaDoorGO
import Derived.Test.YthgealgaefimpaaDoorGT
import Derived.Test.YthgealgaefimpaaDoorGK
namespace Go.Proofs.YthgealgaefimpaaDoor
open Go.RowKit
open Pl

theorem pickN_at (p : Rl → Bool) (rs : List Rl) (i : Nat) (h : i < rs.length) : ((i : Int) ∈ pickN p rs rs.length) ↔ p rs[i] = true := by
  constructor
  · intro hm
    obtain ⟨k, hk, hl, hp⟩ := pickN_mem p rs _ hm
    obtain rfl : i = k := by omega
    exact hp
  · intro hp
    unfold pickN
    rw [List.take_length, List.mem_filterMap]
    exact ⟨(rs[i], i), by rw [List.mk_mem_zipIdx_iff_getElem?]; exact List.getElem?_eq_getElem h, by simp [hp]⟩

set_option maxHeartbeats 1000000 in
set_option maxRecDepth 100000 in
theorem FHas_any (a : Option Addr) (c : Nat) (xs : List Int) (n : Int) (w : World) (hx : NumsAt w w.heap.size (.slice a xs.length c) xs) (hl : xs.length ≤ maxLen) :
    Calls Tryd.prog 23 #[.slice a xs.length c, .int .i64 n] w fun e w' => e = .returned (.bool (decide (n ∈ xs))) ∧ Below w.heap.size w w' := by
  unfold maxLen at hl
  have HX := Lib.hid hx
  clear hx
  go_enter Tryd.func23, Tryd.ntmps23
  go_wp2_with fail
  go_loopw [5] (fun iv wr => ∃ i : Nat, iv = .int .i64 (i : Nat) ∧ i ≤ xs.length ∧ n ∉ xs.take i ∧ Below w.heap.size w wr) (fun iv _ => xs.length - (intOf iv).toNat)
  case atStart => exact ⟨0, rfl, Nat.zero_le _, by simp, Below.refl _ _⟩
  case round =>
    obtain ⟨i, rfl, hi, ht, hb⟩ := hrel
    have HB := Lib.hid hb
    have HT := Lib.hid ht
    clear hb ht
    have i0 : (0 : Int) ≤ (i : Int) := by omega
    by_cases h1 : (i : Int) < (xs.length : Int)
    · have hix : i < xs.length := by omega
      obtain ⟨a', c', hv, hP⟩ := HX.out.on HB.out
      obtain ⟨rfl, -⟩ : a = a' ∧ c = c' := by simpa using hv
      obtain ⟨b1, o1, ha, -, hc⟩ := hP (by omega)
      subst ha
      have p1 := hc i hix
      obtain ⟨x, hxe⟩ : ∃ x, x = xs[i] := ⟨_, rfl⟩
      rw [← hxe] at p1
      by_cases he : x = n
      · have HN := Lib.hid (show decide (n ∈ xs) = true from decide_eq_true (by rw [← he, hxe]; exact List.getElem_mem hix))
        have hb1 : (x == n) = true := by simpa using he
        clear hc hP hv hxe he
        go_wp2_with fail
        go_ret
        exact ⟨by rw [HN.out]; rfl, HB.out⟩
      · have HN := Lib.hid (show n ∉ xs.take (i + 1) by
          rw [List.take_succ_eq_append_getElem hix, List.mem_append, List.mem_singleton, ← hxe]
          exact fun h => h.elim HT.out fun e => he e.symm)
        have hb1 : (x == n) = false := by simpa using he
        clear hc hP hv hxe he
        go_wp2_with fail
        go_roundw
        case rel => exact ⟨i + 1, by go_num, by omega, HN.out, HB.out⟩
        case measure => simp [intOf]; omega
    · have HN := Lib.hid (show decide (n ∈ xs) = false from decide_eq_false (by
        have h := HT.out
        rwa [List.take_of_length_le (by omega)] at h))
      go_wp2_with fail
      go_ret
      exact ⟨by rw [HN.out]; rfl, HB.out⟩
end Go.Proofs.YthgealgaefimpaaDoor
