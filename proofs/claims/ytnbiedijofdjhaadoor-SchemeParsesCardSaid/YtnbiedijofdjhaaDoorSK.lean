/-
  Fields: readNumber, readMask, readText: they return, or panic.
-/
import Derived.Test.YtnbiedijofdjhaaDoorSJ
namespace Go.Proofs.YtnbiedijofdjhaaDoor
open Go.RowKit
open Pl

def numOf (l : List UInt8) : Nat := l.foldl (fun n c => 10 * n + (c.toNat - 48)) 0
theorem numOf_snoc (l : List UInt8) (c : UInt8) : numOf (l ++ [c]) = 10 * numOf l + (c.toNat - 48) := by simp [numOf, List.foldl_append]
/-- A field that is a number. -/
def numW (f : List UInt8) : Option Nat := if f = [] ∨ 4 < f.length ∨ onlyB 4 f = false ∨ (1 < f.length ∧ f.head? = some 48) then none else some (numOf f)
def maskW (f : List UInt8) : Option Nat := match numW f with | some n => if n ≤ 255 then some n else none | none => none
def textW (f : List UInt8) : Option (List UInt8) := if f = [] then none else if f = [45] then some [] else some f
/-- The panics of the reading side. -/
abbrev pcF : List PanicEntry := [{ v := .iface 33 (.int .i64 3), recovered := false }]
def numE : Option Nat → Ending
  | some n => .returned (.int .i64 n)
  | none => .panicked pcF
theorem onlyB_digit {f : List UInt8} (h : onlyB 4 f = true) : ∀ c ∈ f, 48 ≤ c.toNat ∧ c.toNat ≤ 57 := fun c hc => by
  have h1 := List.all_eq_true.1 h c hc
  unfold kindB at h1
  split at h1
  · simp at h1
  · split at h1
    · simp at h1
    · split at h1
      · assumption
      · simp at h1

theorem take_snoc (t : ByteArray) (j : Nat) (hp : j < t.size) : t.data.toList.take (j + 1) = t.data.toList.take j ++ [t[j]] := by
  rw [List.take_succ_eq_append_getElem (by simpa using hp)]; rfl
theorem numOf_lt : ∀ (k : Nat) (l : List UInt8), l.length = k → (∀ c ∈ l, 48 ≤ c.toNat ∧ c.toNat ≤ 57) → numOf l < 10 ^ k
  | 0, l, h, _ => by obtain rfl : l = [] := List.length_eq_zero_iff.1 h; decide
  | k + 1, l, h, hd => by
    obtain ⟨r, c, rfl⟩ : ∃ r c, l = r ++ [c] := ⟨l.dropLast, l.getLast (by intro e; simp [e] at h), (List.dropLast_concat_getLast _).symm⟩
    have h1 := numOf_lt k r (by simpa using h) fun c hc => hd c (by simp [hc])
    have h2 := hd c (by simp)
    rw [numOf_snoc, Nat.pow_succ]; omega
theorem numOf_bd {t : ByteArray} (h4 : t.size ≤ 4) (hd : onlyB 4 t.data.toList = true) (j : Nat) (hj : j ≤ t.size) : (numOf (t.data.toList.take j) : Int) < 10000 := by
  have h := numOf_lt j (t.data.toList.take j) (by rw [List.length_take, length_toList]; omega) fun c hc => onlyB_digit hd c (List.mem_of_mem_take hc)
  have h2 : 10 ^ j ≤ 10 ^ 4 := Nat.pow_le_pow_right (by omega) (by omega)
  omega

set_option maxHeartbeats 1000000 in
set_option maxRecDepth 100000 in
theorem readNumber_any (s : ByteArray) (w : World) (hT : StrTab w) (h0 : 0 < w.heap.size) (hm : s.size ≤ 9223372036854775807) :
    Calls Tryd.prog 112 #[.string s] w fun e w' => e = numE (numW s.data.toList) ∧ Below w.heap.size w w' := by
  have HB0 := Lib.hid (Below.refl w.heap.size w)
  by_cases he : s.data.toList = []
  · have H0 : s.toList.isEmpty = true := by rw [ByteArray.toList_eq, he]; rfl
    have E := Lib.hid (show numW s.data.toList = none by unfold numW; rw [if_pos (Or.inl he)])
    clear he
    go_enter Tryd.func112, Tryd.ntmps112
    go_wp2_with fail
    exact ⟨rfl, by rw [E.out]; rfl, HB0.out⟩
  have H0 : s.toList.isEmpty = false := by rw [ByteArray.toList_eq]; cases h : s.data.toList with
    | nil => exact absurd h he
    | cons a t => rfl
  have hz : 0 < s.size := by rw [← length_toList]; exact List.length_pos_iff.2 he
  by_cases h4 : 4 < s.size
  · have h4' : (4 : Int) < (s.size : Int) := by omega
    have E := Lib.hid (show numW s.data.toList = none by unfold numW; rw [if_pos (Or.inr (Or.inl (by rw [length_toList]; exact h4)))])
    clear he h4
    go_enter Tryd.func112, Tryd.ntmps112
    go_wp2_with fail
    exact ⟨rfl, by rw [E.out]; rfl, HB0.out⟩
  have h4' : ¬ (4 : Int) < (s.size : Int) := by omega
  have C := fun W h1 h2 => Lib.hid (only_any s 4 (by simp) W h1 h2 hm)
  cases ho : onlyB 4 s.data.toList
  · have E := Lib.hid (show numW s.data.toList = none by unfold numW; rw [if_pos (Or.inr (Or.inr (Or.inl ho)))])
    rw [ho] at C
    have CC := C w hT h0
    clear he h4 C hT h0 ho
    go_enter Tryd.func112, Tryd.ntmps112
    go_wp2_with fail
    refine (CC.out).mono ?_
    rintro e x1 ⟨rfl, hb⟩
    have HB1 := Lib.hid hb
    clear hb CC
    go_wp2_with fail
    exact ⟨rfl, by rw [E.out]; rfl, HB1.out⟩
  rw [ho] at C
  have CC := C w hT h0
  by_cases h1 : 1 < s.size ∧ s[0] = 48
  · obtain ⟨h1, h2⟩ := h1
    have h1' : (1 : Int) < (s.size : Int) := by omega
    have h2' : ((s[0].toNat : Int) == 48) = true := by rw [h2]; rfl
    have hh : s.data.toList.head? = some 48 := by
      rw [List.head?_eq_getElem?, List.getElem?_eq_getElem (by simpa using hz)]
      exact congrArg some h2
    have E := Lib.hid (show numW s.data.toList = none by
      unfold numW
      rw [if_pos (Or.inr (Or.inr (Or.inr ⟨by rw [length_toList]; exact h1, hh⟩)))])
    clear hh
    clear he h4 C hT h0 ho h1 h2
    go_enter Tryd.func112, Tryd.ntmps112
    go_wp2_with fail
    refine (CC.out).mono ?_
    rintro e x1 ⟨rfl, hb⟩
    have HB1 := Lib.hid hb
    clear hb CC
    go_wp2_with fail
    exact ⟨rfl, by rw [E.out]; rfl, HB1.out⟩
  have E := Lib.hid (show numW s.data.toList = some (numOf s.data.toList) by
    unfold numW
    rw [if_neg]
    rintro (h | h | h | ⟨h, h'⟩)
    · exact he h
    · rw [length_toList] at h; exact h4 h
    · rw [ho] at h; cases h
    · rw [length_toList] at h
      rw [List.head?_eq_getElem?, List.getElem?_eq_getElem (by simpa using hz)] at h'
      exact h1 ⟨h, Option.some.inj h'⟩)
  have HN := fun j hj => Lib.hid (numOf_bd (t := s) (by omega) ho j hj)
  have HD := fun (j : Nat) (hj : j < s.size) => Lib.hid (onlyB_digit ho s[j] (by rw [← get_toList s j hj]; exact List.getElem_mem _))
  have HF := Lib.hid (List.take_of_length_le (l := s.data.toList) (i := s.size) (by rw [length_toList]; omega))
  have key : (¬ (1 : Int) < (s.size : Int)) ∨ ((1 : Int) < (s.size : Int) ∧ ((s[0].toNat : Int) == 48) = false) := by
    by_cases h5 : 1 < s.size
    · refine Or.inr ⟨by omega, ?_⟩
      rw [beq_eq_false_iff_ne]
      intro h6
      exact h1 ⟨h5, UInt8.toNat_inj.1 (by simpa using (by omega : s[0].toNat = 48))⟩
    · exact Or.inl (by omega)
  clear he h4 C hT h0 ho h1
  go_enter Tryd.func112, Tryd.ntmps112
  go_wp2_with fail
  refine (CC.out).mono ?_
  rintro e x1 ⟨rfl, hb⟩
  have HB1 := Lib.hid hb
  clear hb CC
  rcases key with key | ⟨key, key2⟩
  all_goals
    go_wp2_with fail
    go_loopw [3, 29] (fun n i wr => ∃ k : Nat, i = .int .i64 k ∧ k ≤ s.size ∧ n = .int .i64 (numOf (s.data.toList.take k) : Nat) ∧ Below x1.heap.size x1 wr) (fun _ i _ => s.size - (intOf i).toNat)
    case atStart => exact ⟨0, rfl, Nat.zero_le _, rfl, Below.refl _ _⟩
    case round =>
      obtain ⟨k, rfl, hk, rfl, hb⟩ := hrel
      have HBR := Lib.hid hb
      have hbd := (HN k hk).out
      have hb0 : (0 : Int) ≤ (numOf (s.data.toList.take k) : Int) := by omega
      clear hb
      by_cases hp : k < s.size
      · obtain ⟨d1, d2⟩ := (HD k hp).out
        have d1' : 48 ≤ (s[k].toNat : Int) := by omega
        have d2' : (s[k].toNat : Int) ≤ 57 := by omega
        have HS := Lib.hid (show (numOf (s.data.toList.take (k + 1)) : Int) = 10 * (numOf (s.data.toList.take k) : Int) + ((s[k].toNat : Int) - 48) by rw [take_snoc s k hp, numOf_snoc]; omega)
        clear d1 d2
        generalize numOf (s.data.toList.take k) = m at *
        go_wp2_with fail
        go_roundw
        case rel => exact ⟨k + 1, by go_num, by omega, by rw [HS.out], HBR.out⟩
        case measure => simp [intOf]; omega
      · obtain rfl : k = s.size := by omega
        go_wp2_with fail
        go_returns
        exact ⟨by rw [E.out, HF.out]; rfl, HB1.out.trans (HBR.out.mono HB1.out.size)⟩
end Go.Proofs.YtnbiedijofdjhaaDoor
