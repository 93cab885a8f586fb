/-
  Plain facts on characters, rules and schemes. No program is named here.
-/
namespace Go.Proofs.YtadaijepalhohabDoor.Pl

def B (l : List UInt8) : ByteArray := ⟨l.toArray⟩
theorem toList_B (l : List UInt8) : (B l).data.toList = l := rfl
theorem B_toList (s : ByteArray) : B s.data.toList = s := by cases s; simp [B]
theorem size_B (l : List UInt8) : (B l).size = l.length := by simp [B, ByteArray.size]
theorem length_toList (s : ByteArray) : s.data.toList.length = s.size := by simp
theorem get_toList (s : ByteArray) (k : Nat) (h : k < s.size) : s.data.toList[k]'(by simpa using h) = s[k] := rfl
/-- The kind of a character: 1 small, 2 big, 4 digit, 0 none. -/
def kindB (c : UInt8) : Nat := if 97 ≤ c.toNat ∧ c.toNat ≤ 122 then 1 else if 65 ≤ c.toNat ∧ c.toNat ≤ 90 then 2 else if 48 ≤ c.toNat ∧ c.toNat ≤ 57 then 4 else 0
/-- All characters are of one of the kinds. -/
def onlyB (kinds : Nat) (l : List UInt8) : Bool := l.all fun c => kindB c &&& kinds != 0
theorem onlyB_take_succ (kinds : Nat) (s : ByteArray) (k : Nat) (h : k < s.size) : onlyB kinds (s.data.toList.take (k + 1)) = (onlyB kinds (s.data.toList.take k) && (kindB s[k] &&& kinds != 0)) := by
  unfold onlyB
  rw [List.take_succ_eq_append_getElem (by rw [length_toList]; exact h), List.all_append, List.all_cons, get_toList s k h]; simp
theorem onlyB_no (kinds : Nat) (s : ByteArray) (k : Nat) (h : k < s.size) (hk : kindB s[k] &&& kinds = 0) : onlyB kinds s.data.toList = false := by
  unfold onlyB
  rw [List.all_eq_false]
  exact ⟨s[k], by rw [← get_toList s k h]; exact List.getElem_mem _, by rw [hk]; simp⟩
theorem onlyB_all (kinds : Nat) (s : ByteArray) (k : Nat) (h : ¬ k < s.size) (ha : onlyB kinds (s.data.toList.take k) = true) : onlyB kinds s.data.toList = true := by
  rwa [List.take_of_length_le (by rw [length_toList]; omega)] at ha
theorem kindB_cases (c : UInt8) : kindB c = 0 ∨ kindB c = 1 ∨ kindB c = 2 ∨ kindB c = 4 := by
  unfold kindB; split
  · exact Or.inr (Or.inl rfl)
  · split
    · exact Or.inr (Or.inr (Or.inl rfl))
    · split
      · exact Or.inr (Or.inr (Or.inr rfl))
      · exact Or.inl rfl
def lettersB (l : List UInt8) : Bool := decide (l.length ≤ 40) && onlyB 1 l
def wordB (l : List UInt8) : Bool := decide (1 ≤ l.length) && (decide (l.length ≤ 20) && onlyB 7 l)
end Go.Proofs.YtadaijepalhohabDoor.Pl
