/-
  event.readNumber: a space and a number are read off the front of a text, exactly where there are such.
-/
import Derived.Test.YtmioocmjlbjfpaaDoorB
namespace Go.Proofs.YtmioocmjlbjfpaaDoor
open Go.RowKit
open Pl

def numR : Option (Nat × List UInt8) → Value
  | none => .tuple #[.int .i64 0, .string ⟨#[]⟩, .bool false]
  | some (n, r) => .tuple #[.int .i64 n, .string (B r), .bool true]
theorem readNum_none {l : List UInt8} (h : (cutB l).2 = false) : readNum l = none := by
  unfold cutB at h
  cases l with
  | nil => rfl
  | cons c d =>
    by_cases hc : c = 32
    · simp [hc] at h
    · simp [readNum, hc]
theorem readNum_cut {l : List UInt8} (h : (cutB l).2 = true) : readNum l = if badNum (digRun (cutB l).1) then none else some (numOf (digRun (cutB l).1), (cutB l).1.drop (digRun (cutB l).1).length) := by
  unfold cutB at h ⊢
  cases l with
  | nil => simp at h
  | cons c d =>
    by_cases hc : c = 32
    · simp [readNum, hc]
    · simp [hc] at h
theorem ret_num {a b : Int} {s t : ByteArray} {p q : Bool} (h1 : a = b) (h2 : s = t) (h3 : p = q) : Ending.returned (.tuple #[.int .i64 a, .string s, .bool p]) = .returned (.tuple #[.int .i64 b, .string t, .bool q]) := by rw [h1, h2, h3]

set_option maxHeartbeats 400000 in
theorem readNumber_no (s : ByteArray) (w : World) (h : (cutB s.data.toList).2 = false) :
    Calls Tryd.prog 60 #[.string s] w fun e w' => e = .returned (.tuple #[.int .i64 0, .string ⟨#[]⟩, .bool false]) ∧ w = w' := by
  have H := Lib.hid h
  clear h
  have C := fun w => Lib.hid (cutPrefix_any s w)
  generalize hz : cutB s.data.toList = z at *
  clear hz
  obtain ⟨z1, z2⟩ := z
  obtain rfl : z2 = false := H.out
  go_enter Tryd.func60, Tryd.ntmps60
  go_wp2_with fail
  refine ((C _).out).mono ?_
  rintro e w' ⟨rfl, rfl⟩
  go_wp2_with fail
  go_ret3
  exact ⟨rfl, rfl⟩

theorem stop_at (t : ByteArray) (j : Nat) (hj4 : j ≤ 4) (hd : (t.data.toList.take j).all isDig = true) (h : (hp : j < t.size) → j < 4 → isDig t[j] = false) : digRun t.data.toList = t.data.toList.take j :=
  digRun_stop _ j hj4 hd (fun h1 h2 => ⟨h1, by rw [get_toList t j (by simpa using h1)]; exact h (by simpa using h1) h2⟩)
theorem all_succ (t : ByteArray) (j : Nat) (hp : j < t.size) (hd : (t.data.toList.take j).all isDig = true) (h : isDig t[j] = true) : (t.data.toList.take (j + 1)).all isDig = true := by
  rw [take_snoc t j hp, List.all_append, hd]; simp [h]
theorem num_succ (t : ByteArray) (j : Nat) (hp : j < t.size) (h : 48 ≤ (t[j].toNat : Int)) : (numOf (t.data.toList.take (j + 1)) : Int) = 10 * (numOf (t.data.toList.take j) : Int) + ((t[j].toNat : Int) - 48) := by
  rw [take_snoc t j hp, numOf_snoc]; omega
theorem num_bd (t : ByteArray) (j : Nat) (hj4 : j ≤ 4) (hd : (t.data.toList.take j).all isDig = true) : (numOf (t.data.toList.take j) : Int) < 10000 := by
  have h := numOf_lt _ hd (Nat.le_trans (List.length_take_le _ _) hj4)
  have h2 : 10 ^ (t.data.toList.take j).length ≤ 10 ^ 4 := Nat.pow_le_pow_right (by omega) (Nat.le_trans (List.length_take_le _ _) hj4)
  omega
theorem rn_zero (t : ByteArray) {rn : Option (Nat × List UInt8)} (R : rn = if badNum (digRun t.data.toList) then none else some (numOf (digRun t.data.toList), t.data.toList.drop (digRun t.data.toList).length)) (h : digRun t.data.toList = t.data.toList.take 0) : rn = none := by
  rw [R, h]; rfl
theorem head_take (t : ByteArray) (j : Nat) (hj : 0 < j) (hs : 0 < t.size) : (t.data.toList.take j).head? = some t[0] := by
  rw [List.head?_take, if_neg (by omega), List.head?_eq_getElem?, List.getElem?_eq_getElem (by simpa using hs)]; rfl
theorem len_take (t : ByteArray) (j : Nat) (hj : j ≤ t.size) : (t.data.toList.take j).length = j := by rw [List.length_take, length_toList]; omega
theorem rn_lead (t : ByteArray) (j : Nat) (hs : 0 < t.size) {rn : Option (Nat × List UInt8)} (R : rn = if badNum (digRun t.data.toList) then none else some (numOf (digRun t.data.toList), t.data.toList.drop (digRun t.data.toList).length)) (h : digRun t.data.toList = t.data.toList.take j) (hj : 1 < j) (hjs : j ≤ t.size) (h0 : (t[0].toNat : Int) = 48) : rn = none := by
  have e : t[0] = 48 := UInt8.toNat_inj.1 (by simpa using (by omega : t[0].toNat = 48))
  rw [R, h]
  unfold badNum
  rw [len_take t j hjs, head_take t j (by omega) hs, e, decide_eq_true hj]; simp
theorem rn_some (t : ByteArray) (j : Nat) (hs : 0 < t.size) {rn : Option (Nat × List UInt8)} (R : rn = if badNum (digRun t.data.toList) then none else some (numOf (digRun t.data.toList), t.data.toList.drop (digRun t.data.toList).length)) (h : digRun t.data.toList = t.data.toList.take j) (hj : 0 < j) (hjs : j ≤ t.size) (h0 : j = 1 ∨ ¬ (t[0].toNat : Int) = 48) : rn = some (numOf (t.data.toList.take j), t.data.toList.drop j) := by
  rw [R, h]
  unfold badNum
  rw [len_take t j hjs, head_take t j (by omega) hs, decide_eq_false (by omega : ¬ j = 0)]
  rcases h0 with rfl | h0
  · simp
  · have e : ¬ t[0] = 48 := fun e => h0 (by rw [e]; rfl)
    simp [e]

set_option maxHeartbeats 6000000 in
set_option maxRecDepth 100000 in
theorem readNumber_yes (s : ByteArray) (w : World) (hm : s.size ≤ maxLen) (h : (cutB s.data.toList).2 = true) :
    Calls Tryd.prog 60 #[.string s] w fun e w' => e = .returned (numR (readNum s.data.toList)) ∧ ∃ n, w' = w.drewN n := by
  have R := Lib.hid (readNum_cut h)
  have H := Lib.hid h
  have C := fun w => Lib.hid (cutPrefix_any s w)
  have hlen : (B (cutB s.data.toList).1).size ≤ maxLen := by
    rw [size_B]
    have : (cutB s.data.toList).1.length ≤ s.data.toList.length := by
      unfold cutB; cases s.data.toList with
      | nil => simp
      | cons c d => by_cases hc : c = 32 <;> simp [hc]
    rw [length_toList] at this
    omega
  unfold maxLen at hlen
  clear h hm
  generalize cutB s.data.toList = z at *
  generalize readNum s.data.toList = rn at *
  obtain ⟨d, z2⟩ := z
  obtain rfl : z2 = true := H.out
  obtain ⟨t, ht⟩ : ∃ t, t = B d := ⟨_, rfl⟩
  have R' : Hid (rn = if badNum (digRun t.data.toList) then none else some (numOf (digRun t.data.toList), t.data.toList.drop (digRun t.data.toList).length)) := by
    rw [ht, toList_B]; exact R.out
  have C' : ∀ w, Hid (Calls Tryd.prog 47 #[.string s, .string ⟨#[32]⟩] w fun e w' => e = .returned (.tuple #[.string t, .bool true]) ∧ w = w') := by
    intro w; rw [ht]; exact C w
  have hsz : t.size ≤ 9223372036854775807 := by rw [ht]; exact hlen
  clear R C H hlen ht
  go_enter Tryd.func60, Tryd.ntmps60
  go_wp2_with fail
  refine ((C' _).out).mono ?_
  rintro e w' ⟨rfl, rfl⟩
  clear C'
  go_wp2_with fail
  go_loop [2, 6] (fun n k => ∃ j : Nat, j ≤ 4 ∧ j ≤ t.size ∧ k = .int .i64 j ∧ n = .int .i64 (numOf (t.data.toList.take j) : Nat) ∧ (t.data.toList.take j).all isDig = true) (fun _ k => 4 - (intOf k).toNat)
  case atStart => exact ⟨0, by omega, by omega, rfl, rfl, rfl⟩
  case round =>
    obtain ⟨j, hj4, hjs, rfl, rfl, hd⟩ := hrel
    have Hd := Lib.hid hd
    have hb := num_bd t j hj4 hd
    have hb0 : (0 : Int) ≤ (numOf (t.data.toList.take j) : Int) := by omega
    clear hd
    have key : (j < t.size ∧ j < 4 ∧ (∃ h1 : j < t.size, 48 ≤ (t[j].toNat : Int) ∧ (t[j].toNat : Int) ≤ 57)) ∨ (Hid (digRun t.data.toList = t.data.toList.take j) ∧ (¬ j < t.size ∨ (j < t.size ∧ ¬ j < 4) ∨ (j < 4 ∧ ∃ h1 : j < t.size, ¬ 48 ≤ (t[j].toNat : Int)) ∨ (j < 4 ∧ ∃ h1 : j < t.size, 48 ≤ (t[j].toNat : Int) ∧ ¬ (t[j].toNat : Int) ≤ 57))) := by
      by_cases h1 : j < t.size
      · by_cases h2 : j < 4
        · by_cases h3 : 48 ≤ (t[j].toNat : Int)
          · by_cases h4 : (t[j].toNat : Int) ≤ 57
            · exact Or.inl ⟨h1, h2, h1, h3, h4⟩
            · exact Or.inr ⟨stop_at t j hj4 Hd.out (fun _ _ => isDig_no (Or.inr (by omega))), Or.inr (Or.inr (Or.inr ⟨h2, h1, h3, h4⟩))⟩
          · exact Or.inr ⟨stop_at t j hj4 Hd.out (fun _ _ => isDig_no (Or.inl (by omega))), Or.inr (Or.inr (Or.inl ⟨h2, h1, h3⟩))⟩
        · exact Or.inr ⟨stop_at t j hj4 Hd.out (fun _ h => absurd h h2), Or.inr (Or.inl ⟨h1, h2⟩)⟩
      · exact Or.inr ⟨stop_at t j hj4 Hd.out (fun h _ => absurd h h1), Or.inl h1⟩
    rcases key with ⟨h1, h2, _, h3, h4⟩ | ⟨hst, key⟩
    · have hc := t[j].toNat_lt
      have Ha := Lib.hid (all_succ t j h1 Hd.out (isDig_yes h3 h4))
      have Hn := Lib.hid (num_succ t j h1 h3)
      generalize numOf (t.data.toList.take j) = m at *
      go_wp2_with fail
      go_round
      case rel => exact ⟨j + 1, by omega, by omega, by go_num, by rw [Hn.out], Ha.out⟩
      case measure => simp [intOf]; omega
    · by_cases hj0 : j = 0
      · subst hj0
        have Z := Lib.hid (rn_zero t R'.out hst.out)
        clear R' hst Hd
        rcases key with h1 | ⟨h1, h2⟩ | ⟨h2, h1, h3⟩ | ⟨h2, h1, h3, h4⟩
        · go_wp2_with fail
          go_ret3
          exact ⟨by rw [Z.out]; rfl, 0, rfl⟩
        · omega
        · go_wp2_with fail
          go_ret3
          exact ⟨by rw [Z.out]; rfl, 0, rfl⟩
        · go_wp2_with fail
          go_ret3
          exact ⟨by rw [Z.out]; rfl, 0, rfl⟩
      · have hs : 0 < t.size := by omega
        have hc0 := t[0].toNat_lt
        by_cases hl : (t[0].toNat : Int) = 48 ∧ 1 < j
        · have Z := Lib.hid (rn_lead t j hs R'.out hst.out hl.2 hjs hl.1)
          obtain ⟨hl1, hl2⟩ := hl
          have hl3 : ((t[0].toNat : Int) == 48) = true := by simpa using hl1
          have Hl1 := Lib.hid hl1
          clear R' hst Hd hl1
          generalize numOf (t.data.toList.take j) = m at *
          rcases key with h1 | ⟨h1, h2⟩ | ⟨h2, h1, h3⟩ | ⟨h2, h1, h3, h4⟩
          all_goals
            go_wp2_with fail
            go_ret3
            exact ⟨by rw [Z.out]; rfl, 0, rfl⟩
        · have Z := Lib.hid (rn_some t j hs R'.out hst.out (by omega) hjs (by omega))
          have E := Lib.hid (ext_to_end t j)
          clear R' hst Hd
          generalize numOf (t.data.toList.take j) = m at *
          by_cases hl2 : 1 < j
          · have hl3 : ((t[0].toNat : Int) == 48) = false := by simp; omega
            clear hl
            rcases key with h1 | ⟨h1, h2⟩ | ⟨h2, h1, h3⟩ | ⟨h2, h1, h3, h4⟩
            all_goals
              go_wp2_with fail
              go_quiet (fail)
              go_wp2_with fail
              go_ret3
              exact ⟨by rw [Z.out]; exact ret_num rfl E.out rfl, _, rfl⟩
          · obtain rfl : j = 1 := by omega
            clear hl
            rcases key with h1 | ⟨h1, h2⟩ | ⟨h2, h1, h3⟩ | ⟨h2, h1, h3, h4⟩
            · go_wp2_with fail
              go_quiet (fail)
              go_wp2_with fail
              go_ret3
              exact ⟨by rw [Z.out]; exact ret_num rfl E.out rfl, _, rfl⟩
            · omega
            · go_wp2_with fail
              go_quiet (fail)
              go_wp2_with fail
              go_ret3
              exact ⟨by rw [Z.out]; exact ret_num rfl E.out rfl, _, rfl⟩
            · go_wp2_with fail
              go_quiet (fail)
              go_wp2_with fail
              go_ret3
              exact ⟨by rw [Z.out]; exact ret_num rfl E.out rfl, _, rfl⟩
end Go.Proofs.YtmioocmjlbjfpaaDoor
