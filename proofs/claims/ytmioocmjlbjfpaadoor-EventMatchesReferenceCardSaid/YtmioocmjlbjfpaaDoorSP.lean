/-
  The reference's Split and number.
-/
import Derived.Test.YtmioocmjlbjfpaaDoorRP
namespace Go.Proofs.YtmioocmjlbjfpaaDoor
open Go.RowKit
open Pl

/-- The parts of a text between separators; the first part has begun already. -/
def splitS (c : UInt8) : List UInt8 → List UInt8 → List (List UInt8)
  | cur, [] => [cur]
  | cur, x :: r => if x = c then cur :: splitS c [] r else splitS c (cur ++ [x]) r
theorem infoStr : (Tryd.prog.info? 9).map (fun i => (i.zero, i.size, i.bytes)) = some (some (.string ⟨#[]⟩), 1, 16) := by kernel_rfl
def strCells (ps : List (List UInt8)) : List Value := ps.map fun p => Value.string (B p)
/-- The slice v is a list of texts in memory from block number base on. -/
def StrsOwn (W : World) (base : Nat) (v : Value) (ps : List (List UInt8)) : Prop := W.ownsRow base 9 1 v ps.length (strCells ps)
theorem split_step_eq (c : UInt8) (cur r : List UInt8) : splitS c cur (c :: r) = cur :: splitS c [] r := by rw [splitS, if_pos rfl]
theorem split_step_ne {c x : UInt8} (h : x ≠ c) (cur r : List UInt8) : splitS c cur (x :: r) = splitS c (cur ++ [x]) r := by rw [splitS, if_neg h]
theorem parts_len (c : UInt8) : ∀ (s cur : List UInt8), 1 ≤ (splitS c cur s).length ∧ (splitS c cur s).length ≤ s.length + 1
  | [], cur => by simp [splitS]
  | x :: r, cur => by
    by_cases h : x = c
    · subst h
      rw [split_step_eq]
      have := parts_len x r []
      simp; omega
    · rw [split_step_ne h]
      have := parts_len c r (cur ++ [x])
      simp; omega
/-- At each round's head of Split. -/
def SpRel (c : UInt8) (s : List UInt8) (ps : List (List UInt8)) (last i : Nat) : Prop := last ≤ i ∧ i ≤ s.length ∧ splitS c [] s = ps ++ splitS c ((s.take i).drop last) (s.drop i)
theorem SpRel.start (c : UInt8) (s : List UInt8) : SpRel c s [] 0 0 := ⟨Nat.le_refl _, Nat.zero_le _, by simp⟩
theorem SpRel.hit {c : UInt8} {s : List UInt8} {ps : List (List UInt8)} {last i : Nat} (h : SpRel c s ps last i) (hi : i < s.length) (hc : s[i] = c) : SpRel c s (ps ++ [(s.take i).drop last]) (i + 1) (i + 1) := by
  obtain ⟨h1, h2, h3⟩ := h
  refine ⟨Nat.le_refl _, by omega, ?_⟩
  rw [h3, List.drop_eq_getElem_cons hi, hc, split_step_eq]
  have e : (s.take (i + 1)).drop (i + 1) = [] := List.drop_eq_nil_of_le (by simp; omega)
  rw [e]; simp
theorem SpRel.miss {c : UInt8} {s : List UInt8} {ps : List (List UInt8)} {last i : Nat} (h : SpRel c s ps last i) (hi : i < s.length) (hc : s[i] ≠ c) : SpRel c s ps last (i + 1) := by
  obtain ⟨h1, h2, h3⟩ := h
  refine ⟨by omega, by omega, ?_⟩
  rw [h3, List.drop_eq_getElem_cons hi, split_step_ne hc]
  have e : (s.take (i + 1)).drop last = (s.take i).drop last ++ [s[i]] := by
    rw [List.take_succ_eq_append_getElem hi, List.drop_append_of_le_length (by simp; omega)]
  rw [e]
theorem SpRel.fin {c : UInt8} {s : List UInt8} {ps : List (List UInt8)} {last i : Nat} (h : SpRel c s ps last i) (hi : ¬ i < s.length) : splitS c [] s = ps ++ [s.drop last] := by
  obtain ⟨h1, h2, h3⟩ := h
  obtain rfl : i = s.length := by omega
  rw [h3, List.take_length, List.drop_length]; rfl
theorem SpRel.few {c : UInt8} {s : List UInt8} {ps : List (List UInt8)} {last i : Nat} (h : SpRel c s ps last i) : ps.length ≤ s.length := by
  have h1 := (parts_len c s []).2
  have h2 := (parts_len c (s.drop i) ((s.take i).drop last)).1
  rw [h.2.2, List.length_append] at h1
  omega

set_option maxHeartbeats 800000 in
set_option maxRecDepth 100000 in
theorem Split_any (s : ByteArray) (c : UInt8) (w : World) (hs : s.size ≤ 1000000) :
    Calls Tryd.prog 20 #[.string s, .int .u8 (c.toNat : Int)] w fun e w' => ∃ v, e = .returned v ∧ StrsOwn w' w.heap.size v (splitS c [] s.data.toList) ∧ v ≠ .slice none 0 0 ∧ Below w.heap.size w w' := by
  obtain ⟨i0, hi, hz0, hz1, hz2⟩ := info_parts infoStr
  go_enter Tryd.func20, Tryd.ntmps20
  go_wp2_with fail
  have M0 := Lib.hid (show StrsOwn (w.alloc (.cells #[] 9)) w.heap.size (.slice (some ⟨w.heap.size, 0, none⟩) 0 0) [] from World.ownsRow_lit w #[] 0 (Nat.le_refl _) (by decide) rfl)
  have H0 := Lib.hid (show Below w.heap.size w (w.alloc (.cells #[] 9)) from (Below.refl _ _).alloc (Nat.le_refl _) _)
  go_loopw [5, 6, 7] (fun v j i wr => ∃ (ps : List (List UInt8)) (last k : Nat), j = .int .i64 last ∧ i = .int .i64 k ∧ SpRel c s.data.toList ps last k ∧ StrsOwn wr w.heap.size v ps ∧ v ≠ .slice none 0 0 ∧ Below w.heap.size w wr) (fun _ _ i _ => s.size - (intOf i).toNat)
  case atStart => exact ⟨[], 0, 0, rfl, rfl, SpRel.start _ _, M0.out, (by simp), H0.out⟩
  case round =>
    obtain ⟨ps, last, k, rfl, rfl, hR, hO, hne, hb⟩ := hrel
    obtain ⟨va, vc, rfl⟩ := own_shape hO
    have HR := Lib.hid hR
    have HO := Lib.hid hO
    have HN := Lib.hid hne
    have HB := Lib.hid hb
    have hlk : last ≤ k := hR.1
    have hkl : k ≤ s.size := by have := hR.2.1; rwa [length_toList] at this
    have hfew : ps.length ≤ 1000000 := by have := hR.few; rw [length_toList] at this; omega
    have hn1 : ps.length + 1 ≤ maxLen := by unfold maxLen; omega
    have hby : (ps.length + 1) * 16 ≤ 140737488355328 := by omega
    clear hR hO hne hb M0 H0
    have hl0 : (0 : Int) ≤ (last : Int) := by omega
    have hk0 : (0 : Int) ≤ (k : Int) := by omega
    have hlk' : (last : Int) ≤ (k : Int) := by omega
    by_cases hp : k < s.size
    · have hk1 : (k : Int) < (s.size : Int) := by omega
      have hp' : k < s.data.toList.length := by rw [length_toList]; exact hp
      by_cases hc : s[k] = c
      · have hct : (((s[k]'hp).toNat : Int) == (c.toNat : Int)) = true := by rw [hc]; simp
        have HR2 := Lib.hid (HR.out.hit hp' hc)
        have hnews := Lib.hid (World.news_of_block (w := wr.alloc (.cells #[.string (s.extract last k)] 9)) (B := wr.heap.size) (cs := #[.string (s.extract last k)]) (t := 9) (fr := (0, 0)) (heap_alloc_new wr _))
        have hown := World.ownsRow.alloc HO.out (.cells #[.string (s.extract last k)] 9)
        have hba : w.heap.size ≤ (wr.alloc (.cells #[.string (s.extract last k)] 9)).heap.size := by rw [World.size_alloc]; have := HB.out.size; omega
        have hob := Lib.hid (own_block hown)
        go_wp2_with (first
          | (at_builtin; refine wpList_append_own _ rfl _ _ 33 rfl w.heap.size 9 i0 (.string ⟨#[]⟩) 1 16 Tryd.underlying33 hi hz0 hz1 hz2 rfl (by decide) _ _ _ rfl hown ⟨wr.heap.size, 0, none⟩ 1 1 [.string (s.extract last k)] rfl rfl hnews.out (by simp [Value.oneCell']) hn1 hby hba ?_; intro v' w6 hown6 hgrow6 hnn)
          | fail)
        have HO6 := Lib.hid (show StrsOwn w6 w.heap.size v' (ps ++ [(s.data.toList.take k).drop last]) by
          unfold StrsOwn strCells
          rw [List.length_append, List.map_append, ← data_extract]
          show w6.ownsRow _ _ _ _ _ (_ ++ [Value.string (B (s.extract last k).data.toList)])
          rw [B_toList]
          exact hown6)
        have HB6 := Lib.hid ((show Below w.heap.size w (wr.alloc (.cells #[.string (s.extract last k)] 9)) from HB.out.alloc HB.out.size _).grown hgrow6 hba (fun q hq => hob.out q hq))
        go_roundw
        case rel => exact ⟨_, k + 1, k + 1, by go_num, by go_num, HR2.out, HO6.out, (fun e => by have := (hnn.1 e).2; omega), HB6.out⟩
        case measure => simp [intOf]; omega
      · have hct : (((s[k]'hp).toNat : Int) == (c.toNat : Int)) = false := by
          rw [beq_eq_false_iff_ne]
          intro e
          exact hc (UInt8.toNat_inj.1 (by omega))
        have HR2 := Lib.hid (HR.out.miss hp' hc)
        clear hc
        go_wp2_with fail
        go_roundw
        case rel => exact ⟨ps, last, k + 1, rfl, by go_num, HR2.out, HO.out, HN.out, HB.out⟩
        case measure => simp [intOf]; omega
    · have hk1 : ¬ (k : Int) < (s.size : Int) := by omega
      have hls : (last : Int) ≤ (s.size : Int) := by omega
      have HR2 := Lib.hid (HR.out.fin (by rw [length_toList]; exact hp))
      have hnews := Lib.hid (World.news_of_block (w := wr.alloc (.cells #[.string (s.extract last s.size)] 9)) (B := wr.heap.size) (cs := #[.string (s.extract last s.size)]) (t := 9) (fr := (0, 0)) (heap_alloc_new wr _))
      have hown := World.ownsRow.alloc HO.out (.cells #[.string (s.extract last s.size)] 9)
      have hba : w.heap.size ≤ (wr.alloc (.cells #[.string (s.extract last s.size)] 9)).heap.size := by rw [World.size_alloc]; have := HB.out.size; omega
      have hob := Lib.hid (own_block hown)
      go_wp2_with (first
        | (at_builtin; refine wpList_append_own _ rfl _ _ 33 rfl w.heap.size 9 i0 (.string ⟨#[]⟩) 1 16 Tryd.underlying33 hi hz0 hz1 hz2 rfl (by decide) _ _ _ rfl hown ⟨wr.heap.size, 0, none⟩ 1 1 [.string (s.extract last s.size)] rfl rfl hnews.out (by simp [Value.oneCell']) hn1 hby hba ?_; intro v' w6 hown6 hgrow6 hnn)
        | fail)
      have HO6 := Lib.hid (show StrsOwn w6 w.heap.size v' (ps ++ [s.data.toList.drop last]) by
        unfold StrsOwn strCells
        rw [List.length_append, List.map_append]
        show w6.ownsRow _ _ _ _ _ (_ ++ [Value.string (B (s.data.toList.drop last))])
        rw [← ext_to_end]
        exact hown6)
      have HB6 := Lib.hid ((show Below w.heap.size w (wr.alloc (.cells #[.string (s.extract last s.size)] 9)) from HB.out.alloc HB.out.size _).grown hgrow6 hba (fun q hq => hob.out q hq))
      go_ret
      exact ⟨v', rfl, by rw [HR2.out]; exact HO6.out, (fun e => by have := (hnn.1 e).2; omega), HB6.out⟩

/-! The reference's number -/
theorem allDig_take {s : ByteArray} {k : Nat} (h : k < s.size) (ha : (s.data.toList.take k).all isDig = true) (hd : isDig s[k] = true) : (s.data.toList.take (k + 1)).all isDig = true := by
  rw [List.take_succ_eq_append_getElem (by rw [length_toList]; exact h), List.all_append, ha, List.all_cons, get_toList s k h, hd]; rfl
theorem allDig_no {s : ByteArray} {k : Nat} (h : k < s.size) (hd : isDig s[k] = false) : s.data.toList.all isDig = false := by
  rw [List.all_eq_false]
  exact ⟨s[k], by rw [← get_toList s k h]; exact List.getElem_mem _, by rw [hd]; simp⟩
end Go.Proofs.YtmioocmjlbjfpaaDoor
