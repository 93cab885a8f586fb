/-
  The reference's fill: an event of a kind with the fields of a line.
-/
import Derived.Test.YtmioocmjlbjfpaaDoorH0
import Derived.Test.YtmioocmjlbjfpaaDoorPU
import Derived.Deep.AppendLies
import Derived.Deep.RegionLaw
import Derived.IntWalk
namespace Go.Proofs.YtmioocmjlbjfpaaDoor
open Go.RowKit
open Pl

theorem empty_yes {s : ByteArray} (h : s.data.toList = []) : s.toList.isEmpty = true := by
  rw [ByteArray.toList_eq, h]; rfl
theorem empty_not {s : ByteArray} (h : s.data.toList ≠ []) : s.toList.isEmpty = false := by
  rw [ByteArray.toList_eq]
  cases hl : s.data.toList with
  | nil => exact absurd hl h
  | cons a r => rfl
set_option maxHeartbeats 800000 in
set_option maxRecDepth 100000 in
theorem number_any (s : ByteArray) (w : World) (hs : s.size ≤ 1000000) :
    Calls Tryd.prog 39 #[.string s] w fun e w' => e = .returned (.int .i64 (numS s.data.toList)) ∧ w = w' := by
  go_enter Tryd.func39, Tryd.ntmps39
  go_wp2_with fail
  go_loop [3, 4] (fun n i => ∃ k : Nat, i = .int .i64 k ∧ n = .int .i64 (capNum (s.data.toList.take k) : Nat) ∧ k ≤ s.size ∧ (s.data.toList.take k).all isDig = true) (fun _ i => s.size - (intOf i).toNat)
  case atStart => exact ⟨0, rfl, rfl, Nat.zero_le _, rfl⟩
  case round =>
    obtain ⟨k, rfl, rfl, hk, ha⟩ := hrel
    have Ha := Lib.hid ha
    have hcl := capNum_le (s.data.toList.take k)
    clear ha
    by_cases hp : k < s.size
    · have hk0 : (0 : Int) ≤ (k : Int) := by omega
      have hk1 : (k : Int) < (s.size : Int) := by omega
      have hp' : k < s.data.toList.length := by rw [length_toList]; exact hp
      have Hs := Lib.hid (show capNum (s.data.toList.take (k + 1)) = min (10 * capNum (s.data.toList.take k) + ((s[k]'hp).toNat - 48)) 10000 by
        rw [List.take_succ_eq_append_getElem hp', capNum_snoc, get_toList s k hp])
      have Hnd := Lib.hid (fun (h : isDig (s[k]'hp) = false) => show numS s.data.toList = -1 by
        unfold numS
        rw [if_neg (by intro e; rw [e] at hp'; simp at hp'), allDig_no hp h]; rfl)
      have Hd := Lib.hid (fun (h : isDig (s[k]'hp) = true) => allDig_take hp Ha.out h)
      by_cases h1 : ((s[k]'hp).toNat : Int) < 48
      · have Hr := Lib.hid (Hnd.out (isDig_no (Or.inl h1)))
        clear Hnd Hd Hs
        go_wp2_with fail
        go_ret
        exact ⟨ret_int Hr.out.symm, rfl⟩
      · by_cases h2 : 57 < ((s[k]'hp).toNat : Int)
        · have Hr := Lib.hid (Hnd.out (isDig_no (Or.inr h2)))
          clear Hnd Hd Hs
          go_wp2_with fail
          go_ret
          exact ⟨ret_int Hr.out.symm, rfl⟩
        · have Hr := Lib.hid (Hd.out (isDig_yes (by omega) (by omega)))
          clear Hnd Hd
          obtain ⟨d, hd⟩ : ∃ d : Nat, (s[k]'hp).toNat = 48 + d := ⟨(s[k]'hp).toNat - 48, by omega⟩
          have hd9 : d ≤ 9 := by omega
          go_wp2_with fail
          go_round
          case rel => exact ⟨k + 1, by go_num, congrArg (Value.int IntKind.i64) (by rw [Hs.out, hd]; omega), by omega, Hr.out⟩
          case measure => simp [intOf]; omega
    · have hk1 : ¬ (k : Int) < (s.size : Int) := by omega
      obtain rfl : k = s.size := by omega
      have ht : s.data.toList.take s.size = s.data.toList := List.take_of_length_le (by rw [length_toList]; exact Nat.le_refl _)
      have Ha' := Lib.hid (show s.data.toList.all isDig = true by have := Ha.out; rwa [ht] at this)
      rw [ht]
      clear Ha ht hcl hp
      by_cases h0 : s.data.toList = []
      · have hE := empty_yes h0
        have Hr := Lib.hid (show numS s.data.toList = -1 from if_pos h0)
        clear h0
        go_wp2_with fail
        go_ret
        exact ⟨ret_int Hr.out.symm, rfl⟩
      · have hE := empty_not h0
        have Hr := Lib.hid (show numS s.data.toList = (capNum s.data.toList : Int) by unfold numS; rw [if_neg h0, if_pos Ha'.out])
        clear h0
        go_wp2_with fail
        go_ret
        exact ⟨ret_int Hr.out.symm, rfl⟩

/-- The slice v reads as the texts fs. -/
def StrsAt (W : World) (B0 : Nat) (v : Value) (fs : List (List UInt8)) : Prop :=
  ∃ a c, v = .slice a fs.length c ∧ (0 < fs.length → ∃ b off, a = some ⟨b, off, none⟩ ∧ b < B0 ∧ ∀ i (h : i < fs.length), W.cell? ⟨b, off + i, none⟩ = some (.string (B fs[i])))
theorem StrsAt.on {W W' : World} {v : Value} {fs : List (List UInt8)} (h : StrsAt W W.heap.size v fs) (hb : Below W.heap.size W W') : StrsAt W' W'.heap.size v fs := by
  obtain ⟨a, c, rfl, h⟩ := h
  refine ⟨a, c, rfl, fun hp => ?_⟩
  obtain ⟨b, off, rfl, hlt, hc⟩ := h hp
  exact ⟨b, off, rfl, Nat.lt_of_lt_of_le hlt hb.size, fun i hi => ((bcell hb).1 b _ hlt).trans (hc i hi)⟩
theorem num_B (l : List UInt8) (hl : l.length ≤ 1000000) (w : World) : Calls Tryd.prog 39 #[.string (B l)] w fun e w' => e = .returned (.int .i64 (numS l)) ∧ w = w' :=
  number_any (B l) w (by rw [size_B]; exact hl)
/-- What fill hands back. -/
def FiPost (k : Nat) (fs : List (List UInt8)) (w : World) (e : Ending) (w' : World) : Prop :=
  (∃ a c, e = .returned (evV (fillS k fs) a c) ∧ OwnsP w' w.heap.size (.slice a (fillS k fs).p.length c) (fillS k fs).p) ∧ Below w.heap.size w w'
theorem FiPost.no {k : Nat} {fs : List (List UInt8)} {w w' : World} {kd n l : Int} {keys text : List UInt8} (h : fillS k fs = ⟨kd, keys, [], text, n, l⟩) (hb : Below w.heap.size w w') : FiPost k fs w (.returned (.agg #[.int .i64 kd, .string (B keys), .slice none 0 0, .string (B text), .int .i64 n, .int .i64 l])) w' :=
  ⟨⟨none, 0, by rw [h]; rfl, by rw [h]; exact OwnsP.nil _ _⟩, hb⟩
theorem one_yes {fs : List (List UInt8)} (h : fs.length = 1) : ∃ a, fs = [a] := by
  match fs, h with
  | [a], _ => exact ⟨a, rfl⟩
theorem two_yes {fs : List (List UInt8)} (h : fs.length = 2) : ∃ a b, fs = [a, b] := by
  match fs, h with
  | [a, b], _ => exact ⟨a, b, rfl⟩
theorem oneOf_no {fs : List (List UInt8)} (h : fs.length ≠ 1) : oneOf fs = [] := by
  match fs, h with
  | [], _ => rfl
  | _ :: _ :: _, _ => rfl
theorem num1_no {fs : List (List UInt8)} (h : fs.length ≠ 1) : num1 fs = 0 := by
  match fs, h with
  | [], _ => rfl
  | _ :: _ :: _, _ => rfl
theorem num2_no {fs : List (List UInt8)} (h : fs.length ≠ 2) : num2 fs = (0, 0) := by
  match fs, h with
  | [], _ => rfl
  | [_], _ => rfl
  | _ :: _ :: _ :: _, _ => rfl
def zeroEv : Obj := .cells #[.int .i64 0, .string ⟨#[]⟩, .slice none 0 0, .string ⟨#[]⟩, .int .i64 0, .int .i64 0] 31

set_option maxHeartbeats 1000000 in
set_option maxRecDepth 100000 in
theorem fill_1 (fs : List (List UInt8)) (v : Value) (w : World) (hx : StrsAt w w.heap.size v fs) (_hl : ∀ f ∈ fs, f.length ≤ 1000000) (_hm : fs.length ≤ 1000000) :
    Calls Tryd.prog 21 #[.int .i64 1, v] w (FiPost 1 fs w) := by
  have e1 : (w.alloc (.cells #[.int .i64 0, .string ⟨#[]⟩, .slice none 0 0, .string ⟨#[]⟩, .int .i64 0, .int .i64 0] 31)).heap.size = w.heap.size + 1 := World.size_alloc _ _
  have hA : Below w.heap.size w ((w.alloc (.cells #[.int .i64 0, .string ⟨#[]⟩, .slice none 0 0, .string ⟨#[]⟩, .int .i64 0, .int .i64 0] 31)).alloc (.cells #[.int .i64 1, .string ⟨#[]⟩, .slice none 0 0, .string ⟨#[]⟩, .int .i64 0, .int .i64 0] 31)) := ((Below.refl _ _).alloc (Nat.le_refl _) _).alloc (by rw [e1]; omega) _
  have E4 := Lib.hid (show EvBlock ((w.alloc (.cells #[.int .i64 0, .string ⟨#[]⟩, .slice none 0 0, .string ⟨#[]⟩, .int .i64 0, .int .i64 0] 31)).alloc (.cells #[.int .i64 1, .string ⟨#[]⟩, .slice none 0 0, .string ⟨#[]⟩, .int .i64 0, .int .i64 0] 31)) w.heap.size (.int .i64 0) (.string ⟨#[]⟩) (.slice none 0 0) (.string ⟨#[]⟩) (.int .i64 0) (.int .i64 0) from (EvBlock.new w _ _ _ _ _ _).alloc _)
  have E5a : EvBlock ((w.alloc (.cells #[.int .i64 0, .string ⟨#[]⟩, .slice none 0 0, .string ⟨#[]⟩, .int .i64 0, .int .i64 0] 31)).alloc (.cells #[.int .i64 1, .string ⟨#[]⟩, .slice none 0 0, .string ⟨#[]⟩, .int .i64 0, .int .i64 0] 31)) (w.heap.size + 1) (.int .i64 1) (.string ⟨#[]⟩) (.slice none 0 0) (.string ⟨#[]⟩) (.int .i64 0) (.int .i64 0) := by
    have h := EvBlock.new (w.alloc (.cells #[.int .i64 0, .string ⟨#[]⟩, .slice none 0 0, .string ⟨#[]⟩, .int .i64 0, .int .i64 0] 31)) (.int .i64 1) (.string ⟨#[]⟩) (.slice none 0 0) (.string ⟨#[]⟩) (.int .i64 0) (.int .i64 0)
    rwa [e1] at h
  have E5 := Lib.hid E5a
  have HX := Lib.hid hx
  have HA := Lib.hid hA
  clear e1 hA E5a hx
  obtain ⟨g0, g1, g2, g3, g4, g5⟩ := E5.out.cells
  obtain ⟨f0, f1, f2, f3, f4, f5⟩ := E5.out.free
  obtain ⟨va, vc, hv, hx⟩ := HX.out
  clear HX
  subst hv
  go_enter Tryd.func21, Tryd.ntmps21
  go_upto_region 2 with fail
  generalize hw2 : (w.alloc (.cells #[.int .i64 0, .string ⟨#[]⟩, .slice none 0 0, .string ⟨#[]⟩, .int .i64 0, .int .i64 0] 31)).alloc (.cells #[.int .i64 1, .string ⟨#[]⟩, .slice none 0 0, .string ⟨#[]⟩, .int .i64 0, .int .i64 0] 31) = w2 at *
  by_cases h1 : fs.length = 1
  · obtain ⟨a, rfl⟩ := one_yes h1
    obtain ⟨b, off, rfl, hb, hc⟩ := hx (by simp)
    have hc0 : w2.cell? ⟨b, off, none⟩ = some (.string (B a)) := (HA.out.cell (p := ⟨b, off, none⟩) hb).trans (hc 0 (by simp))
    have E5' := E5.out.set1 (.string (B a))
    have E4' := Lib.hid (E4.out.setCell (b' := w.heap.size + 1) (o := 1) (.string (B a)) (by omega))
    have HA' := Lib.hid (show Below w.heap.size w (w2.setCell ⟨w.heap.size + 1, 1, none⟩ (.string (B a))) from HA.out.setCell (by show w.heap.size ≤ w.heap.size + 1; omega) _)
    obtain ⟨y0, y1, y2, y3, y4, y5⟩ := E5'.cells
    clear E5' hc hb hx hw2 h1
    go_wp2_with (first | (refine wpList_store_ev rfl _ _ rfl _ _ _ _ _ _ _ E4'.out rfl _ _ _ _ _ _ _ _ rfl ?_; intro W' hB' hg' hs'))
    refine ret_ev1 rfl rfl rfl hB' ?_
    exact FiPost.no (k := 1) (show fillS 1 [a] = ⟨1, a, [], [], 0, 0⟩ from rfl) (HA'.out.grown hg' HA'.out.size (by simp))
  · have hne : ((fs.length : Int) == 1) = false := by rw [beq_eq_false_iff_ne]; omega
    clear hx hw2
    go_wp2_with (first | (refine wpList_store_ev rfl _ _ rfl _ _ _ _ _ _ _ E4.out rfl _ _ _ _ _ _ _ _ rfl ?_; intro W' hB' hg' hs'))
    refine ret_ev1 rfl rfl rfl hB' ?_
    exact FiPost.no (k := 1) (show fillS 1 fs = ⟨1, [], [], [], 0, 0⟩ by have e := oneOf_no h1; unfold fillS; simp [e]) (HA.out.grown hg' HA.out.size (by simp))
set_option maxHeartbeats 1000000 in
set_option maxRecDepth 100000 in
theorem fill_2 (fs : List (List UInt8)) (v : Value) (w : World) (hx : StrsAt w w.heap.size v fs) (_hl : ∀ f ∈ fs, f.length ≤ 1000000) (_hm : fs.length ≤ 1000000) :
    Calls Tryd.prog 21 #[.int .i64 2, v] w (FiPost 2 fs w) := by
  have e1 : (w.alloc (.cells #[.int .i64 0, .string ⟨#[]⟩, .slice none 0 0, .string ⟨#[]⟩, .int .i64 0, .int .i64 0] 31)).heap.size = w.heap.size + 1 := World.size_alloc _ _
  have hA : Below w.heap.size w ((w.alloc (.cells #[.int .i64 0, .string ⟨#[]⟩, .slice none 0 0, .string ⟨#[]⟩, .int .i64 0, .int .i64 0] 31)).alloc (.cells #[.int .i64 2, .string ⟨#[]⟩, .slice none 0 0, .string ⟨#[]⟩, .int .i64 0, .int .i64 0] 31)) := ((Below.refl _ _).alloc (Nat.le_refl _) _).alloc (by rw [e1]; omega) _
  have E4 := Lib.hid (show EvBlock ((w.alloc (.cells #[.int .i64 0, .string ⟨#[]⟩, .slice none 0 0, .string ⟨#[]⟩, .int .i64 0, .int .i64 0] 31)).alloc (.cells #[.int .i64 2, .string ⟨#[]⟩, .slice none 0 0, .string ⟨#[]⟩, .int .i64 0, .int .i64 0] 31)) w.heap.size (.int .i64 0) (.string ⟨#[]⟩) (.slice none 0 0) (.string ⟨#[]⟩) (.int .i64 0) (.int .i64 0) from (EvBlock.new w _ _ _ _ _ _).alloc _)
  have E5a : EvBlock ((w.alloc (.cells #[.int .i64 0, .string ⟨#[]⟩, .slice none 0 0, .string ⟨#[]⟩, .int .i64 0, .int .i64 0] 31)).alloc (.cells #[.int .i64 2, .string ⟨#[]⟩, .slice none 0 0, .string ⟨#[]⟩, .int .i64 0, .int .i64 0] 31)) (w.heap.size + 1) (.int .i64 2) (.string ⟨#[]⟩) (.slice none 0 0) (.string ⟨#[]⟩) (.int .i64 0) (.int .i64 0) := by
    have h := EvBlock.new (w.alloc (.cells #[.int .i64 0, .string ⟨#[]⟩, .slice none 0 0, .string ⟨#[]⟩, .int .i64 0, .int .i64 0] 31)) (.int .i64 2) (.string ⟨#[]⟩) (.slice none 0 0) (.string ⟨#[]⟩) (.int .i64 0) (.int .i64 0)
    rwa [e1] at h
  have E5 := Lib.hid E5a
  have HX := Lib.hid hx
  have HA := Lib.hid hA
  clear e1 hA E5a hx
  obtain ⟨g0, g1, g2, g3, g4, g5⟩ := E5.out.cells
  obtain ⟨f0, f1, f2, f3, f4, f5⟩ := E5.out.free
  obtain ⟨va, vc, hv, hx⟩ := HX.out
  clear HX
  subst hv
  go_enter Tryd.func21, Tryd.ntmps21
  go_upto_region 2 with fail
  generalize hw2 : (w.alloc (.cells #[.int .i64 0, .string ⟨#[]⟩, .slice none 0 0, .string ⟨#[]⟩, .int .i64 0, .int .i64 0] 31)).alloc (.cells #[.int .i64 2, .string ⟨#[]⟩, .slice none 0 0, .string ⟨#[]⟩, .int .i64 0, .int .i64 0] 31) = w2 at *
  by_cases h1 : fs.length = 1
  · obtain ⟨a, rfl⟩ := one_yes h1
    obtain ⟨b, off, rfl, hb, hc⟩ := hx (by simp)
    have hc0 : w2.cell? ⟨b, off, none⟩ = some (.string (B a)) := (HA.out.cell (p := ⟨b, off, none⟩) hb).trans (hc 0 (by simp))
    have E5' := E5.out.set1 (.string (B a))
    have E4' := Lib.hid (E4.out.setCell (b' := w.heap.size + 1) (o := 1) (.string (B a)) (by omega))
    have HA' := Lib.hid (show Below w.heap.size w (w2.setCell ⟨w.heap.size + 1, 1, none⟩ (.string (B a))) from HA.out.setCell (by show w.heap.size ≤ w.heap.size + 1; omega) _)
    obtain ⟨y0, y1, y2, y3, y4, y5⟩ := E5'.cells
    clear E5' hc hb hx hw2 h1
    go_wp2_with (first | (refine wpList_store_ev rfl _ _ rfl _ _ _ _ _ _ _ E4'.out rfl _ _ _ _ _ _ _ _ rfl ?_; intro W' hB' hg' hs'))
    refine ret_ev1 rfl rfl rfl hB' ?_
    exact FiPost.no (k := 2) (show fillS 2 [a] = ⟨2, a, [], [], 0, 0⟩ from rfl) (HA'.out.grown hg' HA'.out.size (by simp))
  · have hne : ((fs.length : Int) == 1) = false := by rw [beq_eq_false_iff_ne]; omega
    clear hx hw2
    go_wp2_with (first | (refine wpList_store_ev rfl _ _ rfl _ _ _ _ _ _ _ E4.out rfl _ _ _ _ _ _ _ _ rfl ?_; intro W' hB' hg' hs'))
    refine ret_ev1 rfl rfl rfl hB' ?_
    exact FiPost.no (k := 2) (show fillS 2 fs = ⟨2, [], [], [], 0, 0⟩ by have e := oneOf_no h1; unfold fillS; simp [e]) (HA.out.grown hg' HA.out.size (by simp))
set_option maxHeartbeats 1000000 in
set_option maxRecDepth 100000 in
theorem fill_5 (fs : List (List UInt8)) (v : Value) (w : World) (hx : StrsAt w w.heap.size v fs) (_hl : ∀ f ∈ fs, f.length ≤ 1000000) (_hm : fs.length ≤ 1000000) :
    Calls Tryd.prog 21 #[.int .i64 5, v] w (FiPost 5 fs w) := by
  have e1 : (w.alloc (.cells #[.int .i64 0, .string ⟨#[]⟩, .slice none 0 0, .string ⟨#[]⟩, .int .i64 0, .int .i64 0] 31)).heap.size = w.heap.size + 1 := World.size_alloc _ _
  have hA : Below w.heap.size w ((w.alloc (.cells #[.int .i64 0, .string ⟨#[]⟩, .slice none 0 0, .string ⟨#[]⟩, .int .i64 0, .int .i64 0] 31)).alloc (.cells #[.int .i64 5, .string ⟨#[]⟩, .slice none 0 0, .string ⟨#[]⟩, .int .i64 0, .int .i64 0] 31)) := ((Below.refl _ _).alloc (Nat.le_refl _) _).alloc (by rw [e1]; omega) _
  have E4 := Lib.hid (show EvBlock ((w.alloc (.cells #[.int .i64 0, .string ⟨#[]⟩, .slice none 0 0, .string ⟨#[]⟩, .int .i64 0, .int .i64 0] 31)).alloc (.cells #[.int .i64 5, .string ⟨#[]⟩, .slice none 0 0, .string ⟨#[]⟩, .int .i64 0, .int .i64 0] 31)) w.heap.size (.int .i64 0) (.string ⟨#[]⟩) (.slice none 0 0) (.string ⟨#[]⟩) (.int .i64 0) (.int .i64 0) from (EvBlock.new w _ _ _ _ _ _).alloc _)
  have E5a : EvBlock ((w.alloc (.cells #[.int .i64 0, .string ⟨#[]⟩, .slice none 0 0, .string ⟨#[]⟩, .int .i64 0, .int .i64 0] 31)).alloc (.cells #[.int .i64 5, .string ⟨#[]⟩, .slice none 0 0, .string ⟨#[]⟩, .int .i64 0, .int .i64 0] 31)) (w.heap.size + 1) (.int .i64 5) (.string ⟨#[]⟩) (.slice none 0 0) (.string ⟨#[]⟩) (.int .i64 0) (.int .i64 0) := by
    have h := EvBlock.new (w.alloc (.cells #[.int .i64 0, .string ⟨#[]⟩, .slice none 0 0, .string ⟨#[]⟩, .int .i64 0, .int .i64 0] 31)) (.int .i64 5) (.string ⟨#[]⟩) (.slice none 0 0) (.string ⟨#[]⟩) (.int .i64 0) (.int .i64 0)
    rwa [e1] at h
  have E5 := Lib.hid E5a
  have HX := Lib.hid hx
  have HA := Lib.hid hA
  clear e1 hA E5a hx
  obtain ⟨g0, g1, g2, g3, g4, g5⟩ := E5.out.cells
  obtain ⟨f0, f1, f2, f3, f4, f5⟩ := E5.out.free
  obtain ⟨va, vc, hv, hx⟩ := HX.out
  clear HX
  subst hv
  go_enter Tryd.func21, Tryd.ntmps21
  go_upto_region 2 with fail
  generalize hw2 : (w.alloc (.cells #[.int .i64 0, .string ⟨#[]⟩, .slice none 0 0, .string ⟨#[]⟩, .int .i64 0, .int .i64 0] 31)).alloc (.cells #[.int .i64 5, .string ⟨#[]⟩, .slice none 0 0, .string ⟨#[]⟩, .int .i64 0, .int .i64 0] 31) = w2 at *
  by_cases h1 : fs.length = 1
  · obtain ⟨a, rfl⟩ := one_yes h1
    obtain ⟨b, off, rfl, hb, hc⟩ := hx (by simp)
    have hc0 : w2.cell? ⟨b, off, none⟩ = some (.string (B a)) := (HA.out.cell (p := ⟨b, off, none⟩) hb).trans (hc 0 (by simp))
    have E5' := E5.out.set3 (.string (B a))
    have E4' := Lib.hid (E4.out.setCell (b' := w.heap.size + 1) (o := 3) (.string (B a)) (by omega))
    have HA' := Lib.hid (show Below w.heap.size w (w2.setCell ⟨w.heap.size + 1, 3, none⟩ (.string (B a))) from HA.out.setCell (by show w.heap.size ≤ w.heap.size + 1; omega) _)
    obtain ⟨y0, y1, y2, y3, y4, y5⟩ := E5'.cells
    clear E5' hc hb hx hw2 h1
    go_wp2_with (first | (refine wpList_store_ev rfl _ _ rfl _ _ _ _ _ _ _ E4'.out rfl _ _ _ _ _ _ _ _ rfl ?_; intro W' hB' hg' hs'))
    refine ret_ev1 rfl rfl rfl hB' ?_
    exact FiPost.no (k := 5) (show fillS 5 [a] = ⟨5, [], [], a, 0, 0⟩ from rfl) (HA'.out.grown hg' HA'.out.size (by simp))
  · have hne : ((fs.length : Int) == 1) = false := by rw [beq_eq_false_iff_ne]; omega
    clear hx hw2
    go_wp2_with (first | (refine wpList_store_ev rfl _ _ rfl _ _ _ _ _ _ _ E4.out rfl _ _ _ _ _ _ _ _ rfl ?_; intro W' hB' hg' hs'))
    refine ret_ev1 rfl rfl rfl hB' ?_
    exact FiPost.no (k := 5) (show fillS 5 fs = ⟨5, [], [], [], 0, 0⟩ by have e := oneOf_no h1; unfold fillS; simp [e]) (HA.out.grown hg' HA.out.size (by simp))
set_option maxHeartbeats 1000000 in
set_option maxRecDepth 100000 in
theorem fill_6 (fs : List (List UInt8)) (v : Value) (w : World) (hx : StrsAt w w.heap.size v fs) (_hl : ∀ f ∈ fs, f.length ≤ 1000000) (_hm : fs.length ≤ 1000000) :
    Calls Tryd.prog 21 #[.int .i64 6, v] w (FiPost 6 fs w) := by
  have e1 : (w.alloc (.cells #[.int .i64 0, .string ⟨#[]⟩, .slice none 0 0, .string ⟨#[]⟩, .int .i64 0, .int .i64 0] 31)).heap.size = w.heap.size + 1 := World.size_alloc _ _
  have hA : Below w.heap.size w ((w.alloc (.cells #[.int .i64 0, .string ⟨#[]⟩, .slice none 0 0, .string ⟨#[]⟩, .int .i64 0, .int .i64 0] 31)).alloc (.cells #[.int .i64 6, .string ⟨#[]⟩, .slice none 0 0, .string ⟨#[]⟩, .int .i64 0, .int .i64 0] 31)) := ((Below.refl _ _).alloc (Nat.le_refl _) _).alloc (by rw [e1]; omega) _
  have E4 := Lib.hid (show EvBlock ((w.alloc (.cells #[.int .i64 0, .string ⟨#[]⟩, .slice none 0 0, .string ⟨#[]⟩, .int .i64 0, .int .i64 0] 31)).alloc (.cells #[.int .i64 6, .string ⟨#[]⟩, .slice none 0 0, .string ⟨#[]⟩, .int .i64 0, .int .i64 0] 31)) w.heap.size (.int .i64 0) (.string ⟨#[]⟩) (.slice none 0 0) (.string ⟨#[]⟩) (.int .i64 0) (.int .i64 0) from (EvBlock.new w _ _ _ _ _ _).alloc _)
  have E5a : EvBlock ((w.alloc (.cells #[.int .i64 0, .string ⟨#[]⟩, .slice none 0 0, .string ⟨#[]⟩, .int .i64 0, .int .i64 0] 31)).alloc (.cells #[.int .i64 6, .string ⟨#[]⟩, .slice none 0 0, .string ⟨#[]⟩, .int .i64 0, .int .i64 0] 31)) (w.heap.size + 1) (.int .i64 6) (.string ⟨#[]⟩) (.slice none 0 0) (.string ⟨#[]⟩) (.int .i64 0) (.int .i64 0) := by
    have h := EvBlock.new (w.alloc (.cells #[.int .i64 0, .string ⟨#[]⟩, .slice none 0 0, .string ⟨#[]⟩, .int .i64 0, .int .i64 0] 31)) (.int .i64 6) (.string ⟨#[]⟩) (.slice none 0 0) (.string ⟨#[]⟩) (.int .i64 0) (.int .i64 0)
    rwa [e1] at h
  have E5 := Lib.hid E5a
  have HX := Lib.hid hx
  have HA := Lib.hid hA
  clear e1 hA E5a hx
  obtain ⟨g0, g1, g2, g3, g4, g5⟩ := E5.out.cells
  obtain ⟨f0, f1, f2, f3, f4, f5⟩ := E5.out.free
  obtain ⟨va, vc, hv, hx⟩ := HX.out
  clear HX
  subst hv
  go_enter Tryd.func21, Tryd.ntmps21
  go_upto_region 2 with fail
  generalize hw2 : (w.alloc (.cells #[.int .i64 0, .string ⟨#[]⟩, .slice none 0 0, .string ⟨#[]⟩, .int .i64 0, .int .i64 0] 31)).alloc (.cells #[.int .i64 6, .string ⟨#[]⟩, .slice none 0 0, .string ⟨#[]⟩, .int .i64 0, .int .i64 0] 31) = w2 at *
  clear hx hw2
  go_wp2_with (first | (refine wpList_store_ev rfl _ _ rfl _ _ _ _ _ _ _ E4.out rfl _ _ _ _ _ _ _ _ rfl ?_; intro W' hB' hg' hs'))
  refine ret_ev1 rfl rfl rfl hB' ?_
  exact FiPost.no (k := 6) (show fillS 6 fs = ⟨6, [], [], [], 0, 0⟩ from rfl) (HA.out.grown hg' HA.out.size (by simp))
set_option maxHeartbeats 1000000 in
set_option maxRecDepth 100000 in
theorem fill_7 (fs : List (List UInt8)) (v : Value) (w : World) (hx : StrsAt w w.heap.size v fs) (_hl : ∀ f ∈ fs, f.length ≤ 1000000) (_hm : fs.length ≤ 1000000) :
    Calls Tryd.prog 21 #[.int .i64 7, v] w (FiPost 7 fs w) := by
  have e1 : (w.alloc (.cells #[.int .i64 0, .string ⟨#[]⟩, .slice none 0 0, .string ⟨#[]⟩, .int .i64 0, .int .i64 0] 31)).heap.size = w.heap.size + 1 := World.size_alloc _ _
  have hA : Below w.heap.size w ((w.alloc (.cells #[.int .i64 0, .string ⟨#[]⟩, .slice none 0 0, .string ⟨#[]⟩, .int .i64 0, .int .i64 0] 31)).alloc (.cells #[.int .i64 7, .string ⟨#[]⟩, .slice none 0 0, .string ⟨#[]⟩, .int .i64 0, .int .i64 0] 31)) := ((Below.refl _ _).alloc (Nat.le_refl _) _).alloc (by rw [e1]; omega) _
  have E4 := Lib.hid (show EvBlock ((w.alloc (.cells #[.int .i64 0, .string ⟨#[]⟩, .slice none 0 0, .string ⟨#[]⟩, .int .i64 0, .int .i64 0] 31)).alloc (.cells #[.int .i64 7, .string ⟨#[]⟩, .slice none 0 0, .string ⟨#[]⟩, .int .i64 0, .int .i64 0] 31)) w.heap.size (.int .i64 0) (.string ⟨#[]⟩) (.slice none 0 0) (.string ⟨#[]⟩) (.int .i64 0) (.int .i64 0) from (EvBlock.new w _ _ _ _ _ _).alloc _)
  have E5a : EvBlock ((w.alloc (.cells #[.int .i64 0, .string ⟨#[]⟩, .slice none 0 0, .string ⟨#[]⟩, .int .i64 0, .int .i64 0] 31)).alloc (.cells #[.int .i64 7, .string ⟨#[]⟩, .slice none 0 0, .string ⟨#[]⟩, .int .i64 0, .int .i64 0] 31)) (w.heap.size + 1) (.int .i64 7) (.string ⟨#[]⟩) (.slice none 0 0) (.string ⟨#[]⟩) (.int .i64 0) (.int .i64 0) := by
    have h := EvBlock.new (w.alloc (.cells #[.int .i64 0, .string ⟨#[]⟩, .slice none 0 0, .string ⟨#[]⟩, .int .i64 0, .int .i64 0] 31)) (.int .i64 7) (.string ⟨#[]⟩) (.slice none 0 0) (.string ⟨#[]⟩) (.int .i64 0) (.int .i64 0)
    rwa [e1] at h
  have E5 := Lib.hid E5a
  have HX := Lib.hid hx
  have HA := Lib.hid hA
  clear e1 hA E5a hx
  obtain ⟨g0, g1, g2, g3, g4, g5⟩ := E5.out.cells
  obtain ⟨f0, f1, f2, f3, f4, f5⟩ := E5.out.free
  obtain ⟨va, vc, hv, hx⟩ := HX.out
  clear HX
  subst hv
  go_enter Tryd.func21, Tryd.ntmps21
  go_upto_region 2 with fail
  generalize hw2 : (w.alloc (.cells #[.int .i64 0, .string ⟨#[]⟩, .slice none 0 0, .string ⟨#[]⟩, .int .i64 0, .int .i64 0] 31)).alloc (.cells #[.int .i64 7, .string ⟨#[]⟩, .slice none 0 0, .string ⟨#[]⟩, .int .i64 0, .int .i64 0] 31) = w2 at *
  clear hx hw2
  go_wp2_with (first | (refine wpList_store_ev rfl _ _ rfl _ _ _ _ _ _ _ E4.out rfl _ _ _ _ _ _ _ _ rfl ?_; intro W' hB' hg' hs'))
  refine ret_ev1 rfl rfl rfl hB' ?_
  exact FiPost.no (k := 7) (show fillS 7 fs = ⟨7, [], [], [], 0, 0⟩ from rfl) (HA.out.grown hg' HA.out.size (by simp))
set_option maxHeartbeats 1000000 in
set_option maxRecDepth 100000 in
theorem fill_8 (fs : List (List UInt8)) (v : Value) (w : World) (hx : StrsAt w w.heap.size v fs) (_hl : ∀ f ∈ fs, f.length ≤ 1000000) (_hm : fs.length ≤ 1000000) :
    Calls Tryd.prog 21 #[.int .i64 8, v] w (FiPost 8 fs w) := by
  have e1 : (w.alloc (.cells #[.int .i64 0, .string ⟨#[]⟩, .slice none 0 0, .string ⟨#[]⟩, .int .i64 0, .int .i64 0] 31)).heap.size = w.heap.size + 1 := World.size_alloc _ _
  have hA : Below w.heap.size w ((w.alloc (.cells #[.int .i64 0, .string ⟨#[]⟩, .slice none 0 0, .string ⟨#[]⟩, .int .i64 0, .int .i64 0] 31)).alloc (.cells #[.int .i64 8, .string ⟨#[]⟩, .slice none 0 0, .string ⟨#[]⟩, .int .i64 0, .int .i64 0] 31)) := ((Below.refl _ _).alloc (Nat.le_refl _) _).alloc (by rw [e1]; omega) _
  have E4 := Lib.hid (show EvBlock ((w.alloc (.cells #[.int .i64 0, .string ⟨#[]⟩, .slice none 0 0, .string ⟨#[]⟩, .int .i64 0, .int .i64 0] 31)).alloc (.cells #[.int .i64 8, .string ⟨#[]⟩, .slice none 0 0, .string ⟨#[]⟩, .int .i64 0, .int .i64 0] 31)) w.heap.size (.int .i64 0) (.string ⟨#[]⟩) (.slice none 0 0) (.string ⟨#[]⟩) (.int .i64 0) (.int .i64 0) from (EvBlock.new w _ _ _ _ _ _).alloc _)
  have E5a : EvBlock ((w.alloc (.cells #[.int .i64 0, .string ⟨#[]⟩, .slice none 0 0, .string ⟨#[]⟩, .int .i64 0, .int .i64 0] 31)).alloc (.cells #[.int .i64 8, .string ⟨#[]⟩, .slice none 0 0, .string ⟨#[]⟩, .int .i64 0, .int .i64 0] 31)) (w.heap.size + 1) (.int .i64 8) (.string ⟨#[]⟩) (.slice none 0 0) (.string ⟨#[]⟩) (.int .i64 0) (.int .i64 0) := by
    have h := EvBlock.new (w.alloc (.cells #[.int .i64 0, .string ⟨#[]⟩, .slice none 0 0, .string ⟨#[]⟩, .int .i64 0, .int .i64 0] 31)) (.int .i64 8) (.string ⟨#[]⟩) (.slice none 0 0) (.string ⟨#[]⟩) (.int .i64 0) (.int .i64 0)
    rwa [e1] at h
  have E5 := Lib.hid E5a
  have HX := Lib.hid hx
  have HA := Lib.hid hA
  clear e1 hA E5a hx
  obtain ⟨g0, g1, g2, g3, g4, g5⟩ := E5.out.cells
  obtain ⟨f0, f1, f2, f3, f4, f5⟩ := E5.out.free
  obtain ⟨va, vc, hv, hx⟩ := HX.out
  clear HX
  subst hv
  go_enter Tryd.func21, Tryd.ntmps21
  go_upto_region 2 with fail
  generalize hw2 : (w.alloc (.cells #[.int .i64 0, .string ⟨#[]⟩, .slice none 0 0, .string ⟨#[]⟩, .int .i64 0, .int .i64 0] 31)).alloc (.cells #[.int .i64 8, .string ⟨#[]⟩, .slice none 0 0, .string ⟨#[]⟩, .int .i64 0, .int .i64 0] 31) = w2 at *
  clear hx hw2
  go_wp2_with (first | (refine wpList_store_ev rfl _ _ rfl _ _ _ _ _ _ _ E4.out rfl _ _ _ _ _ _ _ _ rfl ?_; intro W' hB' hg' hs'))
  refine ret_ev1 rfl rfl rfl hB' ?_
  exact FiPost.no (k := 8) (show fillS 8 fs = ⟨8, [], [], [], 0, 0⟩ from rfl) (HA.out.grown hg' HA.out.size (by simp))
set_option maxHeartbeats 1000000 in
set_option maxRecDepth 100000 in
theorem fill_11 (fs : List (List UInt8)) (v : Value) (w : World) (hx : StrsAt w w.heap.size v fs) (_hl : ∀ f ∈ fs, f.length ≤ 1000000) (_hm : fs.length ≤ 1000000) :
    Calls Tryd.prog 21 #[.int .i64 11, v] w (FiPost 11 fs w) := by
  have e1 : (w.alloc (.cells #[.int .i64 0, .string ⟨#[]⟩, .slice none 0 0, .string ⟨#[]⟩, .int .i64 0, .int .i64 0] 31)).heap.size = w.heap.size + 1 := World.size_alloc _ _
  have hA : Below w.heap.size w ((w.alloc (.cells #[.int .i64 0, .string ⟨#[]⟩, .slice none 0 0, .string ⟨#[]⟩, .int .i64 0, .int .i64 0] 31)).alloc (.cells #[.int .i64 11, .string ⟨#[]⟩, .slice none 0 0, .string ⟨#[]⟩, .int .i64 0, .int .i64 0] 31)) := ((Below.refl _ _).alloc (Nat.le_refl _) _).alloc (by rw [e1]; omega) _
  have E4 := Lib.hid (show EvBlock ((w.alloc (.cells #[.int .i64 0, .string ⟨#[]⟩, .slice none 0 0, .string ⟨#[]⟩, .int .i64 0, .int .i64 0] 31)).alloc (.cells #[.int .i64 11, .string ⟨#[]⟩, .slice none 0 0, .string ⟨#[]⟩, .int .i64 0, .int .i64 0] 31)) w.heap.size (.int .i64 0) (.string ⟨#[]⟩) (.slice none 0 0) (.string ⟨#[]⟩) (.int .i64 0) (.int .i64 0) from (EvBlock.new w _ _ _ _ _ _).alloc _)
  have E5a : EvBlock ((w.alloc (.cells #[.int .i64 0, .string ⟨#[]⟩, .slice none 0 0, .string ⟨#[]⟩, .int .i64 0, .int .i64 0] 31)).alloc (.cells #[.int .i64 11, .string ⟨#[]⟩, .slice none 0 0, .string ⟨#[]⟩, .int .i64 0, .int .i64 0] 31)) (w.heap.size + 1) (.int .i64 11) (.string ⟨#[]⟩) (.slice none 0 0) (.string ⟨#[]⟩) (.int .i64 0) (.int .i64 0) := by
    have h := EvBlock.new (w.alloc (.cells #[.int .i64 0, .string ⟨#[]⟩, .slice none 0 0, .string ⟨#[]⟩, .int .i64 0, .int .i64 0] 31)) (.int .i64 11) (.string ⟨#[]⟩) (.slice none 0 0) (.string ⟨#[]⟩) (.int .i64 0) (.int .i64 0)
    rwa [e1] at h
  have E5 := Lib.hid E5a
  have HX := Lib.hid hx
  have HA := Lib.hid hA
  clear e1 hA E5a hx
  obtain ⟨g0, g1, g2, g3, g4, g5⟩ := E5.out.cells
  obtain ⟨f0, f1, f2, f3, f4, f5⟩ := E5.out.free
  obtain ⟨va, vc, hv, hx⟩ := HX.out
  clear HX
  subst hv
  go_enter Tryd.func21, Tryd.ntmps21
  go_upto_region 2 with fail
  generalize hw2 : (w.alloc (.cells #[.int .i64 0, .string ⟨#[]⟩, .slice none 0 0, .string ⟨#[]⟩, .int .i64 0, .int .i64 0] 31)).alloc (.cells #[.int .i64 11, .string ⟨#[]⟩, .slice none 0 0, .string ⟨#[]⟩, .int .i64 0, .int .i64 0] 31) = w2 at *
  clear hx hw2
  go_wp2_with (first | (refine wpList_store_ev rfl _ _ rfl _ _ _ _ _ _ _ E4.out rfl _ _ _ _ _ _ _ _ rfl ?_; intro W' hB' hg' hs'))
  refine ret_ev1 rfl rfl rfl hB' ?_
  exact FiPost.no (k := 11) (show fillS 11 fs = ⟨11, [], [], [], 0, 0⟩ from rfl) (HA.out.grown hg' HA.out.size (by simp))
set_option maxHeartbeats 1000000 in
set_option maxRecDepth 100000 in
theorem fill_12 (fs : List (List UInt8)) (v : Value) (w : World) (hx : StrsAt w w.heap.size v fs) (_hl : ∀ f ∈ fs, f.length ≤ 1000000) (_hm : fs.length ≤ 1000000) :
    Calls Tryd.prog 21 #[.int .i64 12, v] w (FiPost 12 fs w) := by
  have e1 : (w.alloc (.cells #[.int .i64 0, .string ⟨#[]⟩, .slice none 0 0, .string ⟨#[]⟩, .int .i64 0, .int .i64 0] 31)).heap.size = w.heap.size + 1 := World.size_alloc _ _
  have hA : Below w.heap.size w ((w.alloc (.cells #[.int .i64 0, .string ⟨#[]⟩, .slice none 0 0, .string ⟨#[]⟩, .int .i64 0, .int .i64 0] 31)).alloc (.cells #[.int .i64 12, .string ⟨#[]⟩, .slice none 0 0, .string ⟨#[]⟩, .int .i64 0, .int .i64 0] 31)) := ((Below.refl _ _).alloc (Nat.le_refl _) _).alloc (by rw [e1]; omega) _
  have E4 := Lib.hid (show EvBlock ((w.alloc (.cells #[.int .i64 0, .string ⟨#[]⟩, .slice none 0 0, .string ⟨#[]⟩, .int .i64 0, .int .i64 0] 31)).alloc (.cells #[.int .i64 12, .string ⟨#[]⟩, .slice none 0 0, .string ⟨#[]⟩, .int .i64 0, .int .i64 0] 31)) w.heap.size (.int .i64 0) (.string ⟨#[]⟩) (.slice none 0 0) (.string ⟨#[]⟩) (.int .i64 0) (.int .i64 0) from (EvBlock.new w _ _ _ _ _ _).alloc _)
  have E5a : EvBlock ((w.alloc (.cells #[.int .i64 0, .string ⟨#[]⟩, .slice none 0 0, .string ⟨#[]⟩, .int .i64 0, .int .i64 0] 31)).alloc (.cells #[.int .i64 12, .string ⟨#[]⟩, .slice none 0 0, .string ⟨#[]⟩, .int .i64 0, .int .i64 0] 31)) (w.heap.size + 1) (.int .i64 12) (.string ⟨#[]⟩) (.slice none 0 0) (.string ⟨#[]⟩) (.int .i64 0) (.int .i64 0) := by
    have h := EvBlock.new (w.alloc (.cells #[.int .i64 0, .string ⟨#[]⟩, .slice none 0 0, .string ⟨#[]⟩, .int .i64 0, .int .i64 0] 31)) (.int .i64 12) (.string ⟨#[]⟩) (.slice none 0 0) (.string ⟨#[]⟩) (.int .i64 0) (.int .i64 0)
    rwa [e1] at h
  have E5 := Lib.hid E5a
  have HX := Lib.hid hx
  have HA := Lib.hid hA
  clear e1 hA E5a hx
  obtain ⟨g0, g1, g2, g3, g4, g5⟩ := E5.out.cells
  obtain ⟨f0, f1, f2, f3, f4, f5⟩ := E5.out.free
  obtain ⟨va, vc, hv, hx⟩ := HX.out
  clear HX
  subst hv
  go_enter Tryd.func21, Tryd.ntmps21
  go_upto_region 2 with fail
  generalize hw2 : (w.alloc (.cells #[.int .i64 0, .string ⟨#[]⟩, .slice none 0 0, .string ⟨#[]⟩, .int .i64 0, .int .i64 0] 31)).alloc (.cells #[.int .i64 12, .string ⟨#[]⟩, .slice none 0 0, .string ⟨#[]⟩, .int .i64 0, .int .i64 0] 31) = w2 at *
  clear hx hw2
  go_wp2_with (first | (refine wpList_store_ev rfl _ _ rfl _ _ _ _ _ _ _ E4.out rfl _ _ _ _ _ _ _ _ rfl ?_; intro W' hB' hg' hs'))
  refine ret_ev1 rfl rfl rfl hB' ?_
  exact FiPost.no (k := 12) (show fillS 12 fs = ⟨12, [], [], [], 0, 0⟩ from rfl) (HA.out.grown hg' HA.out.size (by simp))
set_option maxHeartbeats 1000000 in
set_option maxRecDepth 100000 in
theorem fill_10 (fs : List (List UInt8)) (v : Value) (w : World) (hx : StrsAt w w.heap.size v fs) (hl : ∀ f ∈ fs, f.length ≤ 1000000) (_hm : fs.length ≤ 1000000) :
    Calls Tryd.prog 21 #[.int .i64 10, v] w (FiPost 10 fs w) := by
  have e1 : (w.alloc (.cells #[.int .i64 0, .string ⟨#[]⟩, .slice none 0 0, .string ⟨#[]⟩, .int .i64 0, .int .i64 0] 31)).heap.size = w.heap.size + 1 := World.size_alloc _ _
  have hA : Below w.heap.size w ((w.alloc (.cells #[.int .i64 0, .string ⟨#[]⟩, .slice none 0 0, .string ⟨#[]⟩, .int .i64 0, .int .i64 0] 31)).alloc (.cells #[.int .i64 10, .string ⟨#[]⟩, .slice none 0 0, .string ⟨#[]⟩, .int .i64 0, .int .i64 0] 31)) := ((Below.refl _ _).alloc (Nat.le_refl _) _).alloc (by rw [e1]; omega) _
  have E4 := Lib.hid (show EvBlock ((w.alloc (.cells #[.int .i64 0, .string ⟨#[]⟩, .slice none 0 0, .string ⟨#[]⟩, .int .i64 0, .int .i64 0] 31)).alloc (.cells #[.int .i64 10, .string ⟨#[]⟩, .slice none 0 0, .string ⟨#[]⟩, .int .i64 0, .int .i64 0] 31)) w.heap.size (.int .i64 0) (.string ⟨#[]⟩) (.slice none 0 0) (.string ⟨#[]⟩) (.int .i64 0) (.int .i64 0) from (EvBlock.new w _ _ _ _ _ _).alloc _)
  have E5a : EvBlock ((w.alloc (.cells #[.int .i64 0, .string ⟨#[]⟩, .slice none 0 0, .string ⟨#[]⟩, .int .i64 0, .int .i64 0] 31)).alloc (.cells #[.int .i64 10, .string ⟨#[]⟩, .slice none 0 0, .string ⟨#[]⟩, .int .i64 0, .int .i64 0] 31)) (w.heap.size + 1) (.int .i64 10) (.string ⟨#[]⟩) (.slice none 0 0) (.string ⟨#[]⟩) (.int .i64 0) (.int .i64 0) := by
    have h := EvBlock.new (w.alloc (.cells #[.int .i64 0, .string ⟨#[]⟩, .slice none 0 0, .string ⟨#[]⟩, .int .i64 0, .int .i64 0] 31)) (.int .i64 10) (.string ⟨#[]⟩) (.slice none 0 0) (.string ⟨#[]⟩) (.int .i64 0) (.int .i64 0)
    rwa [e1] at h
  have E5 := Lib.hid E5a
  have HX := Lib.hid hx
  have HA := Lib.hid hA
  clear e1 hA E5a hx
  obtain ⟨g0, g1, g2, g3, g4, g5⟩ := E5.out.cells
  obtain ⟨f0, f1, f2, f3, f4, f5⟩ := E5.out.free
  obtain ⟨va, vc, hv, hx⟩ := HX.out
  clear HX
  subst hv
  go_enter Tryd.func21, Tryd.ntmps21
  go_upto_region 2 with fail
  generalize hw2 : (w.alloc (.cells #[.int .i64 0, .string ⟨#[]⟩, .slice none 0 0, .string ⟨#[]⟩, .int .i64 0, .int .i64 0] 31)).alloc (.cells #[.int .i64 10, .string ⟨#[]⟩, .slice none 0 0, .string ⟨#[]⟩, .int .i64 0, .int .i64 0] 31) = w2 at *
  by_cases h1 : fs.length = 1
  · obtain ⟨a, rfl⟩ := one_yes h1
    obtain ⟨b, off, rfl, hb, hc⟩ := hx (by simp)
    have hc0 : w2.cell? ⟨b, off, none⟩ = some (.string (B a)) := (HA.out.cell (p := ⟨b, off, none⟩) hb).trans (hc 0 (by simp))
    have CN := fun W => Lib.hid (num_B a (hl a (by simp)) W)
    have E5' := E5.out.set4 (.int .i64 (numS a))
    have E4' := Lib.hid (E4.out.setCell (b' := w.heap.size + 1) (o := 4) (.int .i64 (numS a)) (by omega))
    have HA' := Lib.hid (show Below w.heap.size w (w2.setCell ⟨w.heap.size + 1, 4, none⟩ (.int .i64 (numS a))) from HA.out.setCell (by show w.heap.size ≤ w.heap.size + 1; omega) _)
    obtain ⟨y0, y1, y2, y3, y4, y5⟩ := E5'.cells
    clear E5' hc hb hx hw2 h1
    go_wp2_with (first | (go_at_call 39; refine ((CN _).out).mono ?_; rintro e w' ⟨rfl, rfl⟩) | (refine wpList_store_ev rfl _ _ rfl _ _ _ _ _ _ _ E4'.out rfl _ _ _ _ _ _ _ _ rfl ?_; intro W' hB' hg' hs'))
    refine ret_ev1 rfl rfl rfl hB' ?_
    exact FiPost.no (k := 10) (show fillS 10 [a] = ⟨10, [], [], [], numS a, 0⟩ from rfl) (HA'.out.grown hg' HA'.out.size (by simp))
  · have hne : ((fs.length : Int) == 1) = false := by rw [beq_eq_false_iff_ne]; omega
    clear hx hw2
    go_wp2_with (first | (refine wpList_store_ev rfl _ _ rfl _ _ _ _ _ _ _ E4.out rfl _ _ _ _ _ _ _ _ rfl ?_; intro W' hB' hg' hs'))
    refine ret_ev1 rfl rfl rfl hB' ?_
    exact FiPost.no (k := 10) (show fillS 10 fs = ⟨10, [], [], [], 0, 0⟩ by have e := num1_no h1; unfold fillS; simp [e]) (HA.out.grown hg' HA.out.size (by simp))
set_option maxHeartbeats 1000000 in
set_option maxRecDepth 100000 in
theorem fill_9 (fs : List (List UInt8)) (v : Value) (w : World) (hx : StrsAt w w.heap.size v fs) (hl : ∀ f ∈ fs, f.length ≤ 1000000) (_hm : fs.length ≤ 1000000) :
    Calls Tryd.prog 21 #[.int .i64 9, v] w (FiPost 9 fs w) := by
  have e1 : (w.alloc (.cells #[.int .i64 0, .string ⟨#[]⟩, .slice none 0 0, .string ⟨#[]⟩, .int .i64 0, .int .i64 0] 31)).heap.size = w.heap.size + 1 := World.size_alloc _ _
  have hA : Below w.heap.size w ((w.alloc (.cells #[.int .i64 0, .string ⟨#[]⟩, .slice none 0 0, .string ⟨#[]⟩, .int .i64 0, .int .i64 0] 31)).alloc (.cells #[.int .i64 9, .string ⟨#[]⟩, .slice none 0 0, .string ⟨#[]⟩, .int .i64 0, .int .i64 0] 31)) := ((Below.refl _ _).alloc (Nat.le_refl _) _).alloc (by rw [e1]; omega) _
  have E4 := Lib.hid (show EvBlock ((w.alloc (.cells #[.int .i64 0, .string ⟨#[]⟩, .slice none 0 0, .string ⟨#[]⟩, .int .i64 0, .int .i64 0] 31)).alloc (.cells #[.int .i64 9, .string ⟨#[]⟩, .slice none 0 0, .string ⟨#[]⟩, .int .i64 0, .int .i64 0] 31)) w.heap.size (.int .i64 0) (.string ⟨#[]⟩) (.slice none 0 0) (.string ⟨#[]⟩) (.int .i64 0) (.int .i64 0) from (EvBlock.new w _ _ _ _ _ _).alloc _)
  have E5a : EvBlock ((w.alloc (.cells #[.int .i64 0, .string ⟨#[]⟩, .slice none 0 0, .string ⟨#[]⟩, .int .i64 0, .int .i64 0] 31)).alloc (.cells #[.int .i64 9, .string ⟨#[]⟩, .slice none 0 0, .string ⟨#[]⟩, .int .i64 0, .int .i64 0] 31)) (w.heap.size + 1) (.int .i64 9) (.string ⟨#[]⟩) (.slice none 0 0) (.string ⟨#[]⟩) (.int .i64 0) (.int .i64 0) := by
    have h := EvBlock.new (w.alloc (.cells #[.int .i64 0, .string ⟨#[]⟩, .slice none 0 0, .string ⟨#[]⟩, .int .i64 0, .int .i64 0] 31)) (.int .i64 9) (.string ⟨#[]⟩) (.slice none 0 0) (.string ⟨#[]⟩) (.int .i64 0) (.int .i64 0)
    rwa [e1] at h
  have E5 := Lib.hid E5a
  have HX := Lib.hid hx
  have HA := Lib.hid hA
  clear e1 hA E5a hx
  obtain ⟨g0, g1, g2, g3, g4, g5⟩ := E5.out.cells
  obtain ⟨f0, f1, f2, f3, f4, f5⟩ := E5.out.free
  obtain ⟨va, vc, hv, hx⟩ := HX.out
  clear HX
  subst hv
  go_enter Tryd.func21, Tryd.ntmps21
  go_upto_region 2 with fail
  generalize hw2 : (w.alloc (.cells #[.int .i64 0, .string ⟨#[]⟩, .slice none 0 0, .string ⟨#[]⟩, .int .i64 0, .int .i64 0] 31)).alloc (.cells #[.int .i64 9, .string ⟨#[]⟩, .slice none 0 0, .string ⟨#[]⟩, .int .i64 0, .int .i64 0] 31) = w2 at *
  by_cases h1 : fs.length = 2
  · obtain ⟨a, q, rfl⟩ := two_yes h1
    obtain ⟨b, off, rfl, hb, hc⟩ := hx (by simp)
    have hc0 : w2.cell? ⟨b, off, none⟩ = some (.string (B a)) := (HA.out.cell (p := ⟨b, off, none⟩) hb).trans (hc 0 (by simp))
    have HA' := Lib.hid (show Below w.heap.size w (w2.setCell ⟨w.heap.size + 1, 4, none⟩ (.int .i64 (numS a))) from HA.out.setCell (by show w.heap.size ≤ w.heap.size + 1; omega) _)
    have hc1 : (w2.setCell ⟨w.heap.size + 1, 4, none⟩ (.int .i64 (numS a))).cell? ⟨b, off + 1, none⟩ = some (.string (B q)) := (HA'.out.cell (p := ⟨b, off + 1, none⟩) hb).trans (hc 1 (by simp))
    have CN := fun W => Lib.hid (num_B a (hl a (by simp)) W)
    have CQ := fun W => Lib.hid (num_B q (hl q (by simp)) W)
    have E5' := E5.out.set4 (.int .i64 (numS a))
    have E5'' := E5'.set5 (.int .i64 (numS q))
    have E4'' := Lib.hid ((E4.out.setCell (b' := w.heap.size + 1) (o := 4) (.int .i64 (numS a)) (by omega)).setCell (b' := w.heap.size + 1) (o := 5) (.int .i64 (numS q)) (by omega))
    have HA'' := Lib.hid (show Below w.heap.size w ((w2.setCell ⟨w.heap.size + 1, 4, none⟩ (.int .i64 (numS a))).setCell ⟨w.heap.size + 1, 5, none⟩ (.int .i64 (numS q))) from HA'.out.setCell (by show w.heap.size ≤ w.heap.size + 1; omega) _)
    obtain ⟨y0, y1, y2, y3, y4, y5⟩ := E5'.cells
    obtain ⟨z0, z1, z2, z3, z4, z5⟩ := E5'.free
    obtain ⟨x0, x1, x2, x3, x4, x5⟩ := E5''.cells
    clear E5' E5'' hc hb hx hw2 h1
    go_wp2_with (first | (go_at_call_of 39 (Value.string (B a)); refine ((CN _).out).mono ?_; rintro e w' ⟨rfl, rfl⟩) | (go_at_call_of 39 (Value.string (B q)); refine ((CQ _).out).mono ?_; rintro e w' ⟨rfl, rfl⟩) | (refine wpList_store_ev rfl _ _ rfl _ _ _ _ _ _ _ E4''.out rfl _ _ _ _ _ _ _ _ rfl ?_; intro W' hB' hg' hs'))
    refine ret_ev1 rfl rfl rfl hB' ?_
    exact FiPost.no (k := 9) (show fillS 9 [a, q] = ⟨9, [], [], [], numS a, numS q⟩ from rfl) (HA''.out.grown hg' HA''.out.size (by simp))
  · have hne : ((fs.length : Int) == 2) = false := by rw [beq_eq_false_iff_ne]; omega
    clear hx hw2
    go_wp2_with (first | (refine wpList_store_ev rfl _ _ rfl _ _ _ _ _ _ _ E4.out rfl _ _ _ _ _ _ _ _ rfl ?_; intro W' hB' hg' hs'))
    refine ret_ev1 rfl rfl rfl hB' ?_
    exact FiPost.no (k := 9) (show fillS 9 fs = ⟨9, [], [], [], 0, 0⟩ by have e := num2_no h1; unfold fillS; simp [e]) (HA.out.grown hg' HA.out.size (by simp))
theorem ptsOf_short {fs : List (List UInt8)} (h : fs.length ≤ 1) : ptsOf fs = [] := by
  match fs, h with
  | [], _ => rfl
  | [_], _ => rfl
theorem ptsOf_two {fs : List (List UInt8)} {j : Nat} (h : j + 1 < fs.length) : ptsOf (fs.drop j) = (numS (fs[j]'(by omega)), numS fs[j + 1]) :: ptsOf (fs.drop (j + 2)) := by
  rw [List.drop_eq_getElem_cons (show j < fs.length by omega), List.drop_eq_getElem_cons h]; rfl
theorem ptCells_end (ps : List (Int × Int)) (x y : Int) : ptCells (ps ++ [(x, y)]) = ptCells ps ++ [.int .i64 x, .int .i64 y] := by simp [ptCells]
theorem FiPost.pts {k : Nat} {fs : List (List UInt8)} {w w' : World} {kd : Int} {ps : List (Int × Int)} {a : Option Addr} {c : Nat} (h : fillS k fs = ⟨kd, [], ps, [], 0, 0⟩) (hP : OwnsP w' w.heap.size (.slice a ps.length c) ps) (hb : Below w.heap.size w w') : FiPost k fs w (.returned (.agg #[.int .i64 kd, .string ⟨#[]⟩, .slice a ps.length c, .string ⟨#[]⟩, .int .i64 0, .int .i64 0])) w' :=
  ⟨⟨a, c, by rw [h]; rfl, by rw [h]; exact hP⟩, hb⟩
/-- At each round's head. -/
def FpRel (w : World) (kd : Int) (fs : List (List UInt8)) (j : Nat) (wr : World) : Prop :=
  Below w.heap.size w wr ∧ EvBlock wr w.heap.size (.int .i64 0) (.string ⟨#[]⟩) (.slice none 0 0) (.string ⟨#[]⟩) (.int .i64 0) (.int .i64 0) ∧ ∃ (ps : List (Int × Int)) (oa : Option Addr) (oc : Nat), j = 2 * ps.length ∧ j ≤ fs.length ∧ ptsOf fs = ps ++ ptsOf (fs.drop j) ∧ EvBlock wr (w.heap.size + 1) (.int .i64 kd) (.string ⟨#[]⟩) (.slice oa ps.length oc) (.string ⟨#[]⟩) (.int .i64 0) (.int .i64 0) ∧ OwnsP wr (w.heap.size + 2) (.slice oa ps.length oc) ps
theorem FpRel.step {w wr w2 : World} {kd : Int} {fs : List (List UInt8)} {ps : List (Int × Int)} {oa : Option Addr} {oc : Nat} (hb : Below w.heap.size w wr) (h4 : EvBlock wr w.heap.size (.int .i64 0) (.string ⟨#[]⟩) (.slice none 0 0) (.string ⟨#[]⟩) (.int .i64 0) (.int .i64 0))
    (hE : EvBlock wr (w.heap.size + 1) (.int .i64 kd) (.string ⟨#[]⟩) (.slice oa ps.length oc) (.string ⟨#[]⟩) (.int .i64 0) (.int .i64 0)) (hO : OwnsP wr (w.heap.size + 2) (.slice oa ps.length oc) ps) {x y : Int} {j : Nat} (hjj : 2 * ps.length = j) (hj : j + 1 < fs.length)
    (hps : ptsOf fs = ps ++ (x, y) :: ptsOf (fs.drop (j + 2))) {o : Obj} {gg cap' : Nat} (hown2 : w2.ownsRow (w.heap.size + 2) 40 2 (.slice (some ⟨gg, 0, none⟩) (ps.length + 1) cap') (ps.length + 1) (ptCells ps ++ [.int .i64 x, .int .i64 y]))
    (hgrow : (wr.alloc o).drew.grownBy w2 (Value.slice oa ps.length oc).ownBlock) :
    FpRel w kd fs (j + 2) (w2.setCell ⟨w.heap.size + 1, 2, none⟩ (.slice (some ⟨gg, 0, none⟩) (ps.length + 1) cap')) := by
  have hne : some (w.heap.size + 1) ≠ (Value.slice oa ps.length oc).ownBlock := fun e => by have := own_block hO _ e.symm; omega
  have hne4 : some w.heap.size ≠ (Value.slice oa ps.length oc).ownBlock := fun e => by have := own_block hO _ e.symm; omega
  have hgg : w.heap.size + 2 ≤ gg := own_block hown2 gg rfl
  have hb1 : Below w.heap.size w w2 := ((hb.alloc hb.size o).drew).grown hgrow (by have := hb.size; simp; omega) (fun k hk => by have := own_block hO k hk; omega)
  have hl : (ps ++ [(x, y)]).length = ps.length + 1 := by simp
  refine ⟨hb1.setCell (by show w.heap.size ≤ w.heap.size + 1; omega) _, ((h4.alloc o).drew.kept hgrow hne4).setCell _ (by omega), ps ++ [(x, y)], some ⟨gg, 0, none⟩, cap', by rw [hl]; omega, by omega, by rw [hps]; simp, ?_, ?_⟩
  · rw [hl]
    exact ((hE.alloc o).drew.kept hgrow hne).setP _
  · unfold OwnsP
    rw [ptCells_end, hl]
    rcases hown2.2 with ⟨h0, _⟩ | ⟨g', c', cur, hv, hgb, hh, r⟩
    · cases h0
    · refine ⟨hown2.1, Or.inr ⟨g', c', cur, hv, hgb, ?_, r⟩⟩
      rw [heap_setCell_other _ _ _ _ (by show g' ≠ w.heap.size + 1; omega)]
      exact hh

end Go.Proofs.YtmioocmjlbjfpaaDoor
