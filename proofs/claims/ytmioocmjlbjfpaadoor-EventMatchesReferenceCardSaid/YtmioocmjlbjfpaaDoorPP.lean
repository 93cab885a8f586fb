/-
  The reference's Valid: it answers as validB says.
-/
import Derived.Test.YtmioocmjlbjfpaaDoorOO
import Derived.Test.YtmioocmjlbjfpaaDoorGG
import Derived.Deep.DeepCutAuto
import Derived.Deep.CutBlock
namespace Go.Proofs.YtmioocmjlbjfpaaDoor
open Go.RowKit
open Pl

theorem below_drewN {b : Nat} {W W' : World} (h : Below b W W') : ∀ n, Below b W (W'.drewN n)
  | 0 => h
  | n + 1 => (below_drewN h n).drew
/-- What is asked of the four answers that the reference joins. -/
def VRel (ev : Ev) (a b c d : Bool) : Prop := 1 ≤ ev.kind → ev.kind ≤ 12 → (a && (b && (c && d))) = validB ev

theorem fitsB_iff {k1 k2 p1 p2 t1 t2 n1 n2 s1 s2 : Int} {keys : List UInt8} {ps : List (Int × Int)} {text : List UInt8} {n l : Int} : fitsB k1 k2 p1 p2 t1 t2 n1 n2 s1 s2 keys ps text n l = true ↔
    ((k1 ≤ (keys.length : Int) ∧ (keys.length : Int) ≤ k2) ∧ (p1 ≤ (ps.length : Int) ∧ (ps.length : Int) ≤ p2) ∧ (t1 ≤ (text.length : Int) ∧ (text.length : Int) ≤ t2) ∧ (n1 ≤ n ∧ n ≤ n2) ∧ (s1 ≤ l ∧ l ≤ s2)) ∧ lettersB keys = true ∧ incB keys = true ∧ lettersB text = true ∧ insideB ps = true := by
  constructor
  · intro h
    have := fitsB_true h
    rw [size_B, size_B] at this
    exact this
  · rintro ⟨⟨h1, h2, h3, h4, h5⟩, h6, h7, h8, h9⟩
    exact fits_mk h1 h2 h3 h4 h5 h6 h7 h8 h9
theorem e_ps {ps : List (Int × Int)} : (((ps.length : Int) == 0) = true) ↔ ps = [] := by
  rw [beq_iff_eq]
  constructor
  · intro h; exact List.length_eq_zero_iff.1 (by omega)
  · rintro rfl; rfl
theorem e_str {t : List UInt8} : ((B t).toList.isEmpty = true) ↔ t = [] := by
  cases t with
  | nil => simp [isEmpty_nil]
  | cons c r => rw [isEmpty_cons (by simp)]; simp
theorem e_nl {n l : Int} : ((decide (n = 0) && decide (l = 0)) = true) ↔ n = 0 ∧ l = 0 := by simp
theorem len1 {t : List UInt8} (h : t.length = 1) : incB t = true := by
  match t, h with
  | [c], _ => rfl
theorem v_key {keys text : List UInt8} {ps : List (Int × Int)} {n l : Int} {a : Bool} (ha : a = (decide (keys.length = 1) && lettersB keys)) : VRel ⟨1, keys, ps, text, n, l⟩ a ((ps.length : Int) == 0) ((B text).toList.isEmpty) (decide (n = 0) && decide (l = 0)) := by
  intro _ _
  show _ = fitsB 1 1 0 0 0 0 0 0 0 0 keys ps text n l
  rw [Bool.eq_iff_iff, fitsB_iff, ha, Bool.and_eq_true, Bool.and_eq_true, Bool.and_eq_true, Bool.and_eq_true, e_ps, e_str, e_nl, decide_eq_true_eq]
  constructor
  · rintro ⟨⟨h1, h2⟩, rfl, rfl, rfl, rfl⟩
    exact ⟨⟨by omega, by decide, by decide, by decide, by decide⟩, h2, len1 h1, rfl, rfl⟩
  · rintro ⟨⟨h1, h2, h3, h4, h5⟩, h6, h7, h8, h9⟩
    exact ⟨⟨by omega, h6⟩, List.length_eq_zero_iff.1 (by omega), List.length_eq_zero_iff.1 (by omega), by omega, by omega⟩
theorem v_chord {keys text : List UInt8} {ps : List (Int × Int)} {n l : Int} {a : Bool} (ha : a = (hasB 2 4 (keys.length : Int) && (lettersB keys && incB keys))) : VRel ⟨2, keys, ps, text, n, l⟩ a ((ps.length : Int) == 0) ((B text).toList.isEmpty) (decide (n = 0) && decide (l = 0)) := by
  intro _ _
  show _ = fitsB 2 4 0 0 0 0 0 0 0 0 keys ps text n l
  rw [Bool.eq_iff_iff, fitsB_iff, ha, Bool.and_eq_true, Bool.and_eq_true, Bool.and_eq_true, Bool.and_eq_true, Bool.and_eq_true, e_ps, e_str, e_nl, hasB_true]
  constructor
  · rintro ⟨⟨h1, h2, h3⟩, rfl, rfl, rfl, rfl⟩
    exact ⟨⟨h1, by decide, by decide, by decide, by decide⟩, h2, h3, rfl, rfl⟩
  · rintro ⟨⟨h1, h2, h3, h4, h5⟩, h6, h7, h8, h9⟩
    exact ⟨⟨h1, h6, h7⟩, List.length_eq_zero_iff.1 (by omega), List.length_eq_zero_iff.1 (by omega), by omega, by omega⟩
theorem v_touch {keys text : List UInt8} {ps : List (Int × Int)} {n l : Int} {b : Bool} (hb : b = (insideB ps && hasB 1 1 (ps.length : Int))) : VRel ⟨3, keys, ps, text, n, l⟩ ((B keys).toList.isEmpty) b ((B text).toList.isEmpty) (decide (n = 0) && decide (l = 0)) := by
  intro _ _
  show _ = fitsB 0 0 1 1 0 0 0 0 0 0 keys ps text n l
  rw [Bool.eq_iff_iff, fitsB_iff, hb, Bool.and_eq_true, Bool.and_eq_true, Bool.and_eq_true, Bool.and_eq_true, e_str, e_str, e_nl, hasB_true]
  constructor
  · rintro ⟨rfl, ⟨h1, h2⟩, rfl, rfl, rfl⟩
    exact ⟨⟨by decide, h2, by decide, by decide, by decide⟩, rfl, rfl, rfl, h1⟩
  · rintro ⟨⟨h1, h2, h3, h4, h5⟩, h6, h7, h8, h9⟩
    exact ⟨List.length_eq_zero_iff.1 (by omega), ⟨h9, h2⟩, List.length_eq_zero_iff.1 (by omega), by omega, by omega⟩
theorem v_stroke {keys text : List UInt8} {ps : List (Int × Int)} {n l : Int} {b : Bool} (hb : b = (insideB ps && hasB 2 12 (ps.length : Int))) : VRel ⟨4, keys, ps, text, n, l⟩ ((B keys).toList.isEmpty) b ((B text).toList.isEmpty) (decide (n = 0) && decide (l = 0)) := by
  intro _ _
  show _ = fitsB 0 0 2 12 0 0 0 0 0 0 keys ps text n l
  rw [Bool.eq_iff_iff, fitsB_iff, hb, Bool.and_eq_true, Bool.and_eq_true, Bool.and_eq_true, Bool.and_eq_true, e_str, e_str, e_nl, hasB_true]
  constructor
  · rintro ⟨rfl, ⟨h1, h2⟩, rfl, rfl, rfl⟩
    exact ⟨⟨by decide, h2, by decide, by decide, by decide⟩, rfl, rfl, rfl, h1⟩
  · rintro ⟨⟨h1, h2, h3, h4, h5⟩, h6, h7, h8, h9⟩
    exact ⟨List.length_eq_zero_iff.1 (by omega), ⟨h9, h2⟩, List.length_eq_zero_iff.1 (by omega), by omega, by omega⟩
theorem v_paste {keys text : List UInt8} {ps : List (Int × Int)} {n l : Int} {c : Bool} (hc : c = (hasB 1 20 (text.length : Int) && lettersB text)) : VRel ⟨5, keys, ps, text, n, l⟩ ((B keys).toList.isEmpty) ((ps.length : Int) == 0) c (decide (n = 0) && decide (l = 0)) := by
  intro _ _
  show _ = fitsB 0 0 0 0 1 20 0 0 0 0 keys ps text n l
  rw [Bool.eq_iff_iff, fitsB_iff, hc, Bool.and_eq_true, Bool.and_eq_true, Bool.and_eq_true, Bool.and_eq_true, e_str, e_ps, e_nl, hasB_true]
  constructor
  · rintro ⟨rfl, rfl, ⟨h1, h2⟩, rfl, rfl⟩
    exact ⟨⟨by decide, by decide, h1, by decide, by decide⟩, rfl, rfl, h2, rfl⟩
  · rintro ⟨⟨h1, h2, h3, h4, h5⟩, h6, h7, h8, h9⟩
    exact ⟨List.length_eq_zero_iff.1 (by omega), List.length_eq_zero_iff.1 (by omega), ⟨h3, h8⟩, by omega, by omega⟩
theorem v_hold {keys text : List UInt8} {ps : List (Int × Int)} {n l : Int} {d : Bool} (hd : d = (hasB 0 39 n && hasB 1 40 l)) : VRel ⟨9, keys, ps, text, n, l⟩ ((B keys).toList.isEmpty) ((ps.length : Int) == 0) ((B text).toList.isEmpty) d := by
  intro _ _
  show _ = fitsB 0 0 0 0 0 0 0 39 1 40 keys ps text n l
  rw [Bool.eq_iff_iff, fitsB_iff, hd, Bool.and_eq_true, Bool.and_eq_true, Bool.and_eq_true, Bool.and_eq_true, e_str, e_ps, e_str, hasB_true, hasB_true]
  constructor
  · rintro ⟨rfl, rfl, rfl, h1, h2⟩
    exact ⟨⟨by decide, by decide, by decide, h1, h2⟩, rfl, rfl, rfl, rfl⟩
  · rintro ⟨⟨h1, h2, h3, h4, h5⟩, h6, h7, h8, h9⟩
    exact ⟨List.length_eq_zero_iff.1 (by omega), List.length_eq_zero_iff.1 (by omega), List.length_eq_zero_iff.1 (by omega), h4, h5⟩
theorem v_choose {keys text : List UInt8} {ps : List (Int × Int)} {n l : Int} {d : Bool} (hd : d = (hasB 0 49 n && decide (l = 0))) : VRel ⟨10, keys, ps, text, n, l⟩ ((B keys).toList.isEmpty) ((ps.length : Int) == 0) ((B text).toList.isEmpty) d := by
  intro _ _
  show _ = fitsB 0 0 0 0 0 0 0 49 0 0 keys ps text n l
  rw [Bool.eq_iff_iff, fitsB_iff, hd, Bool.and_eq_true, Bool.and_eq_true, Bool.and_eq_true, Bool.and_eq_true, e_str, e_ps, e_str, hasB_true, decide_eq_true_eq]
  constructor
  · rintro ⟨rfl, rfl, rfl, h1, rfl⟩
    exact ⟨⟨by decide, by decide, by decide, h1, by decide⟩, rfl, rfl, rfl, rfl⟩
  · rintro ⟨⟨h1, h2, h3, h4, h5⟩, h6, h7, h8, h9⟩
    exact ⟨List.length_eq_zero_iff.1 (by omega), List.length_eq_zero_iff.1 (by omega), List.length_eq_zero_iff.1 (by omega), h4, by omega⟩
theorem v_bare {k : Int} (hk : k ≠ 1 ∧ k ≠ 2 ∧ k ≠ 3 ∧ k ≠ 4 ∧ k ≠ 5 ∧ k ≠ 9 ∧ k ≠ 10) {keys text : List UInt8} {ps : List (Int × Int)} {n l : Int} : VRel ⟨k, keys, ps, text, n, l⟩ ((B keys).toList.isEmpty) ((ps.length : Int) == 0) ((B text).toList.isEmpty) (decide (n = 0) && decide (l = 0)) := by
  intro h1 h2
  have h1' : 1 ≤ k := h1
  have h2' : k ≤ 12 := h2
  have key : validB ⟨k, keys, ps, text, n, l⟩ = fitsB 0 0 0 0 0 0 0 0 0 0 keys ps text n l := by
    rcases (show k = 6 ∨ k = 7 ∨ k = 8 ∨ k = 11 ∨ k = 12 by omega) with rfl | rfl | rfl | rfl | rfl <;> rfl
  rw [key, Bool.eq_iff_iff, fitsB_iff, Bool.and_eq_true, Bool.and_eq_true, Bool.and_eq_true, e_str, e_ps, e_str, e_nl]
  constructor
  · rintro ⟨rfl, rfl, rfl, rfl, rfl⟩
    exact ⟨⟨by decide, by decide, by decide, by decide, by decide⟩, rfl, rfl, rfl, rfl⟩
  · rintro ⟨⟨h1, h2, h3, h4, h5⟩, h6, h7, h8, h9⟩
    exact ⟨List.length_eq_zero_iff.1 (by omega), List.length_eq_zero_iff.1 (by omega), List.length_eq_zero_iff.1 (by omega), by omega, by omega⟩

set_option maxHeartbeats 4000000 in
set_option maxRecDepth 100000 in
theorem RValid_any (kd : Int) (keys : List UInt8) (va : Option Addr) (vc : Nat) (ps : List (Int × Int)) (text : List UInt8) (n l : Int) (w : World) (hP : PtsAt w w.heap.size (.slice va ps.length vc) ps) (hl : ps.length ≤ 1000000) (hk : keys.length ≤ 1000000) (ht : text.length ≤ 1000000) :
    Calls Tryd.prog 22 #[.agg #[.int .i64 kd, .string (B keys), .slice va ps.length vc, .string (B text), .int .i64 n, .int .i64 l]] w fun e w' => e = .returned (.bool (validB ⟨kd, keys, ps, text, n, l⟩)) ∧ Below w.heap.size w w' := by
  have h0 : Below w.heap.size w (w.alloc (.cells #[.int .i64 kd, .string (B keys), .slice va ps.length vc, .string (B text), .int .i64 n, .int .i64 l] 31)) := (Below.refl _ _).alloc (Nat.le_refl _) _
  have HP := Lib.hid ((hP.below h0).up h0.size)
  have HE := Lib.hid (EvBlock.new w (.int .i64 kd) (.string (B keys)) (.slice va ps.length vc) (.string (B text)) (.int .i64 n) (.int .i64 l))
  have H0 := Lib.hid h0
  clear h0 hP
  go_enter Tryd.func22, Tryd.ntmps22
  go_upto_region 4 with fail
  generalize w.alloc _ = w1 at *
  obtain ⟨c0, c1, c2, c3, c4, c5⟩ := HE.out.cells
  go_cut [6] (fun s6 wx => s6 = .bool (decide (n = 0) && decide (l = 0)) ∧ wx = w1)
  case first =>
    by_cases hn : n = 0
    · subst hn
      by_cases hl0 : l = 0
      · subst hl0
        go_wp2_with fail
        go_meet
        exact ⟨rfl, rfl⟩
      · have E := Lib.hid (show (decide ((0 : Int) = 0) && decide (l = 0)) = false by simp [hl0])
        have hl1 : (l == 0) = false := by simpa using hl0
        clear hl0
        go_wp2_with fail
        go_meet
        exact ⟨by rw [E.out], rfl⟩
    · have E := Lib.hid (show (decide (n = 0) && decide (l = 0)) = false by simp [hn])
      have hn1 : (n == 0) = false := by simpa using hn
      clear hn
      go_wp2_with fail
      go_meet
      exact ⟨by rw [E.out], rfl⟩
  case rest =>
    obtain ⟨rfl, rfl⟩ := hcut
    go_upto_block 0 with fail
    go_cut [3, 4, 5, 6] (fun s3 s4 s5 s6 wx => ∃ a b c d : Bool, s3 = .bool a ∧ s4 = .bool b ∧ s5 = .bool c ∧ s6 = .bool d ∧ VRel ⟨kd, keys, ps, text, n, l⟩ a b c d ∧ EvBlock wx w.heap.size (.int .i64 kd) (.string (B keys)) (.slice va ps.length vc) (.string (B text)) (.int .i64 n) (.int .i64 l) ∧ Below w.heap.size w wx)
    case first =>
      by_cases hkd1 : kd = 1
      · subst hkd1
        have CL := fun r h => Lib.hid (Letters_is (B keys) r h wc (by rw [size_B]; exact hk))
        by_cases h1 : keys.length = 1
        · have hs : (((B keys).size : Int) == 1) = true := by rw [size_B, h1]; rfl
          have C := CL (lettersB keys) rfl
          have HV := Lib.hid (v_key (keys := keys) (text := text) (ps := ps) (n := n) (l := l) (a := lettersB keys) (by rw [decide_eq_true h1, Bool.true_and]))
          clear CL h1
          go_wp2_with fail
          refine ((C).out).mono ?_
          rintro e w1 ⟨rfl, rfl⟩
          go_wp2_with fail
          go_meet
          exact ⟨_, _, _, _, rfl, rfl, rfl, rfl, HV.out, HE.out, H0.out⟩
        · have hs : (((B keys).size : Int) == 1) = false := by rw [size_B, beq_eq_false_iff_ne]; omega
          have HV := Lib.hid (v_key (keys := keys) (text := text) (ps := ps) (n := n) (l := l) (a := false) (by rw [decide_eq_false h1]; rfl))
          clear CL h1
          go_wp2_with fail
          go_meet
          exact ⟨_, _, _, _, rfl, rfl, rfl, rfl, HV.out, HE.out, H0.out⟩
      by_cases hkd2 : kd = 2
      · subst hkd2
        have CI := fun r h => Lib.hid (In_is ((B keys).size : Int) 2 4 r h wc)
        have CL := fun r h => Lib.hid (Letters_is (B keys) r h wc (by rw [size_B]; exact hk))
        have CR := fun r h => Lib.hid (rising_is (B keys) r h wc (by rw [size_B]; exact hk))
        cases h1 : hasB 2 4 ((B keys).size : Int) with
        | false =>
          have C := CI false h1
          have HV := Lib.hid (v_chord (keys := keys) (text := text) (ps := ps) (n := n) (l := l) (a := false) (by rw [size_B] at h1; rw [h1]; rfl))
          clear CI CL CR h1
          go_wp2_with fail
          refine ((C).out).mono ?_
          rintro e w1 ⟨rfl, rfl⟩
          go_wp2_with fail
          go_meet
          exact ⟨_, _, _, _, rfl, rfl, rfl, rfl, HV.out, HE.out, H0.out⟩
        | true =>
          have C := CI true h1
          cases h2 : lettersB keys with
          | false =>
            have C2 := CL false h2
            have HV := Lib.hid (v_chord (keys := keys) (text := text) (ps := ps) (n := n) (l := l) (a := false) (by rw [size_B] at h1; rw [h1, h2]; rfl))
            clear CI CL CR h1 h2
            go_wp2_with fail
            refine ((C).out).mono ?_
            rintro e w1 ⟨rfl, rfl⟩
            go_wp2_with fail
            refine ((C2).out).mono ?_
            rintro e w1 ⟨rfl, rfl⟩
            go_wp2_with fail
            go_meet
            exact ⟨_, _, _, _, rfl, rfl, rfl, rfl, HV.out, HE.out, H0.out⟩
          | true =>
            have C2 := CL true h2
            have C3 := CR (incB keys) rfl
            have HV := Lib.hid (v_chord (keys := keys) (text := text) (ps := ps) (n := n) (l := l) (a := incB keys) (by rw [size_B] at h1; rw [h1, h2]; rfl))
            clear CI CL CR h1 h2
            go_wp2_with fail
            refine ((C).out).mono ?_
            rintro e w1 ⟨rfl, rfl⟩
            go_wp2_with fail
            refine ((C2).out).mono ?_
            rintro e w1 ⟨rfl, rfl⟩
            go_wp2_with fail
            refine ((C3).out).mono ?_
            rintro e w1 ⟨rfl, nn, rfl⟩
            go_wp2_with fail
            go_meet
            exact ⟨_, _, _, _, rfl, rfl, rfl, rfl, HV.out, HE.out.drewN nn, below_drewN H0.out nn⟩
      by_cases hkd3 : kd = 3
      · subst hkd3
        have C := Lib.hid (points_is (.slice va ps.length vc) ps 1 1 _ wc HP.out hl rfl)
        have HV := Lib.hid (v_touch (keys := keys) (text := text) (ps := ps) (n := n) (l := l) rfl)
        go_wp2_with fail
        refine ((C).out).mono ?_
        rintro e w1 ⟨rfl, rfl⟩
        go_wp2_with fail
        go_meet
        exact ⟨_, _, _, _, rfl, rfl, rfl, rfl, HV.out, HE.out, H0.out⟩
      by_cases hkd4 : kd = 4
      · subst hkd4
        have C := Lib.hid (points_is (.slice va ps.length vc) ps 2 12 _ wc HP.out hl rfl)
        have HV := Lib.hid (v_stroke (keys := keys) (text := text) (ps := ps) (n := n) (l := l) rfl)
        go_wp2_with fail
        refine ((C).out).mono ?_
        rintro e w1 ⟨rfl, rfl⟩
        go_wp2_with fail
        go_meet
        exact ⟨_, _, _, _, rfl, rfl, rfl, rfl, HV.out, HE.out, H0.out⟩
      by_cases hkd5 : kd = 5
      · subst hkd5
        have CI := fun r h => Lib.hid (In_is ((B text).size : Int) 1 20 r h wc)
        have CL := fun r h => Lib.hid (Letters_is (B text) r h wc (by rw [size_B]; exact ht))
        cases h1 : hasB 1 20 ((B text).size : Int) with
        | false =>
          have C := CI false h1
          have HV := Lib.hid (v_paste (keys := keys) (text := text) (ps := ps) (n := n) (l := l) (c := false) (by rw [size_B] at h1; rw [h1]; rfl))
          clear CI CL h1
          go_wp2_with fail
          refine ((C).out).mono ?_
          rintro e w1 ⟨rfl, rfl⟩
          go_wp2_with fail
          go_meet
          exact ⟨_, _, _, _, rfl, rfl, rfl, rfl, HV.out, HE.out, H0.out⟩
        | true =>
          have C := CI true h1
          have C2 := CL (lettersB text) rfl
          have HV := Lib.hid (v_paste (keys := keys) (text := text) (ps := ps) (n := n) (l := l) (c := lettersB text) (by rw [size_B] at h1; rw [h1]; rfl))
          clear CI CL h1
          go_wp2_with fail
          refine ((C).out).mono ?_
          rintro e w1 ⟨rfl, rfl⟩
          go_wp2_with fail
          refine ((C2).out).mono ?_
          rintro e w1 ⟨rfl, rfl⟩
          go_wp2_with fail
          go_meet
          exact ⟨_, _, _, _, rfl, rfl, rfl, rfl, HV.out, HE.out, H0.out⟩
      by_cases hkd9 : kd = 9
      · subst hkd9
        have CI := fun r h => Lib.hid (In_is n 0 39 r h wc)
        have CL := fun r h => Lib.hid (In_is l 1 40 r h wc)
        cases h1 : hasB 0 39 n with
        | false =>
          have C := CI false h1
          have HV := Lib.hid (v_hold (keys := keys) (text := text) (ps := ps) (n := n) (l := l) (d := false) (by rw [h1]; rfl))
          clear CI CL h1
          go_wp2_with fail
          refine ((C).out).mono ?_
          rintro e w1 ⟨rfl, rfl⟩
          go_wp2_with fail
          go_meet
          exact ⟨_, _, _, _, rfl, rfl, rfl, rfl, HV.out, HE.out, H0.out⟩
        | true =>
          have C := CI true h1
          have C2 := CL (hasB 1 40 l) rfl
          have HV := Lib.hid (v_hold (keys := keys) (text := text) (ps := ps) (n := n) (l := l) (d := hasB 1 40 l) (by rw [h1]; rfl))
          clear CI CL h1
          go_wp2_with fail
          refine ((C).out).mono ?_
          rintro e w1 ⟨rfl, rfl⟩
          go_wp2_with fail
          refine ((C2).out).mono ?_
          rintro e w1 ⟨rfl, rfl⟩
          go_wp2_with fail
          go_meet
          exact ⟨_, _, _, _, rfl, rfl, rfl, rfl, HV.out, HE.out, H0.out⟩
      by_cases hkd10 : kd = 10
      · subst hkd10
        have CI := fun r h => Lib.hid (In_is n 0 49 r h wc)
        cases h1 : hasB 0 49 n with
        | false =>
          have C := CI false h1
          have HV := Lib.hid (v_choose (keys := keys) (text := text) (ps := ps) (n := n) (l := l) (d := false) (by rw [h1]; rfl))
          clear CI h1
          go_wp2_with fail
          refine ((C).out).mono ?_
          rintro e w1 ⟨rfl, rfl⟩
          go_wp2_with fail
          go_meet
          exact ⟨_, _, _, _, rfl, rfl, rfl, rfl, HV.out, HE.out, H0.out⟩
        | true =>
          have C := CI true h1
          have HV := Lib.hid (v_choose (keys := keys) (text := text) (ps := ps) (n := n) (l := l) (d := (l == 0)) (by rw [h1, Bool.true_and, Bool.eq_iff_iff]; simp))
          clear CI h1
          go_wp2_with fail
          refine ((C).out).mono ?_
          rintro e w1 ⟨rfl, rfl⟩
          go_wp2_with fail
          go_meet
          exact ⟨_, _, _, _, rfl, rfl, rfl, rfl, HV.out, HE.out, H0.out⟩
      have q1 : (kd == 1) = false := beq_eq_false_iff_ne.2 hkd1
      have q2 : (kd == 2) = false := beq_eq_false_iff_ne.2 hkd2
      have q3 : (kd == 3) = false := beq_eq_false_iff_ne.2 hkd3
      have q4 : (kd == 4) = false := beq_eq_false_iff_ne.2 hkd4
      have q5 : (kd == 5) = false := beq_eq_false_iff_ne.2 hkd5
      have q9 : (kd == 9) = false := beq_eq_false_iff_ne.2 hkd9
      have q10 : (kd == 10) = false := beq_eq_false_iff_ne.2 hkd10
      have HV := Lib.hid (v_bare ⟨hkd1, hkd2, hkd3, hkd4, hkd5, hkd9, hkd10⟩ (keys := keys) (text := text) (ps := ps) (n := n) (l := l))
      clear hkd1 hkd2 hkd3 hkd4 hkd5 hkd9 hkd10
      go_wp2_with fail
      go_meet
      exact ⟨_, _, _, _, rfl, rfl, rfl, rfl, HV.out, HE.out, H0.out⟩
    case rest =>
      obtain ⟨a, b, c, d, rfl, rfl, rfl, rfl, hV, hE, hB⟩ := hcut
      have HV := Lib.hid hV
      have HB := Lib.hid hB
      clear hV hB c0 c1 c2 c3 c4 c5
      obtain ⟨c0, c1, c2, c3, c4, c5⟩ := hE.cells
      clear hE
      by_cases hk1 : 1 ≤ kd ∧ kd ≤ 12
      · have HV1 := Lib.hid (HV.out hk1.1 hk1.2)
        have C := Lib.hid (In_is kd 1 12 true (hasB_yes hk1.1 hk1.2) wc)
        clear hk1 HV
        cases a with
        | false =>
          go_wp2_with fail
          refine (C.out).mono ?_
          rintro e w1 ⟨rfl, rfl⟩
          go_wp2_with fail
          go_ret
          exact ⟨ret_bool HV1.out, HB.out⟩
        | true =>
        cases b with
        | false =>
          go_wp2_with fail
          refine (C.out).mono ?_
          rintro e w1 ⟨rfl, rfl⟩
          go_wp2_with fail
          go_ret
          exact ⟨ret_bool HV1.out, HB.out⟩
        | true =>
        cases c with
        | false =>
          go_wp2_with fail
          refine (C.out).mono ?_
          rintro e w1 ⟨rfl, rfl⟩
          go_wp2_with fail
          go_ret
          exact ⟨ret_bool HV1.out, HB.out⟩
        | true =>
          go_wp2_with fail
          refine (C.out).mono ?_
          rintro e w1 ⟨rfl, rfl⟩
          go_wp2_with fail
          go_ret
          exact ⟨ret_bool HV1.out, HB.out⟩
      · have HV1 := Lib.hid (show validB ⟨kd, keys, ps, text, n, l⟩ = false from if_neg hk1)
        have C := Lib.hid (In_is kd 1 12 false (by rcases Int.lt_or_le kd 1 with h | h; exact hasB_no1 h; exact hasB_no2 (by omega)) wc)
        clear hk1 HV
        go_wp2_with fail
        refine (C.out).mono ?_
        rintro e w1 ⟨rfl, rfl⟩
        go_wp2_with fail
        go_ret
        exact ⟨ret_bool HV1.out.symm, HB.out⟩
end Go.Proofs.YtmioocmjlbjfpaaDoor
