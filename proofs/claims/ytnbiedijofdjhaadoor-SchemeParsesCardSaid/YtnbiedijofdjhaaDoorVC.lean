/-
  SchemeTexts: the walk.
-/
import Derived.Test.YtnbiedijofdjhaaDoorVB
namespace Go.Proofs.YtnbiedijofdjhaaDoor
open Go.RowKit
open Pl

theorem only_sub {l : List UInt8} (h : onlyB 1 l = true) : onlyB 7 l = true := by
  unfold onlyB at h ⊢
  refine List.all_eq_true.2 fun c hc => ?_
  have := List.all_eq_true.1 h c hc
  rcases kindB_cases c with e | e | e | e <;> rw [e] at this ⊢ <;> first | rfl | exact this | (simp at this)
theorem only_drop {k : Nat} {l : List UInt8} (h : onlyB k l = true) (i : Nat) : onlyB k (l.drop i) = true := by
  unfold onlyB at h ⊢
  exact List.all_eq_true.2 fun x hx => List.all_eq_true.1 h x (List.mem_of_mem_drop hx)
theorem only_take' {k : Nat} {l : List UInt8} (h : onlyB k l = true) (i : Nat) : onlyB k (l.take i) = true := by
  unfold onlyB at h ⊢
  exact List.all_eq_true.2 fun x hx => List.all_eq_true.1 h x (List.mem_of_mem_take hx)
theorem only_cat {k : Nat} {a b : List UInt8} (h1 : onlyB k a = true) (h2 : onlyB k b = true) : onlyB k (a ++ b) = true := by
  unfold onlyB at h1 h2 ⊢
  rw [List.all_append, h1, h2]; rfl
theorem lettersB_true {l : List UInt8} (h : lettersB l = true) : l.length ≤ 40 ∧ onlyB 1 l = true := by
  unfold lettersB at h
  simp only [Bool.and_eq_true, decide_eq_true_eq] at h
  exact h
theorem wordB_true {l : List UInt8} (h : wordB l = true) : 1 ≤ l.length ∧ l.length ≤ 20 ∧ onlyB 7 l = true := by
  unfold wordB at h
  simp only [Bool.and_eq_true, decide_eq_true_eq] at h
  exact h
theorem letters_is {l : List UInt8} (h : onlyB 1 l = true) : lettersB l = decide (l.length ≤ 40) := by unfold lettersB; rw [h, Bool.and_true]
theorem word_is {l : List UInt8} (h : onlyB 1 l = true) : wordB l = (decide (1 ≤ l.length) && decide (l.length ≤ 20)) := by unfold wordB; rw [only_sub h, Bool.and_true]
theorem letters_take {l : List UInt8} (h : lettersB l = true) (i : Nat) : lettersB (l.take i) = true := by
  obtain ⟨h1, h2⟩ := lettersB_true h
  rw [letters_is (only_take' h2 i)]; exact decide_eq_true (by rw [List.length_take]; omega)
theorem letters_drop {l : List UInt8} (h : lettersB l = true) (i : Nat) : lettersB (l.drop i) = true := by
  obtain ⟨h1, h2⟩ := lettersB_true h
  rw [letters_is (only_drop h2 i)]; exact decide_eq_true (by rw [List.length_drop]; omega)
theorem word_take {l : List UInt8} (h : wordB l = true) {i : Nat} (hi : i ≠ 0) : wordB (l.take i) = true := by
  obtain ⟨h1, h2, h3⟩ := wordB_true h
  unfold wordB
  rw [only_take' h3 i, decide_eq_true (by rw [List.length_take]; omega), decide_eq_true (by rw [List.length_take]; omega)]; rfl
theorem word_drop {l : List UInt8} (h : wordB l = true) {i : Nat} (hi : i < l.length) : wordB (l.drop i) = true := by
  obtain ⟨h1, h2, h3⟩ := wordB_true h
  unfold wordB
  rw [only_drop h3 i, decide_eq_true (by rw [List.length_drop]; omega), decide_eq_true (by rw [List.length_drop]; omega)]; rfl

set_option maxHeartbeats 1000000 in
set_option maxRecDepth 100000 in
theorem Texts_long (m : Int) (la : Option Addr) (ln lc : Nat) (s : ByteArray) (n : Int) (w : World) (hT : StrTab w) (hP : PowTab w) (hm : MaxVar w m) (h0 : 0 < w.heap.size) (hg : 2 < w.heap.size) (hs : 60 < s.size) :
    Calls Tryd.prog 9 #[.slice la ln lc, .string s, .int .u8 n] w fun e w' => e = .returned (.bool true) ∧ Below w.heap.size w w' := by
  have C := Lib.hid (sanity_any m w hT hP hm h0 hg)
  have hs' : (60 : Int) < (s.size : Int) := by omega
  clear hT hP hm h0 hg hs
  go_enter Tryd.func9, Tryd.ntmps9
  go_wp2_with fail
  refine (C.out).mono ?_
  rintro e x ⟨rfl, hb⟩
  have HB := Lib.hid hb
  clear hb C
  go_wp2_with fail
  go_ret
  exact ⟨rfl, HB.out⟩

set_option maxHeartbeats 8000000 in
set_option maxRecDepth 100000 in
theorem Texts_any (m : Int) (la : Option Addr) (ln lc : Nat) (s : ByteArray) (n : Int) (w : World) (hT : StrTab w) (hP : PowTab w) (hm : MaxVar w m) (h0 : 0 < w.heap.size) (hg : 2 < w.heap.size) (hs : s.size ≤ 60)
    (hx : BytesAt w w.heap.size (.slice la ln lc) ln) (hl : ln ≤ maxLen) (hn : 0 ≤ n ∧ n ≤ 255) :
    Calls Tryd.prog 9 #[.slice la ln lc, .string s, .int .u8 n] w fun e w' => e = .returned (.bool true) ∧ Below w.heap.size w w' := by
  have C := Lib.hid (sanity_any m w hT hP hm h0 hg)
  have HT := Lib.hid hT
  have H0 := Lib.hid h0
  have HX := Lib.hid hx
  have HL := Lib.hid hl
  have hs' : ¬ (60 : Int) < (s.size : Int) := by omega
  obtain ⟨k, hk, hk25⟩ : ∃ k : Nat, n.tmod 25 = (k : Int) ∧ k < 25 := ⟨(n.tmod 25).toNat, by rw [Int.tmod_eq_emod_of_nonneg hn.1]; omega, by rw [Int.tmod_eq_emod_of_nonneg hn.1]; omega⟩
  have hwk : IntKind.i64.wrap (k : Int) = (k : Int) := IntWalk.i64_in _ (by omega)
  have hwn : IntKind.i64.wrap n = n := IntWalk.i64_in _ (by omega)
  obtain ⟨i, hi, hi2⟩ : ∃ i : Nat, n.tmod ((s.size : Int) + 1) = (i : Int) ∧ i ≤ s.size := ⟨(n.tmod ((s.size : Int) + 1)).toNat, by
    have h1 := Int.emod_nonneg n (show ((s.size : Int) + 1) ≠ 0 by omega)
    rw [Int.tmod_eq_emod_of_nonneg hn.1]; omega, by
    have h1 := Int.emod_nonneg n (show ((s.size : Int) + 1) ≠ 0 by omega)
    have h2 := Int.emod_lt_of_pos n (show (0 : Int) < (s.size : Int) + 1 by omega)
    rw [Int.tmod_eq_emod_of_nonneg hn.1]; omega⟩
  have hsz : ¬ ((s.size : Int) + 1 = 0) := by omega
  have hws : IntKind.i64.wrap ((s.size : Int) + 1) = (s.size : Int) + 1 := IntWalk.i64_in _ (by omega)
  clear hT hP hm h0 hg hx hl
  go_enter Tryd.func9, Tryd.ntmps9
  go_wp2_with fail
  refine (C.out).mono ?_
  rintro e x1 ⟨rfl, hb⟩
  have HB1 := Lib.hid hb
  have HX1 := Lib.hid (HX.out.on hb)
  clear hb C HX
  go_wp2_with fail
  refine (Input_any la ln lc 25 x1 HX1.out HL.out).mono ?_
  rintro e x2 ⟨⟨ta, rfl, oa, -, la25⟩, hb⟩
  have HB2 := Lib.hid (HB1.out.trans (hb.mono HB1.out.size))
  have HX2 := Lib.hid (HX1.out.on hb)
  have HOA := Lib.hid oa
  clear hb HB1 HX1 oa
  go_wp2_with fail
  refine (Input_any la ln lc k x2 HX2.out HL.out).mono ?_
  rintro e x3 ⟨⟨tb, rfl, ob, -, lb25⟩, hb⟩
  have HB3 := Lib.hid (HB2.out.trans (hb.mono HB2.out.size))
  have HOB := Lib.hid ob
  clear hb HB2 HX2 ob
  have hcat : ¬ 9223372036854775807 < (B ta).size + (B tb).size := by rw [size_B, size_B]; omega
  go_upto_region 6 with fail
  have CL := fun W (hb : Below x3.heap.size x3 W) => Lib.hid (Letters_any s W (HT.out.below (HB3.out.trans (Below.mono hb HB3.out.size)) H0.out) (Nat.lt_of_lt_of_le H0.out (HB3.out.trans (Below.mono hb HB3.out.size)).size) (by omega))
  have CW := fun W (hb : Below x3.heap.size x3 W) => Lib.hid (Word_any s W (HT.out.below (HB3.out.trans (Below.mono hb HB3.out.size)) H0.out) (Nat.lt_of_lt_of_le H0.out (HB3.out.trans (Below.mono hb HB3.out.size)).size) (by omega))
  have RL := fun W => Lib.hid (RLetters_any s W (by omega))
  have RW := fun W => Lib.hid (RWord_any s W (by omega))
  have CA := fun W (hb : Below x3.heap.size x3 W) => Lib.hid (Letters_any (B ta) W (HT.out.below (HB3.out.trans (Below.mono hb HB3.out.size)) H0.out) (Nat.lt_of_lt_of_le H0.out (HB3.out.trans (Below.mono hb HB3.out.size)).size) (by rw [size_B]; omega))
  have CB := fun W (hb : Below x3.heap.size x3 W) => Lib.hid (Letters_any (B tb) W (HT.out.below (HB3.out.trans (Below.mono hb HB3.out.size)) H0.out) (Nat.lt_of_lt_of_le H0.out (HB3.out.trans (Below.mono hb HB3.out.size)).size) (by rw [size_B]; omega))
  have CWA := fun W (hb : Below x3.heap.size x3 W) => Lib.hid (Word_any (B ta) W (HT.out.below (HB3.out.trans (Below.mono hb HB3.out.size)) H0.out) (Nat.lt_of_lt_of_le H0.out (HB3.out.trans (Below.mono hb HB3.out.size)).size) (by rw [size_B]; omega))
  rw [toList_B, letters_is HOA.out, decide_eq_true (by omega : ta.length ≤ 40)] at CA
  rw [toList_B, letters_is HOB.out, decide_eq_true (by omega : tb.length ≤ 40)] at CB
  rw [toList_B, word_is HOA.out] at CWA
  have HLT := Lib.hid (show ∀ j, lettersB s.data.toList = true → lettersB (s.data.toList.take j) = true from fun j h => letters_take h j)
  have HLD := Lib.hid (show ∀ j, lettersB s.data.toList = true → lettersB (s.data.toList.drop j) = true from fun j h => letters_drop h j)
  have HWT := Lib.hid (show ∀ j, wordB s.data.toList = true → j ≠ 0 → wordB (s.data.toList.take j) = true from fun j h h2 => word_take h h2)
  have HWD := Lib.hid (show ∀ j, wordB s.data.toList = true → j < s.data.toList.length → wordB (s.data.toList.drop j) = true from fun j h h2 => word_drop h h2)
  obtain ⟨L, hL⟩ : ∃ x, lettersB s.data.toList = x := ⟨_, rfl⟩
  obtain ⟨Wd, hW⟩ : ∃ x, wordB s.data.toList = x := ⟨_, rfl⟩
  have HEL := Lib.hid hL
  have HEW := Lib.hid hW
  rw [hL] at CL RL HLT HLD
  rw [hW] at CW RW HWT HWD
  clear hL hW
  have hLL : ∀ x : Bool, (x != x) = false := by intro x; cases x <;> rfl
  have hra := Lib.hid (Below.refl x3.heap.size x3)
  go_cut [62] (fun s62 wx => s62 = .bool false ∧ Below x3.heap.size x3 wx)
  case first =>
    rcases (show ta.length = 0 ∨ (1 ≤ ta.length ∧ ta.length ≤ 20) ∨ 21 ≤ ta.length by omega) with q | ⟨q, q'⟩ | q
    · rw [decide_eq_false (by omega : ¬ 1 ≤ ta.length), Bool.false_and] at CWA
      have z1 : ¬ (1 : Int) ≤ ((B ta).size : Int) := by rw [size_B]; omega
      go_wp2_with fail
      refine ((CL _ hra.out).out).mono ?_
      rintro e y0 ⟨rfl, hb⟩
      have g0 := Lib.hid (hra.out.trans (hb.mono hra.out.size))
      clear hb
      go_wp2_with fail
      refine ((RL _).out).mono ?_
      rintro e y1 ⟨rfl, rfl⟩
      go_wp2_with fail
      refine ((CW _ g0.out).out).mono ?_
      rintro e y2 ⟨rfl, hb⟩
      have g2 := Lib.hid (g0.out.trans (hb.mono g0.out.size))
      clear hb
      go_wp2_with fail
      refine ((RW _).out).mono ?_
      rintro e y3 ⟨rfl, rfl⟩
      go_wp2_with fail
      refine ((CA _ g2.out).out).mono ?_
      rintro e y4 ⟨rfl, hb⟩
      have g4 := Lib.hid (g2.out.trans (hb.mono g2.out.size))
      clear hb
      go_wp2_with fail
      refine ((CB _ g4.out).out).mono ?_
      rintro e y5 ⟨rfl, hb⟩
      have g5 := Lib.hid (g4.out.trans (hb.mono g4.out.size))
      clear hb
      go_wp2_with fail
      refine ((CWA _ g5.out).out).mono ?_
      rintro e y6 ⟨rfl, hb⟩
      have g6 := Lib.hid (g5.out.trans (hb.mono g5.out.size))
      clear hb
      go_wp2_with fail
      go_meet
      exact ⟨rfl, g6.out⟩
    · rw [decide_eq_true q, decide_eq_true q', Bool.true_and] at CWA
      have z1 : (1 : Int) ≤ ((B ta).size : Int) := by rw [size_B]; omega
      have z2 : ((B ta).size : Int) ≤ 20 := by rw [size_B]; omega
      go_wp2_with fail
      refine ((CL _ hra.out).out).mono ?_
      rintro e y0 ⟨rfl, hb⟩
      have g0 := Lib.hid (hra.out.trans (hb.mono hra.out.size))
      clear hb
      go_wp2_with fail
      refine ((RL _).out).mono ?_
      rintro e y1 ⟨rfl, rfl⟩
      go_wp2_with fail
      refine ((CW _ g0.out).out).mono ?_
      rintro e y2 ⟨rfl, hb⟩
      have g2 := Lib.hid (g0.out.trans (hb.mono g0.out.size))
      clear hb
      go_wp2_with fail
      refine ((RW _).out).mono ?_
      rintro e y3 ⟨rfl, rfl⟩
      go_wp2_with fail
      refine ((CA _ g2.out).out).mono ?_
      rintro e y4 ⟨rfl, hb⟩
      have g4 := Lib.hid (g2.out.trans (hb.mono g2.out.size))
      clear hb
      go_wp2_with fail
      refine ((CB _ g4.out).out).mono ?_
      rintro e y5 ⟨rfl, hb⟩
      have g5 := Lib.hid (g4.out.trans (hb.mono g4.out.size))
      clear hb
      go_wp2_with fail
      refine ((CWA _ g5.out).out).mono ?_
      rintro e y6 ⟨rfl, hb⟩
      have g6 := Lib.hid (g5.out.trans (hb.mono g5.out.size))
      clear hb
      go_wp2_with fail
      go_meet
      exact ⟨rfl, g6.out⟩
    · rw [decide_eq_true (by omega : 1 ≤ ta.length), decide_eq_false (by omega : ¬ ta.length ≤ 20), Bool.true_and] at CWA
      have z1 : (1 : Int) ≤ ((B ta).size : Int) := by rw [size_B]; omega
      have z2 : decide (((B ta).size : Int) ≤ 20) = false := decide_eq_false (by rw [size_B]; omega)
      go_wp2_with fail
      refine ((CL _ hra.out).out).mono ?_
      rintro e y0 ⟨rfl, hb⟩
      have g0 := Lib.hid (hra.out.trans (hb.mono hra.out.size))
      clear hb
      go_wp2_with fail
      refine ((RL _).out).mono ?_
      rintro e y1 ⟨rfl, rfl⟩
      go_wp2_with fail
      refine ((CW _ g0.out).out).mono ?_
      rintro e y2 ⟨rfl, hb⟩
      have g2 := Lib.hid (g0.out.trans (hb.mono g0.out.size))
      clear hb
      go_wp2_with fail
      refine ((RW _).out).mono ?_
      rintro e y3 ⟨rfl, rfl⟩
      go_wp2_with fail
      refine ((CA _ g2.out).out).mono ?_
      rintro e y4 ⟨rfl, hb⟩
      have g4 := Lib.hid (g2.out.trans (hb.mono g2.out.size))
      clear hb
      go_wp2_with fail
      refine ((CB _ g4.out).out).mono ?_
      rintro e y5 ⟨rfl, hb⟩
      have g5 := Lib.hid (g4.out.trans (hb.mono g4.out.size))
      clear hb
      go_wp2_with fail
      refine ((CWA _ g5.out).out).mono ?_
      rintro e y6 ⟨rfl, hb⟩
      have g6 := Lib.hid (g5.out.trans (hb.mono g5.out.size))
      clear hb
      go_wp2_with fail
      go_meet
      exact ⟨by first | rfl | exact congrArg Value.bool z2, g6.out⟩
  case rest =>
    obtain ⟨rfl, hb⟩ := hcut
    have HB4 := Lib.hid (HB3.out.trans (hb.mono HB3.out.size))
    clear hb CA CB CWA RL RW hra
    rw [B_app]
    obtain ⟨tc, htc⟩ : ∃ l, l = ta ++ tb := ⟨_, rfl⟩
    have HOC := Lib.hid (show onlyB 1 tc = true by rw [htc]; exact only_cat HOA.out HOB.out)
    have lc49 : tc.length ≤ 50 := by rw [htc, List.length_append]; omega
    rw [← htc]
    clear htc hcat
    have CC := fun W (hb : Below wc.heap.size wc W) => Lib.hid (Letters_any (B tc) W (HT.out.below (HB4.out.trans (Below.mono hb HB4.out.size)) H0.out) (Nat.lt_of_lt_of_le H0.out (HB4.out.trans (Below.mono hb HB4.out.size)).size) (by rw [size_B]; omega))
    have CWC := fun W (hb : Below wc.heap.size wc W) => Lib.hid (Word_any (B tc) W (HT.out.below (HB4.out.trans (Below.mono hb HB4.out.size)) H0.out) (Nat.lt_of_lt_of_le H0.out (HB4.out.trans (Below.mono hb HB4.out.size)).size) (by rw [size_B]; omega))
    rw [toList_B, letters_is HOC.out] at CC
    rw [toList_B, word_is HOC.out] at CWC
    have hrb := Lib.hid (Below.refl wc.heap.size wc)
    go_upto_region 8 with fail
    go_cut [81] (fun s81 wx => s81 = .bool false ∧ Below wc.heap.size wc wx)
    case first =>
      rcases (show tc.length = 0 ∨ (1 ≤ tc.length ∧ tc.length ≤ 20) ∨ (21 ≤ tc.length ∧ tc.length ≤ 40) ∨ 41 ≤ tc.length by omega) with q | ⟨q, q'⟩ | ⟨q, q'⟩ | q
      · rw [decide_eq_true (by omega : tc.length ≤ 40)] at CC
        rw [decide_eq_false (by omega : ¬ 1 ≤ tc.length), decide_eq_true (by omega : tc.length ≤ 20)] at CWC
        have z0 : decide (((B tc).size : Int) ≤ 40) = true := decide_eq_true (by rw [size_B]; omega)
        have z1 : ¬ (1 : Int) ≤ ((B tc).size : Int) := by rw [size_B]; omega
        have z2 : decide (((B tc).size : Int) ≤ 20) = true := decide_eq_true (by rw [size_B]; omega)
        go_wp2_with fail
        refine ((CC _ hrb.out).out).mono ?_
        rintro e y0 ⟨rfl, hb⟩
        have g0 := Lib.hid (hrb.out.trans (hb.mono hrb.out.size))
        clear hb
        go_wp2_with fail
        refine ((CWC _ g0.out).out).mono ?_
        rintro e y1 ⟨rfl, hb⟩
        have g1 := Lib.hid (g0.out.trans (hb.mono g0.out.size))
        clear hb
        go_wp2_with fail
        go_meet
        exact ⟨by first | rfl | exact congrArg Value.bool z2 | simp [z2], g1.out⟩
      · rw [decide_eq_true (by omega : tc.length ≤ 40)] at CC
        rw [decide_eq_true (by omega : 1 ≤ tc.length), decide_eq_true (by omega : tc.length ≤ 20)] at CWC
        have z0 : decide (((B tc).size : Int) ≤ 40) = true := decide_eq_true (by rw [size_B]; omega)
        have z1 : (1 : Int) ≤ ((B tc).size : Int) := by rw [size_B]; omega
        have z2 : decide (((B tc).size : Int) ≤ 20) = true := decide_eq_true (by rw [size_B]; omega)
        go_wp2_with fail
        refine ((CC _ hrb.out).out).mono ?_
        rintro e y0 ⟨rfl, hb⟩
        have g0 := Lib.hid (hrb.out.trans (hb.mono hrb.out.size))
        clear hb
        go_wp2_with fail
        refine ((CWC _ g0.out).out).mono ?_
        rintro e y1 ⟨rfl, hb⟩
        have g1 := Lib.hid (g0.out.trans (hb.mono g0.out.size))
        clear hb
        go_wp2_with fail
        go_meet
        exact ⟨by first | rfl | exact congrArg Value.bool z2 | simp [z2], g1.out⟩
      · rw [decide_eq_true (by omega : tc.length ≤ 40)] at CC
        rw [decide_eq_true (by omega : 1 ≤ tc.length), decide_eq_false (by omega : ¬ tc.length ≤ 20)] at CWC
        have z0 : decide (((B tc).size : Int) ≤ 40) = true := decide_eq_true (by rw [size_B]; omega)
        have z1 : (1 : Int) ≤ ((B tc).size : Int) := by rw [size_B]; omega
        have z2 : decide (((B tc).size : Int) ≤ 20) = false := decide_eq_false (by rw [size_B]; omega)
        go_wp2_with fail
        refine ((CC _ hrb.out).out).mono ?_
        rintro e y0 ⟨rfl, hb⟩
        have g0 := Lib.hid (hrb.out.trans (hb.mono hrb.out.size))
        clear hb
        go_wp2_with fail
        refine ((CWC _ g0.out).out).mono ?_
        rintro e y1 ⟨rfl, hb⟩
        have g1 := Lib.hid (g0.out.trans (hb.mono g0.out.size))
        clear hb
        go_wp2_with fail
        go_meet
        exact ⟨by first | rfl | exact congrArg Value.bool z2 | simp [z2], g1.out⟩
      · rw [decide_eq_false (by omega : ¬ tc.length ≤ 40)] at CC
        rw [decide_eq_true (by omega : 1 ≤ tc.length), decide_eq_false (by omega : ¬ tc.length ≤ 20)] at CWC
        have z0 : decide (((B tc).size : Int) ≤ 40) = false := decide_eq_false (by rw [size_B]; omega)
        have z1 : (1 : Int) ≤ ((B tc).size : Int) := by rw [size_B]; omega
        have z2 : decide (((B tc).size : Int) ≤ 20) = false := decide_eq_false (by rw [size_B]; omega)
        go_wp2_with fail
        refine ((CC _ hrb.out).out).mono ?_
        rintro e y0 ⟨rfl, hb⟩
        have g0 := Lib.hid (hrb.out.trans (hb.mono hrb.out.size))
        clear hb
        go_wp2_with fail
        refine ((CWC _ g0.out).out).mono ?_
        rintro e y1 ⟨rfl, hb⟩
        have g1 := Lib.hid (g0.out.trans (hb.mono g0.out.size))
        clear hb
        go_wp2_with fail
        go_meet
        exact ⟨by first | rfl | exact congrArg Value.bool z2 | simp [z2], g1.out⟩
    case rest =>
      obtain ⟨rfl, hb⟩ := hcut
      have HB5 := Lib.hid (HB4.out.trans (hb.mono HB4.out.size))
      clear hb CC CWC hrb HB4
      go_upto_region 11 with fail
      have CL5 := fun W (hb : Below wc.heap.size wc W) => Lib.hid (Letters_any s W (HT.out.below (HB5.out.trans (Below.mono hb HB5.out.size)) H0.out) (Nat.lt_of_lt_of_le H0.out (HB5.out.trans (Below.mono hb HB5.out.size)).size) (by omega))
      have CW5 := fun W (hb : Below wc.heap.size wc W) => Lib.hid (Word_any s W (HT.out.below (HB5.out.trans (Below.mono hb HB5.out.size)) H0.out) (Nat.lt_of_lt_of_le H0.out (HB5.out.trans (Below.mono hb HB5.out.size)).size) (by omega))
      rw [HEL.out] at CL5
      rw [HEW.out] at CW5
      have sz0 : (s.extract 0 i).size ≤ 60 := by rw [← length_toList, Lib.extract_from_zero, List.length_take, length_toList]; omega
      have sz1 : (s.extract i s.size).size ≤ 60 := by rw [← length_toList, Lib.extract_to_end, List.length_drop, length_toList]; omega
      have CLt := fun W (hb : Below wc.heap.size wc W) => Lib.hid (Letters_any (s.extract 0 i) W (HT.out.below (HB5.out.trans (Below.mono hb HB5.out.size)) H0.out) (Nat.lt_of_lt_of_le H0.out (HB5.out.trans (Below.mono hb HB5.out.size)).size) (by omega))
      have CLd := fun W (hb : Below wc.heap.size wc W) => Lib.hid (Letters_any (s.extract i s.size) W (HT.out.below (HB5.out.trans (Below.mono hb HB5.out.size)) H0.out) (Nat.lt_of_lt_of_le H0.out (HB5.out.trans (Below.mono hb HB5.out.size)).size) (by omega))
      have CWt := fun W (hb : Below wc.heap.size wc W) => Lib.hid (Word_any (s.extract 0 i) W (HT.out.below (HB5.out.trans (Below.mono hb HB5.out.size)) H0.out) (Nat.lt_of_lt_of_le H0.out (HB5.out.trans (Below.mono hb HB5.out.size)).size) (by omega))
      have CWd := fun W (hb : Below wc.heap.size wc W) => Lib.hid (Word_any (s.extract i s.size) W (HT.out.below (HB5.out.trans (Below.mono hb HB5.out.size)) H0.out) (Nat.lt_of_lt_of_le H0.out (HB5.out.trans (Below.mono hb HB5.out.size)).size) (by omega))
      rw [Lib.extract_from_zero] at CLt CWt
      rw [Lib.extract_to_end] at CLd CWd
      have i0 : (0 : Int) ≤ (i : Int) := by omega
      have i1 : (i : Int) ≤ (s.size : Int) := by omega
      have hr5 := Lib.hid (Below.refl wc.heap.size wc)
      clear sz0 sz1
      cases L
      · cases Wd
        · skip
          go_wp2_with fail
          refine ((CL5 _ hr5.out).out).mono ?_
          rintro e y0 ⟨rfl, hb⟩
          have g0 := Lib.hid (hr5.out.trans (hb.mono hr5.out.size))
          clear hb
          go_wp2_with fail
          refine ((CW5 _ g0.out).out).mono ?_
          rintro e y1 ⟨rfl, hb⟩
          have g1 := Lib.hid (g0.out.trans (hb.mono g0.out.size))
          clear hb
          go_wp2_with fail
          go_ret
          exact ⟨rfl, HB5.out.trans (g1.out.mono HB5.out.size)⟩
        · by_cases z0 : i = 0
          · have y0 : ((i : Int) == 0) = true := by rw [beq_iff_eq]; omega
            by_cases zL : i = s.size
            · have yL : ((i : Int) == (s.size : Int)) = true := by rw [beq_iff_eq]; omega
              clear z0 zL
              go_wp2_with fail
              refine ((CL5 _ hr5.out).out).mono ?_
              rintro e y0 ⟨rfl, hb⟩
              have g0 := Lib.hid (hr5.out.trans (hb.mono hr5.out.size))
              clear hb
              go_wp2_with fail
              refine ((CW5 _ g0.out).out).mono ?_
              rintro e y1 ⟨rfl, hb⟩
              have g1 := Lib.hid (g0.out.trans (hb.mono g0.out.size))
              clear hb
              go_wp2_with fail
              go_ret
              exact ⟨rfl, HB5.out.trans (g1.out.mono HB5.out.size)⟩
            · have yL : ((i : Int) == (s.size : Int)) = false := by rw [beq_eq_false_iff_ne]; omega
              rw [HWD.out i rfl (by rw [length_toList]; omega)] at CWd
              clear z0 zL
              go_wp2_with fail
              refine ((CL5 _ hr5.out).out).mono ?_
              rintro e y0 ⟨rfl, hb⟩
              have g0 := Lib.hid (hr5.out.trans (hb.mono hr5.out.size))
              clear hb
              go_wp2_with fail
              refine ((CW5 _ g0.out).out).mono ?_
              rintro e y1 ⟨rfl, hb⟩
              have g1 := Lib.hid (g0.out.trans (hb.mono g0.out.size))
              clear hb
              go_wp2_with fail
              refine ((CWd _ g1.out).out).mono ?_
              rintro e y2 ⟨rfl, hb⟩
              have g2 := Lib.hid (g1.out.trans (hb.mono g1.out.size))
              clear hb
              go_wp2_with fail
              go_ret
              exact ⟨rfl, HB5.out.trans (g2.out.mono HB5.out.size)⟩
          · have y0 : ((i : Int) == 0) = false := by rw [beq_eq_false_iff_ne]; omega
            rw [HWT.out i rfl z0] at CWt
            by_cases zL : i = s.size
            · have yL : ((i : Int) == (s.size : Int)) = true := by rw [beq_iff_eq]; omega
              clear z0 zL
              go_wp2_with fail
              refine ((CL5 _ hr5.out).out).mono ?_
              rintro e y0 ⟨rfl, hb⟩
              have g0 := Lib.hid (hr5.out.trans (hb.mono hr5.out.size))
              clear hb
              go_wp2_with fail
              refine ((CW5 _ g0.out).out).mono ?_
              rintro e y1 ⟨rfl, hb⟩
              have g1 := Lib.hid (g0.out.trans (hb.mono g0.out.size))
              clear hb
              go_wp2_with fail
              refine ((CWt _ g1.out).out).mono ?_
              rintro e y2 ⟨rfl, hb⟩
              have g2 := Lib.hid (g1.out.trans (hb.mono g1.out.size))
              clear hb
              go_wp2_with fail
              go_ret
              exact ⟨rfl, HB5.out.trans (g2.out.mono HB5.out.size)⟩
            · have yL : ((i : Int) == (s.size : Int)) = false := by rw [beq_eq_false_iff_ne]; omega
              rw [HWD.out i rfl (by rw [length_toList]; omega)] at CWd
              clear z0 zL
              go_wp2_with fail
              refine ((CL5 _ hr5.out).out).mono ?_
              rintro e y0 ⟨rfl, hb⟩
              have g0 := Lib.hid (hr5.out.trans (hb.mono hr5.out.size))
              clear hb
              go_wp2_with fail
              refine ((CW5 _ g0.out).out).mono ?_
              rintro e y1 ⟨rfl, hb⟩
              have g1 := Lib.hid (g0.out.trans (hb.mono g0.out.size))
              clear hb
              go_wp2_with fail
              refine ((CWt _ g1.out).out).mono ?_
              rintro e y2 ⟨rfl, hb⟩
              have g2 := Lib.hid (g1.out.trans (hb.mono g1.out.size))
              clear hb
              go_wp2_with fail
              refine ((CWd _ g2.out).out).mono ?_
              rintro e y3 ⟨rfl, hb⟩
              have g3 := Lib.hid (g2.out.trans (hb.mono g2.out.size))
              clear hb
              go_wp2_with fail
              go_ret
              exact ⟨rfl, HB5.out.trans (g3.out.mono HB5.out.size)⟩
      · rw [HLT.out i rfl] at CLt
        rw [HLD.out i rfl] at CLd
        cases Wd
        · skip
          go_wp2_with fail
          refine ((CL5 _ hr5.out).out).mono ?_
          rintro e y0 ⟨rfl, hb⟩
          have g0 := Lib.hid (hr5.out.trans (hb.mono hr5.out.size))
          clear hb
          go_wp2_with fail
          refine ((CLt _ g0.out).out).mono ?_
          rintro e y1 ⟨rfl, hb⟩
          have g1 := Lib.hid (g0.out.trans (hb.mono g0.out.size))
          clear hb
          go_wp2_with fail
          refine ((CLd _ g1.out).out).mono ?_
          rintro e y2 ⟨rfl, hb⟩
          have g2 := Lib.hid (g1.out.trans (hb.mono g1.out.size))
          clear hb
          go_wp2_with fail
          refine ((CW5 _ g2.out).out).mono ?_
          rintro e y3 ⟨rfl, hb⟩
          have g3 := Lib.hid (g2.out.trans (hb.mono g2.out.size))
          clear hb
          go_wp2_with fail
          go_ret
          exact ⟨rfl, HB5.out.trans (g3.out.mono HB5.out.size)⟩
        · by_cases z0 : i = 0
          · have y0 : ((i : Int) == 0) = true := by rw [beq_iff_eq]; omega
            by_cases zL : i = s.size
            · have yL : ((i : Int) == (s.size : Int)) = true := by rw [beq_iff_eq]; omega
              clear z0 zL
              go_wp2_with fail
              refine ((CL5 _ hr5.out).out).mono ?_
              rintro e y0 ⟨rfl, hb⟩
              have g0 := Lib.hid (hr5.out.trans (hb.mono hr5.out.size))
              clear hb
              go_wp2_with fail
              refine ((CLt _ g0.out).out).mono ?_
              rintro e y1 ⟨rfl, hb⟩
              have g1 := Lib.hid (g0.out.trans (hb.mono g0.out.size))
              clear hb
              go_wp2_with fail
              refine ((CLd _ g1.out).out).mono ?_
              rintro e y2 ⟨rfl, hb⟩
              have g2 := Lib.hid (g1.out.trans (hb.mono g1.out.size))
              clear hb
              go_wp2_with fail
              refine ((CW5 _ g2.out).out).mono ?_
              rintro e y3 ⟨rfl, hb⟩
              have g3 := Lib.hid (g2.out.trans (hb.mono g2.out.size))
              clear hb
              go_wp2_with fail
              go_ret
              exact ⟨rfl, HB5.out.trans (g3.out.mono HB5.out.size)⟩
            · have yL : ((i : Int) == (s.size : Int)) = false := by rw [beq_eq_false_iff_ne]; omega
              rw [HWD.out i rfl (by rw [length_toList]; omega)] at CWd
              clear z0 zL
              go_wp2_with fail
              refine ((CL5 _ hr5.out).out).mono ?_
              rintro e y0 ⟨rfl, hb⟩
              have g0 := Lib.hid (hr5.out.trans (hb.mono hr5.out.size))
              clear hb
              go_wp2_with fail
              refine ((CLt _ g0.out).out).mono ?_
              rintro e y1 ⟨rfl, hb⟩
              have g1 := Lib.hid (g0.out.trans (hb.mono g0.out.size))
              clear hb
              go_wp2_with fail
              refine ((CLd _ g1.out).out).mono ?_
              rintro e y2 ⟨rfl, hb⟩
              have g2 := Lib.hid (g1.out.trans (hb.mono g1.out.size))
              clear hb
              go_wp2_with fail
              refine ((CW5 _ g2.out).out).mono ?_
              rintro e y3 ⟨rfl, hb⟩
              have g3 := Lib.hid (g2.out.trans (hb.mono g2.out.size))
              clear hb
              go_wp2_with fail
              refine ((CWd _ g3.out).out).mono ?_
              rintro e y4 ⟨rfl, hb⟩
              have g4 := Lib.hid (g3.out.trans (hb.mono g3.out.size))
              clear hb
              go_wp2_with fail
              go_ret
              exact ⟨rfl, HB5.out.trans (g4.out.mono HB5.out.size)⟩
          · have y0 : ((i : Int) == 0) = false := by rw [beq_eq_false_iff_ne]; omega
            rw [HWT.out i rfl z0] at CWt
            by_cases zL : i = s.size
            · have yL : ((i : Int) == (s.size : Int)) = true := by rw [beq_iff_eq]; omega
              clear z0 zL
              go_wp2_with fail
              refine ((CL5 _ hr5.out).out).mono ?_
              rintro e y0 ⟨rfl, hb⟩
              have g0 := Lib.hid (hr5.out.trans (hb.mono hr5.out.size))
              clear hb
              go_wp2_with fail
              refine ((CLt _ g0.out).out).mono ?_
              rintro e y1 ⟨rfl, hb⟩
              have g1 := Lib.hid (g0.out.trans (hb.mono g0.out.size))
              clear hb
              go_wp2_with fail
              refine ((CLd _ g1.out).out).mono ?_
              rintro e y2 ⟨rfl, hb⟩
              have g2 := Lib.hid (g1.out.trans (hb.mono g1.out.size))
              clear hb
              go_wp2_with fail
              refine ((CW5 _ g2.out).out).mono ?_
              rintro e y3 ⟨rfl, hb⟩
              have g3 := Lib.hid (g2.out.trans (hb.mono g2.out.size))
              clear hb
              go_wp2_with fail
              refine ((CWt _ g3.out).out).mono ?_
              rintro e y4 ⟨rfl, hb⟩
              have g4 := Lib.hid (g3.out.trans (hb.mono g3.out.size))
              clear hb
              go_wp2_with fail
              go_ret
              exact ⟨rfl, HB5.out.trans (g4.out.mono HB5.out.size)⟩
            · have yL : ((i : Int) == (s.size : Int)) = false := by rw [beq_eq_false_iff_ne]; omega
              rw [HWD.out i rfl (by rw [length_toList]; omega)] at CWd
              clear z0 zL
              go_wp2_with fail
              refine ((CL5 _ hr5.out).out).mono ?_
              rintro e y0 ⟨rfl, hb⟩
              have g0 := Lib.hid (hr5.out.trans (hb.mono hr5.out.size))
              clear hb
              go_wp2_with fail
              refine ((CLt _ g0.out).out).mono ?_
              rintro e y1 ⟨rfl, hb⟩
              have g1 := Lib.hid (g0.out.trans (hb.mono g0.out.size))
              clear hb
              go_wp2_with fail
              refine ((CLd _ g1.out).out).mono ?_
              rintro e y2 ⟨rfl, hb⟩
              have g2 := Lib.hid (g1.out.trans (hb.mono g1.out.size))
              clear hb
              go_wp2_with fail
              refine ((CW5 _ g2.out).out).mono ?_
              rintro e y3 ⟨rfl, hb⟩
              have g3 := Lib.hid (g2.out.trans (hb.mono g2.out.size))
              clear hb
              go_wp2_with fail
              refine ((CWt _ g3.out).out).mono ?_
              rintro e y4 ⟨rfl, hb⟩
              have g4 := Lib.hid (g3.out.trans (hb.mono g3.out.size))
              clear hb
              go_wp2_with fail
              refine ((CWd _ g4.out).out).mono ?_
              rintro e y5 ⟨rfl, hb⟩
              have g5 := Lib.hid (g4.out.trans (hb.mono g4.out.size))
              clear hb
              go_wp2_with fail
              go_ret
              exact ⟨rfl, HB5.out.trans (g5.out.mono HB5.out.size)⟩
end Go.Proofs.YtnbiedijofdjhaaDoor
