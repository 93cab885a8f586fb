/-
  The law's own examples: the function sanity answers true.
-/
import Derived.Test.YtmioocmjlbjfpaaDoorY
namespace Go.Proofs.YtmioocmjlbjfpaaDoor
open Go.RowKit
open Pl

theorem c_p1 (w : World) : Calls Tryd.prog 7 #[.string ⟨#[115, 116, 114, 111, 107, 101, 32, 49, 32, 49, 32, 50, 32, 50, 48]⟩] w fun e w' => (∃ a c, e = .returned (.tuple #[.agg #[.int .i64 4, .string ⟨#[]⟩, .slice a 2 c, .string ⟨#[]⟩, .int .i64 0, .int .i64 0], .int .i64 0]) ∧ PtsAt w' w'.heap.size (.slice a 2 c) [(1, 1), (2, 20)]) ∧ Below w.heap.size w w' := parse_good _ evS p1 (by decide) w
theorem c_p6 (w : World) : Calls Tryd.prog 7 #[.string ⟨#[104, 111, 108, 100, 32, 48, 32, 50]⟩] w fun e w' => (∃ a c, e = .returned (.tuple #[.agg #[.int .i64 9, .string ⟨#[]⟩, .slice a 0 c, .string ⟨#[]⟩, .int .i64 0, .int .i64 2], .int .i64 0]) ∧ PtsAt w' w'.heap.size (.slice a 0 c) []) ∧ Below w.heap.size w w' := parse_good _ evH p6 (by decide) w
theorem c_p2 (w : World) : Calls Tryd.prog 7 #[.string ⟨#[99, 104, 111, 114, 100, 32, 98, 97]⟩] w fun e w' => e = .returned (.tuple #[.agg #[.int .i64 0, .string ⟨#[]⟩, .slice none 0 0, .string ⟨#[]⟩, .int .i64 0, .int .i64 0], .int .i64 3]) ∧ Below w.heap.size w w' := parse_bad _ p2 (by decide) w
theorem c_p3 (w : World) : Calls Tryd.prog 7 #[.string ⟨#[116, 111, 117, 99, 104, 32, 48, 49, 32, 49]⟩] w fun e w' => e = .returned (.tuple #[.agg #[.int .i64 0, .string ⟨#[]⟩, .slice none 0 0, .string ⟨#[]⟩, .int .i64 0, .int .i64 0], .int .i64 3]) ∧ Below w.heap.size w w' := parse_bad _ p3 (by decide) w
theorem c_p4 (w : World) : Calls Tryd.prog 7 #[.string ⟨#[104, 111, 108, 100, 32, 48, 32, 48]⟩] w fun e w' => e = .returned (.tuple #[.agg #[.int .i64 0, .string ⟨#[]⟩, .slice none 0 0, .string ⟨#[]⟩, .int .i64 0, .int .i64 0], .int .i64 3]) ∧ Below w.heap.size w w' := parse_bad _ p4 (by decide) w
theorem c_p5 (w : World) : Calls Tryd.prog 7 #[.string ⟨#[101, 114, 97, 115, 101, 32]⟩] w fun e w' => e = .returned (.tuple #[.agg #[.int .i64 0, .string ⟨#[]⟩, .slice none 0 0, .string ⟨#[]⟩, .int .i64 0, .int .i64 0], .int .i64 3]) ∧ Below w.heap.size w w' := parse_bad _ p5 (by decide) w
theorem c_s1 (m : Int) (w : World) (hm : MaxVar w m) (hw0 : 0 < w.heap.size) : Calls Tryd.prog 11 #[.string ⟨#[101, 114, 97, 115, 101, 10, 104, 111, 108, 100, 32, 48, 32, 50, 10]⟩] w fun e w' => (∃ a c, e = .returned (.tuple #[.slice a 2 c, .int .i64 2, .int .i64 0]) ∧ EvsAt w' (.slice a 2 c) [evE, evH]) ∧ Below w.heap.size w w' := by
  refine (script_is _ [evE, evH] true s1 (by decide) m w hm hw0).mono ?_
  rintro e w' ⟨⟨a, n, c, he, hE, rfl⟩, hb⟩
  exact ⟨⟨a, c, he, hE⟩, hb⟩
theorem c_s2 (m : Int) (w : World) (hm : MaxVar w m) (hw0 : 0 < w.heap.size) : Calls Tryd.prog 11 #[.string ⟨#[101, 114, 97, 115, 101, 10, 104, 111, 108, 100, 32, 48, 32, 50]⟩] w fun e w' => (∃ a c, e = .returned (.tuple #[.slice a 0 c, .int .i64 1, .int .i64 3])) ∧ Below w.heap.size w w' := by
  refine (script_is _ [evE] false s2 (by decide) m w hm hw0).mono ?_
  rintro e w' ⟨⟨a, n, c, he, hE, rfl⟩, hb⟩
  exact ⟨⟨a, c, he⟩, hb⟩
theorem c_s3 (m : Int) (w : World) (hm : MaxVar w m) (hw0 : 0 < w.heap.size) : Calls Tryd.prog 11 #[.string ⟨#[10]⟩] w fun e w' => (∃ a c, e = .returned (.tuple #[.slice a 0 c, .int .i64 0, .int .i64 3])) ∧ Below w.heap.size w w' := by
  refine (script_is _ [] false s3 (by decide) m w hm hw0).mono ?_
  rintro e w' ⟨⟨a, n, c, he, hE, rfl⟩, hb⟩
  exact ⟨⟨a, c, he⟩, hb⟩
theorem c_s4 (m : Int) (w : World) (hm : MaxVar w m) (hw0 : 0 < w.heap.size) : Calls Tryd.prog 11 #[.string ⟨#[]⟩] w fun e w' => (∃ a c, e = .returned (.tuple #[.slice a 0 c, .int .i64 0, .int .i64 0])) ∧ Below w.heap.size w w' := by
  refine (script_is _ [] true s4 (by decide) m w hm hw0).mono ?_
  rintro e w' ⟨⟨a, n, c, he, hE, rfl⟩, hb⟩
  exact ⟨⟨a, c, he⟩, hb⟩

set_option maxHeartbeats 8000000 in
set_option maxRecDepth 100000 in
theorem sanity_any (m : Int) (w : World) (hT : PowTab w) (hm : MaxVar w m) (hw0 : 0 < w.heap.size) :
    Calls Tryd.prog 4 #[] w fun e w' => e = .returned (.bool true) ∧ Below w.heap.size w w' := by
  have e1 : (w.alloc (.cells #[.int .i64 1, .int .i64 1, .int .i64 2, .int .i64 20] 40)).heap.size = w.heap.size + 1 := World.size_alloc _ _
  have e2 : ((w.alloc (.cells #[.int .i64 1, .int .i64 1, .int .i64 2, .int .i64 20] 40)).alloc (.cells #[.int .i64 4, .string ⟨#[]⟩, .slice (some ⟨w.heap.size, 0, none⟩) 2 2, .string ⟨#[]⟩, .int .i64 0, .int .i64 0] 31)).heap.size = w.heap.size + 2 := by rw [World.size_alloc, e1]
  have hb1 : Below w.heap.size w (w.alloc (.cells #[.int .i64 1, .int .i64 1, .int .i64 2, .int .i64 20] 40)) := (Below.refl _ _).alloc (Nat.le_refl _) _
  have hb2 : Below (w.alloc (.cells #[.int .i64 1, .int .i64 1, .int .i64 2, .int .i64 20] 40)).heap.size (w.alloc (.cells #[.int .i64 1, .int .i64 1, .int .i64 2, .int .i64 20] 40)) ((w.alloc (.cells #[.int .i64 1, .int .i64 1, .int .i64 2, .int .i64 20] 40)).alloc (.cells #[.int .i64 4, .string ⟨#[]⟩, .slice (some ⟨w.heap.size, 0, none⟩) 2 2, .string ⟨#[]⟩, .int .i64 0, .int .i64 0] 31)) := (Below.refl _ _).alloc (Nat.le_refl _) _
  have hb3 : Below ((w.alloc (.cells #[.int .i64 1, .int .i64 1, .int .i64 2, .int .i64 20] 40)).alloc (.cells #[.int .i64 4, .string ⟨#[]⟩, .slice (some ⟨w.heap.size, 0, none⟩) 2 2, .string ⟨#[]⟩, .int .i64 0, .int .i64 0] 31)).heap.size ((w.alloc (.cells #[.int .i64 1, .int .i64 1, .int .i64 2, .int .i64 20] 40)).alloc (.cells #[.int .i64 4, .string ⟨#[]⟩, .slice (some ⟨w.heap.size, 0, none⟩) 2 2, .string ⟨#[]⟩, .int .i64 0, .int .i64 0] 31)) (((w.alloc (.cells #[.int .i64 1, .int .i64 1, .int .i64 2, .int .i64 20] 40)).alloc (.cells #[.int .i64 4, .string ⟨#[]⟩, .slice (some ⟨w.heap.size, 0, none⟩) 2 2, .string ⟨#[]⟩, .int .i64 0, .int .i64 0] 31)).alloc (.cells #[.int .i64 9, .string ⟨#[]⟩, .slice none 0 0, .string ⟨#[]⟩, .int .i64 0, .int .i64 2] 31)) := (Below.refl _ _).alloc (Nat.le_refl _) _
  have hp0 := pts_lit (W := (w.alloc (.cells #[.int .i64 1, .int .i64 1, .int .i64 2, .int .i64 20] 40))) (b := w.heap.size) (heap_alloc_new w _)
  have P1_0 := Lib.hid ((((hp0.below hb2).up hb2.size).below hb3).up hb3.size)
  have hE1 := EvBlock.new (w.alloc (.cells #[.int .i64 1, .int .i64 1, .int .i64 2, .int .i64 20] 40)) (.int .i64 4) (.string ⟨#[]⟩) (.slice (some ⟨w.heap.size, 0, none⟩) 2 2) (.string ⟨#[]⟩) (.int .i64 0) (.int .i64 0)
  rw [e1] at hE1
  have E1_0 := Lib.hid (hE1.below hb3)
  have hE2 := EvBlock.new ((w.alloc (.cells #[.int .i64 1, .int .i64 1, .int .i64 2, .int .i64 20] 40)).alloc (.cells #[.int .i64 4, .string ⟨#[]⟩, .slice (some ⟨w.heap.size, 0, none⟩) 2 2, .string ⟨#[]⟩, .int .i64 0, .int .i64 0] 31)) (.int .i64 9) (.string ⟨#[]⟩) (.slice none 0 0) (.string ⟨#[]⟩) (.int .i64 0) (.int .i64 2)
  rw [e2] at hE2
  have E2_0 := Lib.hid hE2
  have W_0 := Lib.hid ((hb1.trans (hb2.mono hb1.size)).trans (hb3.mono (Nat.le_trans hb1.size hb2.size)))
  have HT := Lib.hid hT
  have HM := Lib.hid hm
  have Hw0 := Lib.hid hw0
  clear e1 e2 hb1 hb2 hb3 hp0 hE1 hE2 hT hm hw0
  go_enter Tryd.func4, Tryd.ntmps4
  go_wp2_with fail
  refine (c_p1 _).mono ?_
  rintro e x1 ⟨⟨a1, c1, rfl, hP⟩, hb⟩
  have hal : Below x1.heap.size x1 (x1.alloc (.cells #[.int .i64 4, .string ⟨#[]⟩, .slice a1 2 c1, .string ⟨#[]⟩, .int .i64 0, .int .i64 0] 31)) := (Below.refl _ _).alloc (Nat.le_refl _) _
  have P1_1 := Lib.hid ((P1_0.out.below hb).up (hb).size)
  have E1_1 := Lib.hid (E1_0.out.below hb)
  have E2_1 := Lib.hid (E2_0.out.below hb)
  have W_1 := Lib.hid (W_0.out.trans ((hb).mono W_0.out.size))
  clear P1_0 E1_0 E2_0 W_0
  have P1_2 := Lib.hid ((P1_1.out.below hal).up (hal).size)
  have E1_2 := Lib.hid (E1_1.out.below hal)
  have E2_2 := Lib.hid (E2_1.out.below hal)
  have W_2 := Lib.hid (W_1.out.trans ((hal).mono W_1.out.size))
  clear P1_1 E1_1 E2_1 W_1
  have ER1_3 := Lib.hid (EvBlock.new x1 (.int .i64 4) (.string ⟨#[]⟩) (.slice a1 2 c1) (.string ⟨#[]⟩) (.int .i64 0) (.int .i64 0))
  have PR1_3 := Lib.hid ((hP.below hal).up hal.size)
  clear hb hal hP
  go_wp2_with fail
  refine (c_p2 _).mono ?_
  rintro e x2 ⟨rfl, hb⟩
  have hal : Below x2.heap.size x2 (x2.alloc (.cells #[.int .i64 0, .string ⟨#[]⟩, .slice none 0 0, .string ⟨#[]⟩, .int .i64 0, .int .i64 0] 31)) := (Below.refl _ _).alloc (Nat.le_refl _) _
  have P1_4 := Lib.hid ((P1_2.out.below hb).up (hb).size)
  have E1_4 := Lib.hid (E1_2.out.below hb)
  have E2_4 := Lib.hid (E2_2.out.below hb)
  have W_4 := Lib.hid (W_2.out.trans ((hb).mono W_2.out.size))
  have ER1_4 := Lib.hid (ER1_3.out.below hb)
  have PR1_4 := Lib.hid ((PR1_3.out.below hb).up (hb).size)
  clear P1_2 E1_2 E2_2 W_2 ER1_3 PR1_3
  have P1_5 := Lib.hid ((P1_4.out.below hal).up (hal).size)
  have E1_5 := Lib.hid (E1_4.out.below hal)
  have E2_5 := Lib.hid (E2_4.out.below hal)
  have W_5 := Lib.hid (W_4.out.trans ((hal).mono W_4.out.size))
  have ER1_5 := Lib.hid (ER1_4.out.below hal)
  have PR1_5 := Lib.hid ((PR1_4.out.below hal).up (hal).size)
  clear P1_4 E1_4 E2_4 W_4 ER1_4 PR1_4
  clear hb hal
  go_wp2_with fail
  refine (c_p3 _).mono ?_
  rintro e x3 ⟨rfl, hb⟩
  have hal : Below x3.heap.size x3 (x3.alloc (.cells #[.int .i64 0, .string ⟨#[]⟩, .slice none 0 0, .string ⟨#[]⟩, .int .i64 0, .int .i64 0] 31)) := (Below.refl _ _).alloc (Nat.le_refl _) _
  have P1_6 := Lib.hid ((P1_5.out.below hb).up (hb).size)
  have E1_6 := Lib.hid (E1_5.out.below hb)
  have E2_6 := Lib.hid (E2_5.out.below hb)
  have W_6 := Lib.hid (W_5.out.trans ((hb).mono W_5.out.size))
  have ER1_6 := Lib.hid (ER1_5.out.below hb)
  have PR1_6 := Lib.hid ((PR1_5.out.below hb).up (hb).size)
  clear P1_5 E1_5 E2_5 W_5 ER1_5 PR1_5
  have P1_7 := Lib.hid ((P1_6.out.below hal).up (hal).size)
  have E1_7 := Lib.hid (E1_6.out.below hal)
  have E2_7 := Lib.hid (E2_6.out.below hal)
  have W_7 := Lib.hid (W_6.out.trans ((hal).mono W_6.out.size))
  have ER1_7 := Lib.hid (ER1_6.out.below hal)
  have PR1_7 := Lib.hid ((PR1_6.out.below hal).up (hal).size)
  clear P1_6 E1_6 E2_6 W_6 ER1_6 PR1_6
  clear hb hal
  go_wp2_with fail
  refine (c_p4 _).mono ?_
  rintro e x4 ⟨rfl, hb⟩
  have hal : Below x4.heap.size x4 (x4.alloc (.cells #[.int .i64 0, .string ⟨#[]⟩, .slice none 0 0, .string ⟨#[]⟩, .int .i64 0, .int .i64 0] 31)) := (Below.refl _ _).alloc (Nat.le_refl _) _
  have P1_8 := Lib.hid ((P1_7.out.below hb).up (hb).size)
  have E1_8 := Lib.hid (E1_7.out.below hb)
  have E2_8 := Lib.hid (E2_7.out.below hb)
  have W_8 := Lib.hid (W_7.out.trans ((hb).mono W_7.out.size))
  have ER1_8 := Lib.hid (ER1_7.out.below hb)
  have PR1_8 := Lib.hid ((PR1_7.out.below hb).up (hb).size)
  clear P1_7 E1_7 E2_7 W_7 ER1_7 PR1_7
  have P1_9 := Lib.hid ((P1_8.out.below hal).up (hal).size)
  have E1_9 := Lib.hid (E1_8.out.below hal)
  have E2_9 := Lib.hid (E2_8.out.below hal)
  have W_9 := Lib.hid (W_8.out.trans ((hal).mono W_8.out.size))
  have ER1_9 := Lib.hid (ER1_8.out.below hal)
  have PR1_9 := Lib.hid ((PR1_8.out.below hal).up (hal).size)
  clear P1_8 E1_8 E2_8 W_8 ER1_8 PR1_8
  clear hb hal
  go_wp2_with fail
  refine (c_p5 _).mono ?_
  rintro e x5 ⟨rfl, hb⟩
  have hal : Below x5.heap.size x5 (x5.alloc (.cells #[.int .i64 0, .string ⟨#[]⟩, .slice none 0 0, .string ⟨#[]⟩, .int .i64 0, .int .i64 0] 31)) := (Below.refl _ _).alloc (Nat.le_refl _) _
  have P1_10 := Lib.hid ((P1_9.out.below hb).up (hb).size)
  have E1_10 := Lib.hid (E1_9.out.below hb)
  have E2_10 := Lib.hid (E2_9.out.below hb)
  have W_10 := Lib.hid (W_9.out.trans ((hb).mono W_9.out.size))
  have ER1_10 := Lib.hid (ER1_9.out.below hb)
  have PR1_10 := Lib.hid ((PR1_9.out.below hb).up (hb).size)
  clear P1_9 E1_9 E2_9 W_9 ER1_9 PR1_9
  have P1_11 := Lib.hid ((P1_10.out.below hal).up (hal).size)
  have E1_11 := Lib.hid (E1_10.out.below hal)
  have E2_11 := Lib.hid (E2_10.out.below hal)
  have W_11 := Lib.hid (W_10.out.trans ((hal).mono W_10.out.size))
  have ER1_11 := Lib.hid (ER1_10.out.below hal)
  have PR1_11 := Lib.hid ((PR1_10.out.below hal).up (hal).size)
  clear P1_10 E1_10 E2_10 W_10 ER1_10 PR1_10
  clear hb hal
  go_wp2_with fail
  refine (c_p6 _).mono ?_
  rintro e x6 ⟨⟨a6, c6, rfl, hP⟩, hb⟩
  have hal : Below x6.heap.size x6 (x6.alloc (.cells #[.int .i64 9, .string ⟨#[]⟩, .slice a6 0 c6, .string ⟨#[]⟩, .int .i64 0, .int .i64 2] 31)) := (Below.refl _ _).alloc (Nat.le_refl _) _
  have P1_12 := Lib.hid ((P1_11.out.below hb).up (hb).size)
  have E1_12 := Lib.hid (E1_11.out.below hb)
  have E2_12 := Lib.hid (E2_11.out.below hb)
  have W_12 := Lib.hid (W_11.out.trans ((hb).mono W_11.out.size))
  have ER1_12 := Lib.hid (ER1_11.out.below hb)
  have PR1_12 := Lib.hid ((PR1_11.out.below hb).up (hb).size)
  clear P1_11 E1_11 E2_11 W_11 ER1_11 PR1_11
  have P1_13 := Lib.hid ((P1_12.out.below hal).up (hal).size)
  have E1_13 := Lib.hid (E1_12.out.below hal)
  have E2_13 := Lib.hid (E2_12.out.below hal)
  have W_13 := Lib.hid (W_12.out.trans ((hal).mono W_12.out.size))
  have ER1_13 := Lib.hid (ER1_12.out.below hal)
  have PR1_13 := Lib.hid ((PR1_12.out.below hal).up (hal).size)
  clear P1_12 E1_12 E2_12 W_12 ER1_12 PR1_12
  have ER6_14 := Lib.hid (EvBlock.new x6 (.int .i64 9) (.string ⟨#[]⟩) (.slice a6 0 c6) (.string ⟨#[]⟩) (.int .i64 0) (.int .i64 2))
  have PR6_14 := Lib.hid ((hP.below hal).up hal.size)
  clear hb hal hP
  go_wp2_with fail
  refine (c_s1 m _ (HM.out.below W_13.out Hw0.out) (Nat.lt_of_lt_of_le Hw0.out W_13.out.size)).mono ?_
  rintro e x7 ⟨⟨a7, c7, rfl, hL⟩, hb⟩
  have P1_15 := Lib.hid ((P1_13.out.below hb).up (hb).size)
  have E1_15 := Lib.hid (E1_13.out.below hb)
  have E2_15 := Lib.hid (E2_13.out.below hb)
  have W_15 := Lib.hid (W_13.out.trans ((hb).mono W_13.out.size))
  have ER1_15 := Lib.hid (ER1_13.out.below hb)
  have PR1_15 := Lib.hid ((PR1_13.out.below hb).up (hb).size)
  have ER6_15 := Lib.hid (ER6_14.out.below hb)
  have PR6_15 := Lib.hid ((PR6_14.out.below hb).up (hb).size)
  clear P1_13 E1_13 E2_13 W_13 ER1_13 PR1_13 ER6_14 PR6_14
  have L1_16 := Lib.hid hL
  clear hb hL
  go_wp2_with fail
  refine (c_s2 m _ (HM.out.below W_15.out Hw0.out) (Nat.lt_of_lt_of_le Hw0.out W_15.out.size)).mono ?_
  rintro e x8 ⟨⟨a8, c8, rfl⟩, hb⟩
  have P1_17 := Lib.hid ((P1_15.out.below hb).up (hb).size)
  have E1_17 := Lib.hid (E1_15.out.below hb)
  have E2_17 := Lib.hid (E2_15.out.below hb)
  have W_17 := Lib.hid (W_15.out.trans ((hb).mono W_15.out.size))
  have ER1_17 := Lib.hid (ER1_15.out.below hb)
  have PR1_17 := Lib.hid ((PR1_15.out.below hb).up (hb).size)
  have ER6_17 := Lib.hid (ER6_15.out.below hb)
  have PR6_17 := Lib.hid ((PR6_15.out.below hb).up (hb).size)
  have L1_17 := Lib.hid (L1_16.out.below hb)
  clear P1_15 E1_15 E2_15 W_15 ER1_15 PR1_15 ER6_15 PR6_15 L1_16
  clear hb
  go_wp2_with fail
  refine (c_s3 m _ (HM.out.below W_17.out Hw0.out) (Nat.lt_of_lt_of_le Hw0.out W_17.out.size)).mono ?_
  rintro e x9 ⟨⟨a9, c9, rfl⟩, hb⟩
  have P1_18 := Lib.hid ((P1_17.out.below hb).up (hb).size)
  have E1_18 := Lib.hid (E1_17.out.below hb)
  have E2_18 := Lib.hid (E2_17.out.below hb)
  have W_18 := Lib.hid (W_17.out.trans ((hb).mono W_17.out.size))
  have ER1_18 := Lib.hid (ER1_17.out.below hb)
  have PR1_18 := Lib.hid ((PR1_17.out.below hb).up (hb).size)
  have ER6_18 := Lib.hid (ER6_17.out.below hb)
  have PR6_18 := Lib.hid ((PR6_17.out.below hb).up (hb).size)
  have L1_18 := Lib.hid (L1_17.out.below hb)
  clear P1_17 E1_17 E2_17 W_17 ER1_17 PR1_17 ER6_17 PR6_17 L1_17
  clear hb
  go_wp2_with fail
  refine (c_s4 m _ (HM.out.below W_18.out Hw0.out) (Nat.lt_of_lt_of_le Hw0.out W_18.out.size)).mono ?_
  rintro e x10 ⟨⟨a10, c10, rfl⟩, hb⟩
  have P1_19 := Lib.hid ((P1_18.out.below hb).up (hb).size)
  have E1_19 := Lib.hid (E1_18.out.below hb)
  have E2_19 := Lib.hid (E2_18.out.below hb)
  have W_19 := Lib.hid (W_18.out.trans ((hb).mono W_18.out.size))
  have ER1_19 := Lib.hid (ER1_18.out.below hb)
  have PR1_19 := Lib.hid ((PR1_18.out.below hb).up (hb).size)
  have ER6_19 := Lib.hid (ER6_18.out.below hb)
  have PR6_19 := Lib.hid ((PR6_18.out.below hb).up (hb).size)
  have L1_19 := Lib.hid (L1_18.out.below hb)
  clear P1_18 E1_18 E2_18 W_18 ER1_18 PR1_18 ER6_18 PR6_18 L1_18
  clear hb
  obtain ⟨g0, g1, g2, g3, g4, g5⟩ := E1_19.out.cells
  go_wp2_with fail
  clear g0 g1 g2 g3 g4 g5
  refine (print_stroke (some ⟨w.heap.size, 0, none⟩) 2 _ P1_19.out (HT.out.below W_19.out)).mono ?_
  rintro e x11 ⟨rfl, hb⟩
  have P1_20 := Lib.hid ((P1_19.out.below hb).up (hb).size)
  have E1_20 := Lib.hid (E1_19.out.below hb)
  have E2_20 := Lib.hid (E2_19.out.below hb)
  have W_20 := Lib.hid (W_19.out.trans ((hb).mono W_19.out.size))
  have ER1_20 := Lib.hid (ER1_19.out.below hb)
  have PR1_20 := Lib.hid ((PR1_19.out.below hb).up (hb).size)
  have ER6_20 := Lib.hid (ER6_19.out.below hb)
  have PR6_20 := Lib.hid ((PR6_19.out.below hb).up (hb).size)
  have L1_20 := Lib.hid (L1_19.out.below hb)
  clear P1_19 E1_19 E2_19 W_19 ER1_19 PR1_19 ER6_19 PR6_19 L1_19
  clear hb
  obtain ⟨g0, g1, g2, g3, g4, g5⟩ := E2_20.out.cells
  go_wp2_with fail
  clear g0 g1 g2 g3 g4 g5
  refine (print_hold _ (HT.out.below W_20.out)).mono ?_
  rintro e x12 ⟨rfl, hb⟩
  have P1_21 := Lib.hid ((P1_20.out.below hb).up (hb).size)
  have E1_21 := Lib.hid (E1_20.out.below hb)
  have E2_21 := Lib.hid (E2_20.out.below hb)
  have W_21 := Lib.hid (W_20.out.trans ((hb).mono W_20.out.size))
  have ER1_21 := Lib.hid (ER1_20.out.below hb)
  have PR1_21 := Lib.hid ((PR1_20.out.below hb).up (hb).size)
  have ER6_21 := Lib.hid (ER6_20.out.below hb)
  have PR6_21 := Lib.hid ((PR6_20.out.below hb).up (hb).size)
  have L1_21 := Lib.hid (L1_20.out.below hb)
  clear P1_20 E1_20 E2_20 W_20 ER1_20 PR1_20 ER6_20 PR6_20 L1_20
  clear hb
  obtain ⟨g0, g1, g2, g3, g4, g5⟩ := ER1_21.out.cells
  obtain ⟨k0, k1, k2, k3, k4, k5⟩ := E1_21.out.cells
  go_wp2_with fail
  clear g0 g1 g2 g3 g4 g5 k0 k1 k2 k3 k4 k5
  refine (same_stroke a1 (some ⟨w.heap.size, 0, none⟩) c1 2 _ PR1_21.out P1_21.out).mono ?_
  rintro e x13 ⟨rfl, hb⟩
  have P1_22 := Lib.hid ((P1_21.out.below hb).up (hb).size)
  have E1_22 := Lib.hid (E1_21.out.below hb)
  have E2_22 := Lib.hid (E2_21.out.below hb)
  have W_22 := Lib.hid (W_21.out.trans ((hb).mono W_21.out.size))
  have ER1_22 := Lib.hid (ER1_21.out.below hb)
  have PR1_22 := Lib.hid ((PR1_21.out.below hb).up (hb).size)
  have ER6_22 := Lib.hid (ER6_21.out.below hb)
  have PR6_22 := Lib.hid ((PR6_21.out.below hb).up (hb).size)
  have L1_22 := Lib.hid (L1_21.out.below hb)
  clear P1_21 E1_21 E2_21 W_21 ER1_21 PR1_21 ER6_21 PR6_21 L1_21
  clear hb
  obtain ⟨g0, g1, g2, g3, g4, g5⟩ := ER6_22.out.cells
  obtain ⟨k0, k1, k2, k3, k4, k5⟩ := E2_22.out.cells
  go_wp2_with fail
  clear g0 g1 g2 g3 g4 g5 k0 k1 k2 k3 k4 k5
  refine (same_hold a6 none c6 0 _ PR6_22.out ⟨none, 0, rfl, fun h => by cases h⟩).mono ?_
  rintro e x14 ⟨rfl, hb⟩
  have P1_23 := Lib.hid ((P1_22.out.below hb).up (hb).size)
  have E1_23 := Lib.hid (E1_22.out.below hb)
  have E2_23 := Lib.hid (E2_22.out.below hb)
  have W_23 := Lib.hid (W_22.out.trans ((hb).mono W_22.out.size))
  have ER1_23 := Lib.hid (ER1_22.out.below hb)
  have PR1_23 := Lib.hid ((PR1_22.out.below hb).up (hb).size)
  have ER6_23 := Lib.hid (ER6_22.out.below hb)
  have PR6_23 := Lib.hid ((PR6_22.out.below hb).up (hb).size)
  have L1_23 := Lib.hid (L1_22.out.below hb)
  clear P1_22 E1_22 E2_22 W_22 ER1_22 PR1_22 ER6_22 PR6_22 L1_22
  clear hb
  obtain ⟨g0, g1, g2, g3, g4, g5⟩ := E2_23.out.cells
  go_wp2_with fail
  clear g0 g1 g2 g3 g4 g5
  have htw := Lib.hid (two_at (W := x14.alloc (.cells twoCells 31)) (b := x14.heap.size) (heap_alloc_new x14 _))
  have hal : Below x14.heap.size x14 (x14.alloc (.cells twoCells 31)) := (Below.refl _ _).alloc (Nat.le_refl _) _
  have P1_24 := Lib.hid ((P1_23.out.below hal).up (hal).size)
  have E1_24 := Lib.hid (E1_23.out.below hal)
  have E2_24 := Lib.hid (E2_23.out.below hal)
  have W_24 := Lib.hid (W_23.out.trans ((hal).mono W_23.out.size))
  have ER1_24 := Lib.hid (ER1_23.out.below hal)
  have PR1_24 := Lib.hid ((PR1_23.out.below hal).up (hal).size)
  have ER6_24 := Lib.hid (ER6_23.out.below hal)
  have PR6_24 := Lib.hid ((PR6_23.out.below hal).up (hal).size)
  have L1_24 := Lib.hid (L1_23.out.below hal)
  clear P1_23 E1_23 E2_23 W_23 ER1_23 PR1_23 ER6_23 PR6_23 L1_23
  clear hal
  refine (same_two _ _ _ L1_24.out htw.out).mono ?_
  rintro e x15 ⟨rfl, hb⟩
  have P1_25 := Lib.hid ((P1_24.out.below hb).up (hb).size)
  have E1_25 := Lib.hid (E1_24.out.below hb)
  have E2_25 := Lib.hid (E2_24.out.below hb)
  have W_25 := Lib.hid (W_24.out.trans ((hb).mono W_24.out.size))
  have ER1_25 := Lib.hid (ER1_24.out.below hb)
  have PR1_25 := Lib.hid ((PR1_24.out.below hb).up (hb).size)
  have ER6_25 := Lib.hid (ER6_24.out.below hb)
  have PR6_25 := Lib.hid ((PR6_24.out.below hb).up (hb).size)
  have L1_25 := Lib.hid (L1_24.out.below hb)
  clear P1_24 E1_24 E2_24 W_24 ER1_24 PR1_24 ER6_24 PR6_24 L1_24
  clear hb
  obtain ⟨g0, g1, g2, g3, g4, g5⟩ := E1_25.out.cells
  go_wp2_with fail
  clear g0 g1 g2 g3 g4 g5
  refine (valid_stroke (some ⟨w.heap.size, 0, none⟩) 2 _ P1_25.out).mono ?_
  rintro e x16 ⟨rfl, hb⟩
  have P1_26 := Lib.hid ((P1_25.out.below hb).up (hb).size)
  have E1_26 := Lib.hid (E1_25.out.below hb)
  have E2_26 := Lib.hid (E2_25.out.below hb)
  have W_26 := Lib.hid (W_25.out.trans ((hb).mono W_25.out.size))
  have ER1_26 := Lib.hid (ER1_25.out.below hb)
  have PR1_26 := Lib.hid ((PR1_25.out.below hb).up (hb).size)
  have ER6_26 := Lib.hid (ER6_25.out.below hb)
  have PR6_26 := Lib.hid ((PR6_25.out.below hb).up (hb).size)
  have L1_26 := Lib.hid (L1_25.out.below hb)
  clear P1_25 E1_25 E2_25 W_25 ER1_25 PR1_25 ER6_25 PR6_25 L1_25
  clear hb
  go_wp2_with fail
  refine (valid_zero _).mono ?_
  rintro e x17 ⟨rfl, hb⟩
  have P1_27 := Lib.hid ((P1_26.out.below hb).up (hb).size)
  have E1_27 := Lib.hid (E1_26.out.below hb)
  have E2_27 := Lib.hid (E2_26.out.below hb)
  have W_27 := Lib.hid (W_26.out.trans ((hb).mono W_26.out.size))
  have ER1_27 := Lib.hid (ER1_26.out.below hb)
  have PR1_27 := Lib.hid ((PR1_26.out.below hb).up (hb).size)
  have ER6_27 := Lib.hid (ER6_26.out.below hb)
  have PR6_27 := Lib.hid ((PR6_26.out.below hb).up (hb).size)
  have L1_27 := Lib.hid (L1_26.out.below hb)
  clear P1_26 E1_26 E2_26 W_26 ER1_26 PR1_26 ER6_26 PR6_26 L1_26
  clear hb
  go_wp2_with fail
  refine (valid_ab _).mono ?_
  rintro e x18 ⟨rfl, hb⟩
  have P1_28 := Lib.hid ((P1_27.out.below hb).up (hb).size)
  have E1_28 := Lib.hid (E1_27.out.below hb)
  have E2_28 := Lib.hid (E2_27.out.below hb)
  have W_28 := Lib.hid (W_27.out.trans ((hb).mono W_27.out.size))
  have ER1_28 := Lib.hid (ER1_27.out.below hb)
  have PR1_28 := Lib.hid ((PR1_27.out.below hb).up (hb).size)
  have ER6_28 := Lib.hid (ER6_27.out.below hb)
  have PR6_28 := Lib.hid ((PR6_27.out.below hb).up (hb).size)
  have L1_28 := Lib.hid (L1_27.out.below hb)
  clear P1_27 E1_27 E2_27 W_27 ER1_27 PR1_27 ER6_27 PR6_27 L1_27
  clear hb
  go_wp2_with fail
  go_ret
  exact ⟨rfl, W_28.out⟩
end Go.Proofs.YtmioocmjlbjfpaaDoor
