/-
  SchemeRoundTrips: the walk.
-/
import Derived.Test.YtnbiedijofdjhaaDoorVP
namespace Go.Proofs.YtnbiedijofdjhaaDoor
open Go.RowKit
open Pl

theorem none_listed {n j : Nat} (h : (Array.replicate n false).getD j false = true) : False := by
  by_cases hj : j < n
  · simp [hj] at h
  · simp [hj] at h
theorem ready_dep {ops : Array Oper} {listed : Array Bool} {i k : Nat} {o : Oper} (h : i ∈ Region.ready .any ops listed) (ho : ops[i]? = some o) (hk : o.after.any (fun e => Region.binds .any e && e.on == k) = true) : listed.getD k false = true := by
  obtain ⟨-, o', ho', hall⟩ := mem_ready.1 h
  obtain rfl : o' = o := Option.some.inj (ho'.symm.trans ho)
  obtain ⟨e, he, hb⟩ := Array.any_eq_true'.1 hk
  simp only [Bool.and_eq_true, beq_iff_eq] at hb
  rw [← hb.2]
  exact hall e he hb.1
theorem layT (w : World) (k d k2 d2 : Int) (v v2 : Value) : RwBlock ((w.alloc (.cells #[.int .u8 k, .int .u8 d, v] 27)).alloc (.cells #[.int .u8 k2, .int .u8 d2, v2] 27)) w.heap.size k d v ∧ RwBlock ((w.alloc (.cells #[.int .u8 k, .int .u8 d, v] 27)).alloc (.cells #[.int .u8 k2, .int .u8 d2, v2] 27)) (w.heap.size + 1) k2 d2 v2 ∧ Below w.heap.size w ((w.alloc (.cells #[.int .u8 k, .int .u8 d, v] 27)).alloc (.cells #[.int .u8 k2, .int .u8 d2, v2] 27)) := by
  refine ⟨RwBlock.below (show RwBlock (w.alloc (.cells #[.int .u8 k, .int .u8 d, v] 27)) w.heap.size k d v from heap_alloc_new w _) ((Below.refl _ _).alloc (Nat.le_refl _) _), ?_, ((Below.refl _ _).alloc (Nat.le_refl _) _).alloc (by simp) _⟩
  have := heap_alloc_new (w.alloc (.cells #[.int .u8 k, .int .u8 d, v] 27)) (.cells #[.int .u8 k2, .int .u8 d2, v2] 27)
  rw [World.size_alloc] at this
  exact this
theorem print_len {m : Int} {rs : List Rl} (h : validB m 1 rs = true) (hl : rs.length ≤ 9) : (printS m 1 rs).length ≤ 1000 := by
  obtain ⟨hm1, hm8, -, -, hr⟩ := valid_ok h
  have h1 := rules_len m hm8 rs (fun k hk => (hr k hk).1)
  have h2 := dec_len 0 m.toNat (by omega)
  have h3 := dec_len 0 (1 : Int).toNat (by decide)
  unfold printS headS lineS
  rw [join_more, join_more, join_one]
  simp only [List.length_append, List.length_cons, List.length_nil]
  omega
theorem parse_made {m1 : Int} {rs1 : List Rl} (hv : validB m1 1 rs1 = true) (hl : rs1.length ≤ 9) (m : Int) (w : World) (hT : StrTab w) (h0 : 0 < w.heap.size) (hm : MaxVar w m) (hg : 2 < w.heap.size) :
    Calls Tryd.prog 22 #[.string (B (printS m1 1 rs1))] w fun e w' => (∃ a c, e = .returned (.tuple #[.agg #[.int .i64 m1, .int .u8 1, .slice a rs1.length c], .int .i64 (rs1.length : Nat), .int .i64 0]) ∧ RlsAt w' w'.heap.size (.slice a rs1.length c) rs1) ∧ Below w.heap.size w w' := by
  have hm1 := (valid_ok hv).1
  have em : ((m1.toNat : Nat) : Int) = m1 := by omega
  have e1 : ((1 : Nat) : Int) = 1 := rfl
  refine (Parse_yes (printS m1 1 rs1) m m1.toNat 1 rs1 w hT h0 (by have := print_len hv hl; omega) hm hg (read_print hv)).mono ?_
  rintro e w' ⟨hb, i, err, hc, h⟩
  rw [em, e1] at hc
  rcases hc.valid with ⟨h1, -, hi⟩ | ⟨-, h2⟩
  · rcases h with ⟨-, v, rfl, ho⟩ | ⟨h3, -⟩
    · obtain ⟨a, c, rfl, -, hx⟩ := ho.at
      rw [em, e1, hi]
      exact ⟨⟨a, c, rfl, hx⟩, hb⟩
    · rw [h1] at h3; cases h3
  · rw [hv] at h2; cases h2
theorem print_eq {m1 m2 : Int} {rs1 rs2 : List Rl} (h1 : validB m1 1 rs1 = true) (h2 : validB m2 1 rs2 = true) : ((B (printS m1 1 rs1)).toList == (B (printS m2 1 rs2)).toList) = sameB m1 1 rs1 m2 1 rs2 := by
  rw [str_eq]
  unfold sameB
  refine decide_eq_decide.2 ⟨fun h => ?_, fun h => by rw [h.1, h.2.2]⟩
  have e1 := read_print h1
  rw [h, read_print h2] at e1
  have a1 := (valid_ok h1).1
  have a2 := (valid_ok h2).1
  simp only [Option.some.injEq, Prod.mk.injEq, true_and, and_true] at e1
  exact ⟨by omega, rfl, e1.2.symm⟩
set_option maxHeartbeats 4000000 in
set_option maxRecDepth 100000 in
theorem Rounds_any (k d k2 d2 m : Int) (ma na : Option Addr) (mn mc nn nc : Nat) (w : World) (hT : StrTab w) (hP : PowTab w) (hm : MaxVar w m) (h0 : 0 < w.heap.size) (hg : 2 < w.heap.size)
    (hk : 0 ≤ k ∧ k ≤ 255) (hd : 0 ≤ d ∧ d ≤ 255) (hk2 : 0 ≤ k2 ∧ k2 ≤ 255) (hd2 : 0 ≤ d2 ∧ d2 ≤ 255) (hx : RawsAt w w.heap.size (.slice ma mn mc) mn) (hl : mn ≤ maxLen) (hy : RawsAt w w.heap.size (.slice na nn nc) nn) (hl2 : nn ≤ maxLen) :
    Calls Tryd.prog 4 #[.agg #[.int .u8 k, .int .u8 d, .slice ma mn mc], .agg #[.int .u8 k2, .int .u8 d2, .slice na nn nc]] w fun e w' => e = .returned (.bool true) ∧ Below w.heap.size w w' := by
  obtain ⟨k0, k1, hb⟩ := layT w k d k2 d2 (.slice ma mn mc) (.slice na nn nc)
  have HT := Lib.hid hT
  have HP := Lib.hid hP
  have HM := Lib.hid hm
  have H0 := Lib.hid h0
  have HG := Lib.hid hg
  have HX := Lib.hid hx
  have HY := Lib.hid hy
  have HL := Lib.hid (And.intro hl hl2)
  have HB1 := Lib.hid hb
  have RW1 := Lib.hid k0
  have RV1 := Lib.hid k1
  have CS := fun W (hb : Below w.heap.size w W) => Lib.hid (sanity_any m W (hT.below hb h0) (hP.below hb) (hm.below hg hb) (Nat.lt_of_lt_of_le h0 hb.size) (Nat.lt_of_lt_of_le hg hb.size))
  clear hT hP hm h0 hg hx hy hl hl2 hb k0 k1
  go_enter Tryd.func4, Tryd.ntmps4
  go_wp2_with fail
  generalize (w.alloc _).alloc _ = x1 at *
  refine ((CS x1 HB1.out).out).mono ?_
  rintro e x2 ⟨rfl, hb⟩
  have HB2 := Lib.hid (HB1.out.trans (hb.mono HB1.out.size))
  have RW2 := Lib.hid (RW1.out.below hb)
  have RV2 := Lib.hid (RV1.out.below hb)
  clear hb HB1 RW1 RV1 CS
  go_upto_region 2 with fail
  refine wp_normal ?_
  refine wp_region_inv 6 (by kernel_rfl) (by decide) (by kernel_rfl) (by kernel_rfl) (fun listed a W => ∃ β v6 v7 v13 v14 v15 v16, a = ({ tmps := #[.agg #[.int .u8 k, .int .u8 d, .slice ma mn mc], .agg #[.int .u8 k2, .int .u8 d2, .slice na nn nc], .pointer (some ⟨w.heap.size, 0, none⟩), .pointer (some ⟨w.heap.size + 1, 0, none⟩), .bool false, .bool true, v6, v7, undef, undef, undef, undef, .bool true, v13, v14, v15, v16, undef, undef, undef, undef, undef, undef, undef, undef, undef, undef, undef, undef, undef, undef, undef, undef, undef, undef, undef, undef, undef, undef, undef, undef, undef, undef, undef, undef, undef, undef, undef, undef, undef, undef, undef], defers := [] } : Act) ∧ JS x2 (.agg #[.int .u8 k, .int .u8 d, .slice ma mn mc]) (.agg #[.int .u8 k2, .int .u8 d2, .slice na nn nc]) (fun j => listed.getD j false = true) W β v6 v7 v13 v14 v15 v16) ?_ ?_ ?_
  · exact ⟨fun _ => 0, undef, undef, undef, undef, undef, undef, rfl, (Below.refl _ _).drew, fun h => (none_listed h).elim, fun h => (none_listed h).elim, fun _ _ h => (none_listed h).elim, fun _ _ _ _ h => (none_listed h).elim, fun h => (none_listed h).elim, fun h => (none_listed h).elim, fun h => (none_listed h).elim, fun h => (none_listed h).elim⟩
  · rintro listed a W i ⟨β, v6, v7, v13, v14, v15, v16, rfl, hJ⟩ hr hi
    have hbw := hJ.below
    have HBW := HB2.out.trans (hbw.mono HB2.out.size)
    obtain ⟨r0, r1, r2⟩ := (RW2.out.below hbw).cells
    obtain ⟨q0, q1, q2⟩ := (RV2.out.below hbw).cells
    rcases (show i = 0 ∨ i = 1 ∨ i = 2 ∨ i = 3 ∨ i = 4 ∨ i = 5 by omega) with rfl | rfl | rfl | rfl | rfl | rfl
    · exact wpOp_value (.agg #[.int .u8 k, .int .u8 d, .slice ma mn mc]) rfl rfl (by go_simp) ⟨β, v6, v7, _, v14, v15, v16, rfl, hJ.val0 fun j h => listed_set h⟩
    · have hd0 := ready_dep hr rfl (k := 0) (by kernel_rfl)
      obtain rfl := hJ.l0 hd0
      refine wpOp_call 16 #[.agg #[.int .u8 k, .int .u8 d, .slice ma mn mc]] rfl rfl (by go_simp) (Made_any k d ma mn mc W hk hd (HX.out.on HBW) HL.out.1) ?_
      rintro e W' ⟨⟨mm, b0, off, c, rs, rfl, hf, hv⟩, hb⟩
      exact ⟨_, rfl, _, v6, v7, _, _, v15, v16, rfl, hJ.new1 b0 _ (fun j h => listed_set h) hb hf.1 ⟨mm, off, c, rs, rfl, hf.base hbw.size, hv⟩⟩
    · exact wpOp_value (.agg #[.int .u8 k2, .int .u8 d2, .slice na nn nc]) rfl rfl (by go_simp) ⟨β, v6, v7, v13, v14, _, v16, rfl, hJ.val2 fun j h => listed_set h⟩
    · have hd0 := ready_dep hr rfl (k := 2) (by kernel_rfl)
      obtain rfl := hJ.l2 hd0
      refine wpOp_call 16 #[.agg #[.int .u8 k2, .int .u8 d2, .slice na nn nc]] rfl rfl (by go_simp) (Made_any k2 d2 na nn nc W hk2 hd2 (HY.out.on HBW) HL.out.2) ?_
      rintro e W' ⟨⟨mm, b0, off, c, rs, rfl, hf, hv⟩, hb⟩
      exact ⟨_, rfl, _, v6, v7, v13, v14, _, _, rfl, hJ.new3 b0 _ (fun j h => listed_set h) hb hf.1 ⟨mm, off, c, rs, rfl, hf.base hbw.size, hv⟩⟩
    · exact wpOp_value (.pointer (some ⟨W.heap.size, 0, none⟩)) rfl rfl (by go_simp) ⟨_, _, v7, v13, v14, v15, v16, rfl, hJ.new4 fun j h => listed_set h⟩
    · exact wpOp_value (.pointer (some ⟨W.heap.size, 0, none⟩)) rfl rfl (by go_simp) ⟨_, v6, _, v13, v14, v15, v16, rfl, hJ.new5 fun j h => listed_set h⟩
  rintro listed a W ⟨β, v6, v7, v13, v14, v15, v16, rfl, hJ⟩ hall
  obtain ⟨rfl, s6⟩ := hJ.l4 (hall 4 (by decide))
  obtain ⟨rfl, s7⟩ := hJ.l5 (hall 5 (by decide))
  obtain ⟨m1, o1, c1, rs1, rfl, f1, hv1, hl1⟩ := hJ.l1 (hall 1 (by decide))
  obtain ⟨m2, o2, c2, rs2, rfl, f2, hv2, hl2⟩ := hJ.l3 (hall 3 (by decide))
  simp only [List.drop_succ_cons, List.drop_zero]
  have hbw := Lib.hid hJ.below
  have n45 := hJ.ne 4 5 (by unfold EE; omega) (by unfold EE; omega) (hall 4 (by decide)) (hall 5 (by decide)) (by decide)
  have n14 := hJ.ne 1 4 (by unfold EE; omega) (by unfold EE; omega) (hall 1 (by decide)) (hall 4 (by decide)) (by decide)
  have n15 := hJ.ne 1 5 (by unfold EE; omega) (by unfold EE; omega) (hall 1 (by decide)) (hall 5 (by decide)) (by decide)
  have n34 := hJ.ne 3 4 (by unfold EE; omega) (by unfold EE; omega) (hall 3 (by decide)) (hall 4 (by decide)) (by decide)
  have n35 := hJ.ne 3 5 (by unfold EE; omega) (by unfold EE; omega) (hall 3 (by decide)) (hall 5 (by decide)) (by decide)
  have b4 := hJ.bd 4 (by unfold EE; omega) (hall 4 (by decide))
  have b5 := hJ.bd 5 (by unfold EE; omega) (hall 5 (by decide))
  have S6 := s6
  have S7 := Lib.hid s7
  have F1 := Lib.hid f1
  have F2 := Lib.hid f2
  have V1 := Lib.hid hv1
  have V2 := Lib.hid hv2
  have L1 := Lib.hid hl1
  have L2 := Lib.hid hl2
  clear hJ hall s6 s7 f1 f2 hv1 hv2 hl1 hl2
  generalize β 1 = g1 at *
  generalize β 3 = g3 at *
  generalize β 4 = g4 at *
  generalize β 5 = g5 at *
  have HB3 := Lib.hid (HB2.out.trans (hbw.out.mono HB2.out.size))
  have hw2 := HB2.out.size
  clear hbw HB2 RW2 RV2 HX HY HL
  go_wp2_with (first | (refine wpList_store_sch rfl _ _ rfl _ _ _ _ S6 rfl _ _ _ _ _ rfl ?_; intro W6 T6 hg6 hs6; have S7' := S7.out.kept hg6 (by simp; omega); clear S6 S7) | (refine wpList_store_sch rfl _ _ rfl _ _ _ _ S7' rfl _ _ _ _ _ rfl ?_; intro W7 T7 hg7 hs7; clear S7'; have U6 := T6.kept hg7 (by simp; omega); obtain ⟨t0, t1, t2⟩ := U6.cells))
  have g1lt := F1.out.2.1
  have g3lt := F2.out.2.1
  have sz6 := hg6.size
  have HB7 := Lib.hid ((HB3.out.grown hg6 HB3.out.size (by simp; omega)).grown hg7 (by have := HB3.out.size; omega) (by simp; omega))
  have F17 := Lib.hid ((F1.out.keep1 hg6.size (hg6.block g1 g1lt (by simp; omega))).keep1 hg7.size (hg7.block g1 (by omega) (by simp; omega)))
  have F27 := Lib.hid ((F2.out.keep1 hg6.size (hg6.block g3 g3lt (by simp; omega))).keep1 hg7.size (hg7.block g3 (by omega) (by simp; omega)))
  have S4 := Lib.hid U6
  have S5 := Lib.hid T7
  clear F1 F2 HB3 hg6 hg7 hs6 hs7 U6 T6 T7 sz6 g1lt g3lt n45 n14 n15 n34 n35 b4 b5
  have M1 := Lib.hid (short_rules V1.out)
  have M2 := Lib.hid (short_rules V2.out)
  have PR1 := fun W (hb : Below W7.heap.size W7 W) => Lib.hid (Print_any m1 1 (some ⟨g1, o1, none⟩) c1 rs1 W (HT.out.below (HB7.out.trans (Below.mono hb HB7.out.size)) H0.out) (HP.out.below (HB7.out.trans (Below.mono hb HB7.out.size))) (Nat.lt_of_lt_of_le H0.out (HB7.out.trans (Below.mono hb HB7.out.size)).size) (F17.out.at.2.on hb) F17.out.at.1 (by have := L1.out.2.1; unfold maxLen; omega) M1.out (by have := L1.out.2.2; omega) (by have := L1.out.2.2; omega) (by decide) (by decide) V1.out)
  have PR2 := fun W (hb : Below W7.heap.size W7 W) => Lib.hid (Print_any m2 1 (some ⟨g3, o2, none⟩) c2 rs2 W (HT.out.below (HB7.out.trans (Below.mono hb HB7.out.size)) H0.out) (HP.out.below (HB7.out.trans (Below.mono hb HB7.out.size))) (Nat.lt_of_lt_of_le H0.out (HB7.out.trans (Below.mono hb HB7.out.size)).size) (F27.out.at.2.on hb) F27.out.at.1 (by have := L2.out.2.1; unfold maxLen; omega) M2.out (by have := L2.out.2.2; omega) (by have := L2.out.2.2; omega) (by decide) (by decide) V2.out)
  have PM := fun W (hb : Below W7.heap.size W7 W) => Lib.hid (parse_made V1.out L1.out.2.1 m W (HT.out.below (HB7.out.trans (Below.mono hb HB7.out.size)) H0.out) (Nat.lt_of_lt_of_le H0.out (HB7.out.trans (Below.mono hb HB7.out.size)).size) (HM.out.below HG.out (HB7.out.trans (Below.mono hb HB7.out.size))) (Nat.lt_of_lt_of_le HG.out (HB7.out.trans (Below.mono hb HB7.out.size)).size))
  have hE := Lib.hid (print_eq V1.out V2.out)
  refine ((PR1 W7 (Below.refl _ _)).out).mono ?_
  rintro e x8 ⟨rfl, hb8⟩
  have HB8 := Lib.hid hb8
  clear t0 t1 t2 hb8
  go_wp2_with fail
  refine ((PM x8 HB8.out).out).mono ?_
  rintro e x9 ⟨⟨a9, c9, rfl, hx9⟩, hb9⟩
  have HB9 := Lib.hid (HB8.out.trans (hb9.mono HB8.out.size))
  have HX9 := Lib.hid hx9
  clear hb9 hx9 HB8 PM PR1
  have al := (Below.refl x9.heap.size x9).alloc (Nat.le_refl _) (.cells #[.int .i64 m1, .int .u8 1, .slice a9 rs1.length c9] 24)
  have S9 := Lib.hid (SchBlock.new x9 (.int .i64 m1) (.int .u8 1) (.slice a9 rs1.length c9))
  have HB10 := Lib.hid (HB9.out.trans (al.mono HB9.out.size))
  have HX10 := Lib.hid (HX9.out.on al)
  clear al HB9 HX9
  go_upto_region 5 with fail
  have hw9 : Below W7.heap.size W7 (x9.alloc (.cells #[.int .i64 m1, .int .u8 1, .slice a9 rs1.length c9] 24)) := HB10.out
  generalize x9.heap.size = g9 at *
  generalize x9.alloc _ = x10 at *
  have FW := Lib.hid (show ∀ W, Below x10.heap.size x10 W → W.cell? ⟨g4, 0, none⟩ = some (.int .i64 m1) ∧ W.cell? ⟨g4, 1, none⟩ = some (.int .u8 1) ∧ W.cell? ⟨g4, 2, none⟩ = some (.slice (some ⟨g1, o1, none⟩) rs1.length c1) ∧ W.cell? ⟨g5, 0, none⟩ = some (.int .i64 m2) ∧ W.cell? ⟨g5, 1, none⟩ = some (.int .u8 1) ∧ W.cell? ⟨g5, 2, none⟩ = some (.slice (some ⟨g3, o2, none⟩) rs2.length c2) ∧ W.cell? ⟨g9, 0, none⟩ = some (.int .i64 m1) ∧ W.cell? ⟨g9, 1, none⟩ = some (.int .u8 1) ∧ W.cell? ⟨g9, 2, none⟩ = some (.slice a9 rs1.length c9) from fun W h => by
    obtain ⟨e0, e1, e2⟩ := ((S4.out.below hw9).below h).cells
    obtain ⟨e3, e4, e5⟩ := ((S5.out.below hw9).below h).cells
    obtain ⟨e6, e7, e8⟩ := (S9.out.below h).cells
    exact ⟨e0, e1, e2, e3, e4, e5, e6, e7, e8⟩)
  have Y1 := Lib.hid (F17.out.at.2.on hw9)
  have Y2 := Lib.hid (F27.out.at.2.on hw9)
  have hsame : sameB m1 1 rs1 m1 1 rs1 = true := by unfold sameB; simp
  have C1 : ∀ W, Below x10.heap.size x10 W → Calls Tryd.prog 23 #[.agg #[.int .i64 m1, .int .u8 1, .slice a9 rs1.length c9], .agg #[.int .i64 m1, .int .u8 1, .slice (some ⟨g1, o1, none⟩) rs1.length c1]] W fun e w' => e = .returned (.bool true) ∧ Below x10.heap.size x10 w' := fun W h => (Same_any m1 1 m1 1 rs1 rs1 a9 (some ⟨g1, o1, none⟩) c9 c1 W (HX10.out.on h) (Y1.out.on h) (by have := L1.out.2.1; unfold maxLen; omega)).mono fun e w' h' => ⟨by rw [← hsame]; exact h'.1, h.trans (h'.2.mono h.size)⟩
  have C2 : ∀ W, Below x10.heap.size x10 W → Calls Tryd.prog 20 #[.agg #[.int .i64 m2, .int .u8 1, .slice (some ⟨g3, o2, none⟩) rs2.length c2]] W fun e w' => e = .returned (.string (B (printS m2 1 rs2))) ∧ Below x10.heap.size x10 w' := fun W h => ((PR2 W (hw9.trans (h.mono hw9.size))).out).mono fun e w' h' => ⟨h'.1, h.trans (h'.2.mono h.size)⟩
  have C3 : ∀ W, Below x10.heap.size x10 W → Calls Tryd.prog 23 #[.agg #[.int .i64 m1, .int .u8 1, .slice (some ⟨g1, o1, none⟩) rs1.length c1], .agg #[.int .i64 m2, .int .u8 1, .slice (some ⟨g3, o2, none⟩) rs2.length c2]] W fun e w' => e = .returned (.bool (sameB m1 1 rs1 m2 1 rs2)) ∧ Below x10.heap.size x10 w' := fun W h => (Same_any m1 1 m2 1 rs1 rs2 (some ⟨g1, o1, none⟩) (some ⟨g3, o2, none⟩) c1 c2 W (Y1.out.on h) (Y2.out.on h) (by have := L1.out.2.1; unfold maxLen; omega)).mono fun e w' h' => ⟨h'.1, h.trans (h'.2.mono h.size)⟩
  have HB11 := Lib.hid (HB7.out.trans (hw9.mono HB7.out.size))
  clear hw9 hsame S4 S5 S9 HB7 HB10 F17 F27 PR2 HX10 M1 M2 Y1 Y2
  have hEE := hE.out
  clear hE
  generalize sameB m1 1 rs1 m2 1 rs2 = bb at *
  generalize printS m1 1 rs1 = p1 at *
  generalize printS m2 1 rs2 = p2 at *
  refine wp_region_class (C := fun W => Below x10.heap.size x10 W) (by kernel_rfl) (by kernel_rfl) (Below.refl _ _).drew ?_
  repeat (first | go_big_quiet_skip | (go_big_quiet_want; first | (go_big_quiet_op; go_big_quiet_on) | (refine quiet_value ?_ (fun W h => ?_) ?_; rotate_left; (· obtain ⟨f0, f1, f2, f3, f4, f5, f6, f7, f8⟩ := FW.out W h; go_simp; rfl); go_simp; go_big_quiet_on) | (refine quiet_call _ _ _ (fun W => ?_) C1 ?_; (· go_simp; done); go_simp; go_big_quiet_on) | (refine quiet_call _ _ _ (fun W => ?_) C2 ?_; (· go_simp; done); go_simp; go_big_quiet_on) | (refine quiet_call _ _ _ (fun W => ?_) C3 ?_; (· go_simp; done); go_simp; go_big_quiet_on)))
  refine wpQuiet_nil ?_
  intro x11 hcj
  have HB12 := Lib.hid (HB11.out.trans (Below.mono hcj HB11.out.size))
  clear hcj C1 C2 C3
  go_wp2_with fail
  go_ret
  exact ⟨ret_bool (by simp [*]), HB12.out⟩
end Go.Proofs.YtnbiedijofdjhaaDoor
