/-
  SchemeLimits: the walk.
-/
import Derived.Test.YtnbiedijofdjhaaDoorSZ
import Derived.Deep.DeepCutAuto
import Derived.Deep.AppendLies
namespace Go.Proofs.YtnbiedijofdjhaaDoor
open Go.RowKit
open Pl

def ArBlock (W : World) (b : Nat) (a0 a1 a2 a3 a4 : Int) : Prop := W.heap[b]? = some (.cells #[.int .i8 a0, .int .i8 a1, .int .i8 a2, .int .i8 a3, .int .i8 a4] 51 (0, 0))
theorem ArBlock.below {W W' : World} {b : Nat} {a0 a1 a2 a3 a4 : Int} (h : ArBlock W b a0 a1 a2 a3 a4) (hb : Below W.heap.size W W') : ArBlock W' b a0 a1 a2 a3 a4 := by
  have hlt := lt_of_heap h
  unfold ArBlock at h ⊢; rw [hb.block b hlt]; exact h
theorem ArBlock.cells {W : World} {b : Nat} {a0 a1 a2 a3 a4 : Int} (h : ArBlock W b a0 a1 a2 a3 a4) : W.cell? ⟨b, 0, none⟩ = some (.int .i8 a0) ∧ W.cell? ⟨b, 1, none⟩ = some (.int .i8 a1) ∧ W.cell? ⟨b, 2, none⟩ = some (.int .i8 a2) ∧ W.cell? ⟨b, 3, none⟩ = some (.int .i8 a3) ∧ W.cell? ⟨b, 4, none⟩ = some (.int .i8 a4) := by
  unfold ArBlock at h
  refine ⟨?_, ?_, ?_, ?_, ?_⟩ <;> simp [World.cell?, h]
theorem extract_B (l : List UInt8) (k : Nat) : (B l).extract 0 k = B (l.take k) := by
  rw [← B_toList ((B l).extract 0 k), Lib.extract_from_zero, toList_B]
theorem frame_no {a x : Int} (h : ¬ (1 ≤ a ∧ a ≤ 8 ∧ 1 ≤ x)) : frameB a x 0 = false := by
  cases e : frameB a x 0 with
  | false => rfl
  | true =>
    unfold frameB at e
    simp only [Bool.and_eq_true, decide_eq_true_eq] at e
    exact absurd ⟨e.1, e.2.1, e.2.2.1⟩ h
theorem frame_is {a x : Int} (h1 : 1 ≤ a) (h2 : a ≤ 8) (h3 : 1 ≤ x) : frameB a x 0 = decide (x < 2 ^ a.toNat) := by
  unfold frameB
  rw [decide_eq_true h1, decide_eq_true h2, decide_eq_true h3]; simp
theorem pow_wrap {j : Int} (h0 : 1 ≤ j) (h1 : j ≤ 8) : wrap64 (2 ^ (max j 0).toNat) = 2 ^ j.toNat := by
  rcases (show j = 1 ∨ j = 2 ∨ j = 3 ∨ j = 4 ∨ j = 5 ∨ j = 6 ∨ j = 7 ∨ j = 8 by omega) with rfl | rfl | rfl | rfl | rfl | rfl | rfl | rfl
  · rw [show (max (1:Int) 0).toNat = 1 by omega, show Int.toNat 1 = 1 from rfl]; simp [wrap64]
  · rw [show (max (2:Int) 0).toNat = 2 by omega, show Int.toNat 2 = 2 from rfl]; simp [wrap64]
  · rw [show (max (3:Int) 0).toNat = 3 by omega, show Int.toNat 3 = 3 from rfl]; simp [wrap64]
  · rw [show (max (4:Int) 0).toNat = 4 by omega, show Int.toNat 4 = 4 from rfl]; simp [wrap64]
  · rw [show (max (5:Int) 0).toNat = 5 by omega, show Int.toNat 5 = 5 from rfl]; simp [wrap64]
  · rw [show (max (6:Int) 0).toNat = 6 by omega, show Int.toNat 6 = 6 from rfl]; simp [wrap64]
  · rw [show (max (7:Int) 0).toNat = 7 by omega, show Int.toNat 7 = 7 from rfl]; simp [wrap64]
  · rw [show (max (8:Int) 0).toNat = 8 by omega, show Int.toNat 8 = 8 from rfl]; simp [wrap64]
theorem valid_nil (m a : Int) : validB m a [] = frameB m a 0 := by unfold validB; simp
theorem frame_one (m a : Int) : frameB m a 1 = frameB m a 0 := by unfold frameB; simp
/-- The single rule of the law. -/
theorem valid_one {m a c : Int} {li lo : List UInt8} (hi : onlyB 1 li = true) (ho : onlyB 7 lo = true) : validB m a [⟨0, 0, li, lo, c⟩] = (frameB m a 0 && (decide (((B li).size : Int) ≤ 4) && (decide (((B lo).size : Int) ≤ 4) && (decide (0 ≤ c) && decide (c ≤ 1000))))) := by
  unfold validB
  rw [show [(⟨0, 0, li, lo, c⟩ : Rl)].length = 1 from rfl, frame_one]
  cases hf : frameB m a 0 with
  | false => rfl
  | true =>
    have h1 : 1 ≤ m := by
      unfold frameB at hf
      simp only [Bool.and_eq_true, decide_eq_true_eq] at hf
      exact hf.1
    have hm : modeB m 0 = true := by unfold modeB; rw [decide_eq_true (Int.le_refl 0), decide_eq_true (by omega : (0 : Int) < m)]; rfl
    rw [show List.range 1 = [0] from rfl, List.all_cons, List.all_nil, Bool.and_true, rightAt_get m _ 0 (by simp)]
    unfold rightB
    simp only [List.getElem_cons_zero, hm, hi, ho, List.take_zero, List.not_mem_nil, decide_false, Bool.not_false, Bool.and_true, Bool.true_and]
/-- The rules of the law's last scheme. -/
def rsK (n : Nat) : List Rl := (List.range n).map fun j => ⟨0, 0, [97], [], (j : Nat)⟩
theorem rsK_len (n : Nat) : (rsK n).length = n := by simp [rsK]
theorem rsK_succ (n : Nat) : rsK (n + 1) = rsK n ++ [⟨0, 0, [97], [], (n : Nat)⟩] := by simp [rsK, List.range_succ]
theorem rsK_get (n k : Nat) (h : k < (rsK n).length) : (rsK n)[k] = ⟨0, 0, [97], [], (k : Nat)⟩ := by simp [rsK]
theorem rsK_right (n k : Nat) (h : k < n) (hn : n ≤ 64) : rightAt 1 (rsK n) k = true := by
  rw [rightAt_get 1 _ k (by rw [rsK_len]; exact h), rsK_get]
  have hno : (⟨0, 0, [97], [], (k : Nat)⟩ : Rl) ∉ (rsK n).take k := by
    intro hm
    obtain ⟨j, hj, he⟩ := List.getElem_of_mem hm
    rw [List.getElem_take, rsK_get] at he
    have hj' : j < k := by rw [List.length_take] at hj; omega
    have := congrArg Rl.cost he
    simp at this
    omega
  unfold rightB
  rw [decide_eq_false hno, show modeB 1 0 = true from rfl, show onlyB 1 [97] = true from rfl, show onlyB 7 [] = true from rfl, show decide (((B [97]).size : Int) ≤ 4) = true from rfl, show decide (((B []).size : Int) ≤ 4) = true from rfl, decide_eq_true (by omega : (0 : Int) ≤ (k : Nat)), decide_eq_true (by omega : ((k : Nat) : Int) ≤ 1000)]
  rfl
theorem rsK_valid (n : Nat) : validB 1 1 (rsK n) = decide (n ≤ 64) := by
  unfold validB
  rw [rsK_len]
  by_cases h : n ≤ 64
  · rw [decide_eq_true h]
    have h1 : (List.range n).all (rightAt 1 (rsK n)) = true := List.all_eq_true.2 fun k hk => rsK_right n k (List.mem_range.1 hk) h
    rw [h1]
    unfold frameB
    rw [decide_eq_true h]; rfl
  · rw [decide_eq_false h]
    unfold frameB
    rw [decide_eq_false h]; simp
theorem only_take {k : Nat} {l : List UInt8} (h : onlyB k l = true) (i : Nat) : onlyB k (l.take i) = true := by
  unfold onlyB at h ⊢
  exact List.all_eq_true.2 fun x hx => List.all_eq_true.1 h x (List.mem_of_mem_take hx)
theorem RlBlock.setCell {W : World} {b b' o : Nat} {r : Rl} {u : Value} (h : RlBlock W b r) (hne : b' ≠ b) : RlBlock (W.setCell ⟨b', o, none⟩ u) b r := by
  unfold RlBlock at h ⊢
  simp only [World.setCell, Array.getElem?_modify, if_neg hne]; exact h
theorem u8_wrap (a : Int) : IntKind.u8.wrap a = a % 256 := rfl
set_option maxHeartbeats 1000000 in
set_option maxRecDepth 100000 in
theorem Limits_any (a0 a1 a2 a3 a4 c m : Int) (w : World) (hT : StrTab w) (hP : PowTab w) (hm : MaxVar w m) (h0 : 0 < w.heap.size) (hg : 2 < w.heap.size)
    (ha0 : -128 ≤ a0 ∧ a0 ≤ 127) (hc : -32768 ≤ c ∧ c ≤ 32767) :
    Calls Tryd.prog 7 #[.agg #[.int .i8 a0, .int .i8 a1, .int .i8 a2, .int .i8 a3, .int .i8 a4], .int .i16 c] w fun e w' => e = .returned (.bool true) ∧ Below w.heap.size w w' := by
  have HT := Lib.hid hT
  have HP := Lib.hid hP
  have HM := Lib.hid hm
  have H0 := Lib.hid h0
  have HG := Lib.hid hg
  clear hT hP hm h0 hg
  go_enter Tryd.func7, Tryd.ntmps7
  have AB0 := Lib.hid (show ArBlock (w.alloc (.cells #[.int .i8 a0, .int .i8 a1, .int .i8 a2, .int .i8 a3, .int .i8 a4] 51)) w.heap.size a0 a1 a2 a3 a4 from heap_alloc_new w _)
  have hb : Below w.heap.size w (w.alloc (.cells #[.int .i8 a0, .int .i8 a1, .int .i8 a2, .int .i8 a3, .int .i8 a4] 51)) := (Below.refl _ _).alloc (Nat.le_refl _) _
  have HB0 := Lib.hid hb
  clear hb
  go_wp2_with fail
  generalize w.alloc _ = w1 at *
  refine (sanity_any m w1 (HT.out.below HB0.out H0.out) (HP.out.below HB0.out) (HM.out.below HG.out HB0.out) (Nat.lt_of_lt_of_le H0.out HB0.out.size) (Nat.lt_of_lt_of_le HG.out HB0.out.size)).mono ?_
  rintro e x1 ⟨rfl, hb⟩
  have HB1 := Lib.hid (HB0.out.trans (hb.mono HB0.out.size))
  have AB1 := Lib.hid (AB0.out.below hb)
  clear hb HB0 AB0
  obtain ⟨s0, s1, s2, s3, s4⟩ := AB1.out.cells
  have hwm : IntKind.i64.wrap a0 = a0 := IntWalk.i64_in _ (by omega)
  have hwc : IntKind.i64.wrap c = c := IntWalk.i64_in _ (by omega)
  obtain ⟨acc, hacc, hac⟩ : ∃ x, IntKind.u8.wrap a1 = x ∧ 0 ≤ x ∧ x ≤ 255 := ⟨_, rfl, by rw [u8_wrap]; omega, by rw [u8_wrap]; omega⟩
  obtain ⟨b2, hb2, n, hn, hn7⟩ : ∃ x, IntKind.u8.wrap a2 = x ∧ ∃ n : Nat, x.tmod 67 = (n : Int) ∧ n < 67 := ⟨_, rfl, ((IntKind.u8.wrap a2).tmod 67).toNat, by rw [u8_wrap, Int.tmod_eq_emod_of_nonneg (by omega)]; omega, by rw [u8_wrap, Int.tmod_eq_emod_of_nonneg (by omega)]; omega⟩
  obtain ⟨b3, hb3, i, hi, hi7⟩ : ∃ x, IntKind.u8.wrap a3 = x ∧ ∃ n : Nat, x.tmod 7 = (n : Int) ∧ n < 7 := ⟨_, rfl, ((IntKind.u8.wrap a3).tmod 7).toNat, by rw [u8_wrap, Int.tmod_eq_emod_of_nonneg (by omega)]; omega, by rw [u8_wrap, Int.tmod_eq_emod_of_nonneg (by omega)]; omega⟩
  obtain ⟨b4, hb4, o, ho, ho7⟩ : ∃ x, IntKind.u8.wrap a4 = x ∧ ∃ n : Nat, x.tmod 7 = (n : Int) ∧ n < 7 := ⟨_, rfl, ((IntKind.u8.wrap a4).tmod 7).toNat, by rw [u8_wrap, Int.tmod_eq_emod_of_nonneg (by omega)]; omega, by rw [u8_wrap, Int.tmod_eq_emod_of_nonneg (by omega)]; omega⟩
  have hwn : IntKind.i64.wrap (n : Int) = (n : Int) := IntWalk.i64_in _ (by omega)
  have hi0 : (0 : Int) ≤ (i : Int) ∧ (i : Int) ≤ 6 := by omega
  have ho0 : (0 : Int) ≤ (o : Int) ∧ (o : Int) ≤ 6 := by omega
  go_upto_region 2 with fail
  go_quiet (fail)
  have HB2 := Lib.hid (below_drewN HB1.out nq)
  have AB2 := Lib.hid (show ArBlock (x1.drewN nq) w.heap.size a0 a1 a2 a3 a4 from AB1.out.below (below_drewN (Below.refl _ _) nq))
  clear s0 s1 s2 s3 s4 HB1 AB1
  generalize x1.drewN nq = x2 at *
  obtain ⟨s0, s1, s2, s3, s4⟩ := AB2.out.cells
  go_upto_region 3 with fail
  go_quiet (fail)
  have HB3 := Lib.hid (below_drewN HB2.out nq)
  rw [show (⟨#[97, 97, 97, 97, 97, 97]⟩ : ByteArray).extract 0 i = B ([97, 97, 97, 97, 97, 97].take i) from extract_B [97, 97, 97, 97, 97, 97] i, show (⟨#[90, 57, 122, 90, 57, 122]⟩ : ByteArray).extract 0 o = B ([90, 57, 122, 90, 57, 122].take o) from extract_B [90, 57, 122, 90, 57, 122] o]
  obtain ⟨li, hli⟩ : ∃ l, l = ([97, 97, 97, 97, 97, 97] : List UInt8).take i := ⟨_, rfl⟩
  obtain ⟨lo, hlo⟩ : ∃ l, l = ([90, 57, 122, 90, 57, 122] : List UInt8).take o := ⟨_, rfl⟩
  rw [← hli, ← hlo]
  have HLI := Lib.hid hli
  have HLO := Lib.hid hlo
  clear s0 s1 s2 s3 s4 HB2 AB2 hli hlo
  generalize x2.drewN nq = x3 at *
  have hb4 : Below x3.heap.size x3 (x3.alloc (.cells #[.int .i64 a0, .int .u8 acc, .slice none 0 0] 24)) := (Below.refl _ _).alloc (Nat.le_refl _) _
  have KB := Lib.hid HB3.out.size
  have SB4 := Lib.hid (SchBlock.new x3 (.int .i64 a0) (.int .u8 acc) (.slice none 0 0))
  have HB4 := Lib.hid (HB3.out.trans (hb4.mono HB3.out.size))
  clear hb4
  go_upto_region 5 with fail
  generalize x3.alloc _ = x4 at *
  generalize x3.heap.size = k4 at *
  go_cut [12] (fun s12 wx => s12 = .bool (frameB a0 acc 0) ∧ wx = x4)
  case first =>
    by_cases h1 : 1 ≤ a0
    · by_cases h8 : a0 ≤ 8
      · by_cases hp : 0 < acc
        · rcases (show a0 = 1 ∨ a0 = 2 ∨ a0 = 3 ∨ a0 = 4 ∨ a0 = 5 ∨ a0 = 6 ∨ a0 = 7 ∨ a0 = 8 by omega) with rfl | rfl | rfl | rfl | rfl | rfl | rfl | rfl
          · go_wp2_with fail
            go_meet
            exact ⟨congrArg Value.bool (by rw [frame_is (by omega) (by omega) (by omega), pow_wrap (by omega) (by omega)]), rfl⟩
          · go_wp2_with fail
            go_meet
            exact ⟨congrArg Value.bool (by rw [frame_is (by omega) (by omega) (by omega), pow_wrap (by omega) (by omega)]), rfl⟩
          · go_wp2_with fail
            go_meet
            exact ⟨congrArg Value.bool (by rw [frame_is (by omega) (by omega) (by omega), pow_wrap (by omega) (by omega)]), rfl⟩
          · go_wp2_with fail
            go_meet
            exact ⟨congrArg Value.bool (by rw [frame_is (by omega) (by omega) (by omega), pow_wrap (by omega) (by omega)]), rfl⟩
          · go_wp2_with fail
            go_meet
            exact ⟨congrArg Value.bool (by rw [frame_is (by omega) (by omega) (by omega), pow_wrap (by omega) (by omega)]), rfl⟩
          · go_wp2_with fail
            go_meet
            exact ⟨congrArg Value.bool (by rw [frame_is (by omega) (by omega) (by omega), pow_wrap (by omega) (by omega)]), rfl⟩
          · go_wp2_with fail
            go_meet
            exact ⟨congrArg Value.bool (by rw [frame_is (by omega) (by omega) (by omega), pow_wrap (by omega) (by omega)]), rfl⟩
          · go_wp2_with fail
            go_meet
            exact ⟨congrArg Value.bool (by rw [frame_is (by omega) (by omega) (by omega)]; exact (decide_eq_true (show acc < 2 ^ (8 : Int).toNat by have : (2 : Int) ^ (8 : Int).toNat = 256 := rfl; omega)).symm), rfl⟩
        · go_wp2_with fail
          go_meet
          exact ⟨congrArg Value.bool (frame_no (by omega)).symm, rfl⟩
      · go_wp2_with fail
        go_meet
        exact ⟨congrArg Value.bool (frame_no (by omega)).symm, rfl⟩
    · go_wp2_with fail
      go_meet
      exact ⟨congrArg Value.bool (frame_no (by omega)).symm, rfl⟩
  case rest =>
    obtain ⟨rfl, rfl⟩ := hcut
    have hbb : (frameB a0 acc 0 != frameB a0 acc 0) = false := by simp
    have CV := Lib.hid (Valid_any a0 acc none 0 [] wc (HT.out.below HB4.out H0.out) (Nat.lt_of_lt_of_le H0.out HB4.out.size) (rlsAt_nil wc) (Nat.le_refl _) (by decide) (by decide) (by omega) (by omega) (by omega) (by omega))
    rw [valid_nil] at CV
    obtain ⟨s0, s1, s2⟩ := SB4.out.cells
    go_wp2_with fail
    refine (CV.out).mono ?_
    rintro e x5 ⟨rfl, hb⟩
    have HB5 := Lib.hid (HB4.out.trans (hb.mono HB4.out.size))
    have SB5 := SB4.out.below hb
    have hk4 := SB5.lt
    have zf := SB5.free
    obtain ⟨q0, q1, q2⟩ := SB5.cells
    have es : (x5.setCell ⟨k4, 2, none⟩ (.slice (some ⟨x5.heap.size, 0, none⟩) 1 1)).heap.size = x5.heap.size := by simp
    have RB7 : RlBlock ((x5.setCell ⟨k4, 2, none⟩ (.slice (some ⟨x5.heap.size, 0, none⟩) 1 1)).alloc (.cells #[.int .i64 0, .int .i64 0, .string (B li), .string (B lo), .int .i64 c] 29)) x5.heap.size ⟨0, 0, li, lo, c⟩ := by
      have := rl_new (x5.setCell ⟨k4, 2, none⟩ (.slice (some ⟨x5.heap.size, 0, none⟩) 1 1)) ⟨0, 0, li, lo, c⟩ _ rfl
      rwa [es] at this
    have RB7 := Lib.hid RB7
    have SB7 := Lib.hid ((SB5.put2 (v := .slice (some ⟨x5.heap.size, 0, none⟩) 1 1)).alloc (.cells #[.int .i64 0, .int .i64 0, .string (B li), .string (B lo), .int .i64 c] 29))
    have HB7 := Lib.hid ((HB5.out.setCell (p := ⟨k4, 2, none⟩) (KB.out) (.slice (some ⟨x5.heap.size, 0, none⟩) 1 1)).alloc (by rw [es]; exact HB5.out.size) (.cells #[.int .i64 0, .int .i64 0, .string (B li), .string (B lo), .int .i64 c] 29))
    clear s0 s1 s2 hb CV SB4 HB4 SB5 es
    have HO1 : onlyB 1 li = true := by rw [HLI.out]; exact only_take rfl i
    have HO7 : onlyB 7 lo = true := by rw [HLO.out]; exact only_take rfl o
    have EV := Lib.hid (valid_one (m := a0) (a := acc) (c := c) HO1 HO7)
    have HZ := Lib.hid (show ∀ x ∈ [(⟨0, 0, li, lo, c⟩ : Rl)], x.inp.length ≤ maxLen ∧ x.out.length ≤ maxLen by
      intro x hx
      obtain rfl := List.mem_singleton.1 hx
      have h1 : li.length ≤ 6 := by rw [HLI.out, List.length_take]; simp; omega
      have h2 : lo.length ≤ 6 := by rw [HLO.out, List.length_take]; simp; omega
      unfold maxLen
      exact ⟨by dsimp only; omega, by dsimp only; omega⟩)
    clear HB5 HO1 HO7
    go_upto_region 9 with fail
    clear q0 q1 q2 zf
    generalize World.alloc _ _ = x7 at *
    generalize x5.heap.size = k5 at *
    go_cut [13] (fun s13 wx => s13 = .bool (decide (((B li).size : Int) ≤ 4) && (decide (((B lo).size : Int) ≤ 4) && (decide (0 ≤ c) && decide (c ≤ 1000)))) ∧ wx = x7)
    case first =>
      by_cases h1 : ((B li).size : Int) ≤ 4
      · by_cases h2 : ((B lo).size : Int) ≤ 4
        · by_cases h3 : 0 ≤ c
          · by_cases h4 : c ≤ 1000
            · go_wp2_with fail
              go_meet
              exact ⟨congrArg Value.bool (by simp [h1, h2, h3, h4]), rfl⟩
            · go_wp2_with fail
              go_meet
              exact ⟨congrArg Value.bool (by simp; omega), rfl⟩
          · go_wp2_with fail
            go_meet
            exact ⟨congrArg Value.bool (by simp; omega), rfl⟩
        · go_wp2_with fail
          go_meet
          exact ⟨congrArg Value.bool (by simp; omega), rfl⟩
      · go_wp2_with fail
        go_meet
        exact ⟨congrArg Value.bool (by simp; omega), rfl⟩
    case rest =>
      obtain ⟨rfl, rfl⟩ := hcut
      have CV := Lib.hid (Valid_any a0 acc (some ⟨k5, 0, none⟩) 1 [⟨0, 0, li, lo, c⟩] wc (HT.out.below HB7.out H0.out) (Nat.lt_of_lt_of_le H0.out HB7.out.size) (rlsAt_one RB7.out) (Nat.le_refl _) (by simp [maxLen]) HZ.out (by omega) (by omega) (by omega) (by omega))
      rw [EV.out] at CV
      generalize (decide (((B li).size : Int) ≤ 4) && (decide (((B lo).size : Int) ≤ 4) && (decide (0 ≤ c) && decide (c ≤ 1000)))) = rt at *
      generalize frameB a0 acc 0 = hd at *
      obtain ⟨s0, s1, s2⟩ := SB7.out.cells
      go_wp2_with fail
      refine (CV.out).mono ?_
      rintro e x8 ⟨rfl, hb⟩
      have HB8 := Lib.hid (HB7.out.trans (hb.mono HB7.out.size))
      clear s0 s1 s2 hb CV SB7 RB7 EV HZ HB7
      have hbn : ∀ x : Bool, (x != x) = false := by intro x; cases x <;> rfl
      have MB := Lib.hid (SchBlock.new x8 (.int .i64 1) (.int .u8 1) (.slice none 0 0))
      have HB9 := Lib.hid (HB8.out.alloc HB8.out.size (.cells #[.int .i64 1, .int .u8 1, .slice none 0 0] 24))
      have K9 := Lib.hid HB8.out.size
      have RO := Lib.hid (show RlsOwn (x8.alloc (.cells #[.int .i64 1, .int .u8 1, .slice none 0 0] 24)) (x8.heap.size + 1) (.slice none 0 0) (rsK 0) from ⟨rfl, Or.inl ⟨rfl, rfl⟩⟩)
      clear HB8
      obtain ⟨i0, hi0', hz0, hz1, hz2⟩ := info_parts infoRl
      cases hd
      all_goals
        go_wp2_with fail
        generalize x8.alloc _ = x9 at *
        generalize x8.heap.size = k9 at *
        go_loopw [15] (fun i wr => ∃ (k : Nat) (va : Option Addr) (vc : Nat), i = .int .i64 k ∧ k ≤ n ∧ SchBlock wr k9 (.int .i64 1) (.int .u8 1) (.slice va k vc) ∧ RlsOwn wr (k9 + 1) (.slice va k vc) (rsK k) ∧ Below w.heap.size w wr) (fun i _ => n - (intOf i).toNat)
        case atStart => exact ⟨0, none, 0, rfl, Nat.zero_le _, MB.out, RO.out, HB9.out⟩
        case round =>
          obtain ⟨k, va, vc, rfl, hk, hSB, hRO, hb⟩ := hrel
          have SB1 := Lib.hid hSB
          have RO1 := Lib.hid hRO
          have HBR := Lib.hid hb
          obtain ⟨s0, s1, s2⟩ := hSB.cells
          have hlt := hSB.lt
          clear hSB hRO hb
          by_cases hp : k < n
          · have al := (Below.refl wr.heap.size wr).alloc (Nat.le_refl _) (.cells #[.int .i64 0, .int .i64 0, .string ⟨#[97]⟩, .string ⟨#[]⟩, .int .i64 (k : Nat)] 29)
            have SB2 := SB1.out.below al
            have RO2 := RO1.out.later al
            have HB2 := Lib.hid (HBR.out.trans (al.mono HBR.out.size))
            have hne := RO1.out.ne (show k9 < k9 + 1 by omega)
            have hob : ∀ j, (Value.slice va k vc).ownBlock = some j → w.heap.size ≤ j := fun j hj => by
              rcases Nat.lt_or_ge j (k9 + 1) with h | h
              · exact absurd hj (RO1.out.ne h)
              · have := K9.out; omega
            have hm' : k + 1 ≤ maxLen := by unfold maxLen; omega
            have hby : (k + 1) * 56 ≤ 140737488355328 := by omega
            have hszb : k9 + 1 ≤ (wr.alloc (.cells #[.int .i64 0, .int .i64 0, .string ⟨#[97]⟩, .string ⟨#[]⟩, .int .i64 (k : Nat)] 29)).heap.size := by rw [World.size_alloc]; omega
            have RO2' : (wr.alloc (.cells #[.int .i64 0, .int .i64 0, .string ⟨#[97]⟩, .string ⟨#[]⟩, .int .i64 (k : Nat)] 29)).ownsRow (k9 + 1) 29 5 (.slice va k vc) k ((rsK k).flatMap rlCells) := by
              have := RO2
              unfold RlsOwn at this
              rwa [rsK_len] at this
            go_wp2_with (at_builtin; refine wpList_append_lies _ rfl _ _ _ rfl (k9 + 1) 29 i0 _ 5 56 Tryd.underlying22 hi0' hz0 hz1 hz2 rfl (by omega) (.slice va k vc) k ((rsK k).flatMap rlCells) (by rfl) RO2' ⟨wr.heap.size, 0, none⟩ 1 1 (rlCells ⟨0, 0, [97], [], (k : Nat)⟩) (by rfl) (by rfl) (World.news_of_block (cs := (rlCells ⟨0, 0, [97], [], (k : Nat)⟩).toArray) (t := 29) (fr := (0, 0)) (heap_alloc_new wr _)) (by simp [rlCells, Value.oneCell']) (by omega) hm' hby hszb (wr.heap.size + 1) (by simp) ?_; intro gg cap' w8 hown8 hgrow hat hlt8; obtain ⟨z0, z1, z2⟩ := (SB2.keptBy hgrow hne).cells; have zf := (SB2.keptBy hgrow hne).free)
            have hO8 : RlsOwn w8 (k9 + 1) (.slice (some ⟨gg, 0, none⟩) (k + 1) cap') (rsK (k + 1)) := by
              unfold RlsOwn
              rw [rsK_len, rsK_succ, List.flatMap_append]
              simpa using hown8
            have hk8 : ∀ g, k9 + 1 ≤ g → (w8.setCell ⟨k9, 2, none⟩ (.slice (some ⟨gg, 0, none⟩) (k + 1) cap')).heap[g]? = w8.heap[g]? := fun g hg => by
              simp only [World.setCell, Array.getElem?_modify, if_neg (show ¬ k9 = g by omega)]
            go_roundw
            case rel => exact ⟨k + 1, some ⟨gg, 0, none⟩, cap', rfl, hp, (SB2.keptBy hgrow hne).put2, hO8.keep fun g hg _ => hk8 g hg, (HB2.out.grown hgrow HB2.out.size hob).setCell K9.out _⟩
            case measure => simp [intOf]; omega
          · obtain rfl : k = n := by omega
            obtain ⟨va', vc', hv', hcap, hAt⟩ := RO1.out.at
            obtain ⟨rfl, -, rfl⟩ : va = va' ∧ k = (rsK k).length ∧ vc = vc' := by simpa using hv'
            have CV := Lib.hid (Valid_any 1 1 va vc (rsK k) wr (HT.out.below HBR.out H0.out) (Nat.lt_of_lt_of_le H0.out HBR.out.size) (by rw [rsK_len]; exact hAt) hcap (by rw [rsK_len]; unfold maxLen; omega) (fun x hx => by obtain ⟨j, -, rfl⟩ := List.mem_map.1 hx; exact ⟨by simp [maxLen], by simp [maxLen]⟩) (by decide) (by decide) (by decide) (by decide))
            rw [rsK_valid, rsK_len] at CV
            clear hAt hcap hv'
            by_cases h64 : k ≤ 64
            · have h64' : decide ((k : Int) ≤ 64) = true := decide_eq_true (by omega)
              rw [decide_eq_true h64] at CV
              go_wp2_with fail
              refine (CV.out).mono ?_
              rintro e x9 ⟨rfl, hb⟩
              have HBE := Lib.hid (HBR.out.trans (hb.mono HBR.out.size))
              clear hb CV
              go_wp2_with fail
              go_ret
              exact ⟨rfl, HBE.out⟩
            · have h64' : decide ((k : Int) ≤ 64) = false := decide_eq_false (by omega)
              rw [decide_eq_false h64] at CV
              go_wp2_with fail
              refine (CV.out).mono ?_
              rintro e x9 ⟨rfl, hb⟩
              have HBE := Lib.hid (HBR.out.trans (hb.mono HBR.out.size))
              clear hb CV
              go_wp2_with fail
              go_ret
              exact ⟨rfl, HBE.out⟩
end Go.Proofs.YtnbiedijofdjhaaDoor
