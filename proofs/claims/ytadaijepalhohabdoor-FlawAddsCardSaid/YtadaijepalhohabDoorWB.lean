/-
  The reference's Check and Valid.
-/
import Derived.Test.YtadaijepalhohabDoorVE
import Derived.Test.YtadaijepalhohabDoorTI
import Derived.Test.YtadaijepalhohabDoorSG
import Derived.IntWalk
namespace Go.Proofs.YtadaijepalhohabDoor
open Go.RowKit
open Pl

theorem pow_bd {modes : Int} (h1 : 1 ≤ modes) (h2 : modes ≤ 8) : (2 : Int) ^ modes.toNat ≤ 256 ∧ (2 : Int) ≤ 2 ^ modes.toNat := by
  rcases (show modes = 1 ∨ modes = 2 ∨ modes = 3 ∨ modes = 4 ∨ modes = 5 ∨ modes = 6 ∨ modes = 7 ∨ modes = 8 by omega) with rfl | rfl | rfl | rfl | rfl | rfl | rfl | rfl <;> decide
theorem frame_bad1 {modes acc : Int} {n : Nat} (h : (decide (1 ≤ modes) && decide (modes ≤ 8)) = false) : frameB modes acc n = false := by
  unfold frameB; rw [← Bool.and_assoc, h]; rfl
theorem frame_of {modes acc : Int} {n : Nat} (h : (decide (1 ≤ modes) && decide (modes ≤ 8)) = true) : frameB modes acc n = ((decide (1 ≤ acc) && decide (acc ≤ 2 ^ modes.toNat - 1)) && !decide (64 < n)) := by
  unfold frameB
  rw [← Bool.and_assoc, h, Bool.true_and, show decide (acc < 2 ^ modes.toNat) = decide (acc ≤ 2 ^ modes.toNat - 1) from decide_eq_decide.2 (by omega), Bool.and_assoc]
  congr 2
  rw [Bool.eq_iff_iff]; simp
set_option maxHeartbeats 2000000 in
set_option maxRecDepth 100000 in
theorem RCheck_any (modes acc : Int) (a : Option Addr) (c : Nat) (rs : List Rl) (w : World) (hx : RlsAt w w.heap.size (.slice a rs.length c) rs) (hm : rs.length ≤ maxLen)
    (hz : ∀ x ∈ rs, x.inp.length ≤ maxLen ∧ x.out.length ≤ maxLen) (ha0 : 0 ≤ acc) (ha1 : acc ≤ 255) :
    Calls Tryd.prog 25 #[.agg #[.int .i64 modes, .int .u8 acc, .slice a rs.length c]] w fun e w' => (∃ i err : Int, e = .returned (.tuple #[.int .i64 i, .int .i64 err]) ∧ ChkIs modes acc rs i err) ∧ Below w.heap.size w w' := by
  have hb : Below w.heap.size w (w.alloc (.cells #[.int .i64 modes, .int .u8 acc, .slice a rs.length c] 28)) := (Below.refl _ _).alloc (Nat.le_refl _) _
  have SB0 := Lib.hid (SchBlock.new w (.int .i64 modes) (.int .u8 acc) (.slice a rs.length c))
  have HX := Lib.hid (hx.on hb)
  have HB := Lib.hid hb
  have CR := fun (i : Nat) (hi : i < rs.length) W hx hd => Lib.hid (RRight_any modes acc a c rs i hi W hx hm hz hd)
  have HM := Lib.hid hm
  have RA := fun k h => Lib.hid (rightAt_get modes rs k h)
  have hwa : IntKind.i64.wrap acc = acc := IntWalk.i64_in _ (by omega)
  have CI1 := fun W => Lib.hid (In_any modes 1 8 W)
  obtain ⟨q1, hq1⟩ : ∃ q, (decide (1 ≤ modes) && decide (modes ≤ 8)) = q := ⟨_, rfl⟩
  rw [hq1] at CI1
  clear hb hx hz hm
  have C1 : ∀ W, Below (w.alloc (.cells #[.int .i64 modes, .int .u8 acc, .slice a rs.length c] 28)).heap.size (w.alloc (.cells #[.int .i64 modes, .int .u8 acc, .slice a rs.length c] 28)) W → Calls Tryd.prog 30 #[.int .i64 modes, .int .i64 1, .int .i64 8] W fun e w' => e = .returned (.bool q1) ∧ Below (w.alloc (.cells #[.int .i64 modes, .int .u8 acc, .slice a rs.length c] 28)).heap.size (w.alloc (.cells #[.int .i64 modes, .int .u8 acc, .slice a rs.length c] 28)) w' := fun W h => ((CI1 W).out).mono fun e w' h' => ⟨h'.1, by rw [h'.2]; exact h⟩
  go_enter Tryd.func25, Tryd.ntmps25
  go_upto_region 1 with fail
  generalize w.alloc _ = w1 at *
  have FW := Lib.hid (show ∀ W, Below w1.heap.size w1 W → W.cell? ⟨w.heap.size, 0, none⟩ = some (.int .i64 modes) ∧ W.cell? ⟨w.heap.size, 1, none⟩ = some (.int .u8 acc) ∧ W.cell? ⟨w.heap.size, 2, none⟩ = some (.slice a rs.length c) from fun W h => (SB0.out.below h).cells)
  refine wp_normal ?_
  refine wp_region_class (C := fun W => Below w1.heap.size w1 W) (by kernel_rfl) (by kernel_rfl) (Below.refl _ _).drew ?_
  cases q1
  · have hF := Lib.hid (show frameB modes acc rs.length = false from frame_bad1 hq1)
    repeat (first | go_big_quiet_skip | (go_big_quiet_want; first | (go_big_quiet_op; go_big_quiet_on) | (refine quiet_value ?_ (fun W h => ?_) ?_; rotate_left; (· obtain ⟨f0, f1, f2⟩ := FW.out W h; go_simp; rfl); go_simp; go_big_quiet_on) | (refine quiet_call _ _ _ (fun W => ?_) C1 ?_; (· go_simp; done); go_simp; go_big_quiet_on)))
    refine wpQuiet_nil ?_
    intro x1 hcj
    have HB1 := Lib.hid (HB.out.trans (Below.mono hcj HB.out.size))
    clear hcj C1
    go_wp2_with fail
    go_returns
    exact ⟨⟨-1, 20, rfl, Or.inl ⟨hF.out, rfl, rfl⟩⟩, HB1.out⟩
  · have hb1 : 1 ≤ modes ∧ modes ≤ 8 := by simpa using hq1
    have FO := fun n => frame_of (acc := acc) (n := n) hq1
    obtain ⟨p1, p2⟩ := pow_bd hb1.1 hb1.2
    obtain ⟨pp, hpp⟩ : ∃ p, (2 : Int) ^ modes.toNat = p := ⟨_, rfl⟩
    rw [hpp] at p1 p2 FO
    have hwpp : IntKind.i64.wrap pp = pp := IntWalk.i64_in _ (by omega)
    have hmm0 : 0 ≤ modes := by omega
    have hmm1 : modes ≤ 64 := by omega
    have hwp : IntKind.i64.wrap (pp - 1) = pp - 1 := IntWalk.i64_in _ (by omega)
    have CI2 := fun W => Lib.hid (In_any acc 1 (pp - 1) W)
    obtain ⟨q2, hq2⟩ : ∃ q, (decide (1 ≤ acc) && decide (acc ≤ pp - 1)) = q := ⟨_, rfl⟩
    rw [hq2] at CI2
    rw [hq2] at FO
    have C2 : ∀ W, Below w1.heap.size w1 W → Calls Tryd.prog 30 #[.int .i64 acc, .int .i64 1, .int .i64 (pp - 1)] W fun e w' => e = .returned (.bool q2) ∧ Below w1.heap.size w1 w' := fun W h => ((CI2 W).out).mono fun e w' h' => ⟨h'.1, by rw [h'.2]; exact h⟩
    clear hq2 p1 p2 hq1
    have HBM := Lib.hid hb1
    clear hb1 CI2
    cases q2
    · have hF := Lib.hid (show frameB modes acc rs.length = false by rw [FO, Bool.false_and])
      clear FO
      repeat (first | go_big_quiet_skip | (go_big_quiet_want; first | (go_big_quiet_op; go_big_quiet_on) | (refine quiet_value ?_ (fun W h => ?_) ?_; rotate_left; (· obtain ⟨f0, f1, f2⟩ := FW.out W h; go_simp; rfl); go_simp; go_big_quiet_on) | (refine quiet_call _ _ _ (fun W => ?_) C1 ?_; (· go_simp; done); go_simp; go_big_quiet_on) | (refine quiet_call _ _ _ (fun W => ?_) C2 ?_; (· go_simp; done); go_simp; go_big_quiet_on)))
      refine wpQuiet_nil ?_
      intro x1 hcj
      have HB1 := Lib.hid (HB.out.trans (Below.mono hcj HB.out.size))
      clear hcj C1 C2
      go_wp2_with fail
      go_returns
      exact ⟨⟨-1, 20, rfl, Or.inl ⟨hF.out, rfl, rfl⟩⟩, HB1.out⟩
    by_cases h64 : 64 < rs.length
    · have hF := Lib.hid (show frameB modes acc rs.length = false by rw [FO, decide_eq_true h64]; rfl)
      have hd64 : decide ((64 : Int) < (rs.length : Int)) = true := decide_eq_true (by omega)
      clear FO
      repeat (first | go_big_quiet_skip | (go_big_quiet_want; first | (go_big_quiet_op; go_big_quiet_on) | (refine quiet_value ?_ (fun W h => ?_) ?_; rotate_left; (· obtain ⟨f0, f1, f2⟩ := FW.out W h; go_simp; rfl); go_simp; go_big_quiet_on) | (refine quiet_call _ _ _ (fun W => ?_) C1 ?_; (· go_simp; done); go_simp; go_big_quiet_on) | (refine quiet_call _ _ _ (fun W => ?_) C2 ?_; (· go_simp; done); go_simp; go_big_quiet_on)))
      refine wpQuiet_nil ?_
      intro x1 hcj
      have HB1 := Lib.hid (HB.out.trans (Below.mono hcj HB.out.size))
      clear hcj C1 C2
      go_wp2_with fail
      go_returns
      exact ⟨⟨-1, 20, rfl, Or.inl ⟨hF.out, rfl, rfl⟩⟩, HB1.out⟩
    have hF := Lib.hid (show frameB modes acc rs.length = true by rw [FO, decide_eq_false h64]; rfl)
    have hd64 : decide ((64 : Int) < (rs.length : Int)) = false := decide_eq_false (by omega)
    clear FO
    repeat (first | go_big_quiet_skip | (go_big_quiet_want; first | (go_big_quiet_op; go_big_quiet_on) | (refine quiet_value ?_ (fun W h => ?_) ?_; rotate_left; (· obtain ⟨f0, f1, f2⟩ := FW.out W h; go_simp; rfl); go_simp; go_big_quiet_on) | (refine quiet_call _ _ _ (fun W => ?_) C1 ?_; (· go_simp; done); go_simp; go_big_quiet_on) | (refine quiet_call _ _ _ (fun W => ?_) C2 ?_; (· go_simp; done); go_simp; go_big_quiet_on)))
    refine wpQuiet_nil ?_
    intro x1 hcj
    have HB1 := Lib.hid (HB.out.trans (Below.mono hcj HB.out.size))
    have SB1 := Lib.hid (SB0.out.below hcj)
    have HX1 := Lib.hid (HX.out.on hcj)
    clear hcj C1 C2 SB0 HX HB FW hd64 hpp hwpp hwp hmm0 hmm1 hwa
    go_wp2_with fail
    go_loopw [4] (fun i wr => ∃ j : Nat, i = .int .i64 j ∧ j ≤ rs.length ∧ (∀ k, k < j → rightAt modes rs k = true) ∧ Below x1.heap.size x1 wr) (fun i _ => rs.length - (intOf i).toNat)
    case atStart => exact ⟨0, rfl, Nat.zero_le _, fun k h => absurd h (Nat.not_lt_zero _), Below.refl _ _⟩
    case round =>
      obtain ⟨j, rfl, hj, ha, hb⟩ := hrel
      have HA := Lib.hid ha
      have HBR := Lib.hid hb
      clear ha hb
      obtain ⟨s0, s1, s2⟩ := (SB1.out.below HBR.out).cells
      by_cases hp : j < rs.length
      · have hj0 : (0 : Int) ≤ (j : Int) := by omega
        have hj1 : (j : Int) < (rs.length : Int) := by omega
        have C := fun W h1 => CR j hp W h1 ⟨by have := HBM.out; omega, by have := HBM.out; omega⟩
        have RJ := RA j hp
        have HP := Lib.hid hp
        generalize rightB modes rs j (rs[j]'hp) = q at *
        clear CR RA hp
        go_wp2_with fail
        refine ((C _ (HX1.out.on HBR.out)).out).mono ?_
        rintro e x2 ⟨rfl, hb⟩
        have HB2 := Lib.hid (HBR.out.trans (hb.mono HBR.out.size))
        clear hb C HBR s0 s1 s2
        cases q
        · go_wp2_with fail
          go_returns
          exact ⟨⟨j, 20, rfl, Or.inr (Or.inl ⟨hF.out, j, HP.out, rfl, rfl, HA.out, RJ.out⟩)⟩, HB1.out.trans (HB2.out.mono HB1.out.size)⟩
        · go_wp2_with fail
          go_roundw
          case rel => exact ⟨j + 1, by go_num, by omega, fun k hk => by
            rcases Nat.lt_or_ge k j with h | h
            · exact HA.out k h
            · obtain rfl : k = j := by omega
              exact RJ.out, HB2.out⟩
          case measure => simp [intOf]; omega
      · have hj1 : ¬ (j : Int) < (rs.length : Int) := by omega
        obtain rfl : j = rs.length := by omega
        go_wp2_with fail
        go_returns
        exact ⟨⟨_, 0, rfl, Or.inr (Or.inr ⟨hF.out, rfl, rfl, fun k hk => HA.out k hk⟩)⟩, HB1.out.trans (HBR.out.mono HB1.out.size)⟩
set_option maxHeartbeats 1000000 in
set_option maxRecDepth 100000 in
theorem RValid_any (modes acc : Int) (a : Option Addr) (c : Nat) (rs : List Rl) (w : World) (hx : RlsAt w w.heap.size (.slice a rs.length c) rs) (hm : rs.length ≤ maxLen)
    (hz : ∀ x ∈ rs, x.inp.length ≤ maxLen ∧ x.out.length ≤ maxLen) (ha0 : 0 ≤ acc) (ha1 : acc ≤ 255) :
    Calls Tryd.prog 11 #[.agg #[.int .i64 modes, .int .u8 acc, .slice a rs.length c]] w fun e w' => e = .returned (.bool (validB modes acc rs)) ∧ Below w.heap.size w w' := by
  have hb : Below w.heap.size w (w.alloc (.cells #[.int .i64 modes, .int .u8 acc, .slice a rs.length c] 28)) := (Below.refl _ _).alloc (Nat.le_refl _) _
  have SB0 := Lib.hid (SchBlock.new w (.int .i64 modes) (.int .u8 acc) (.slice a rs.length c))
  have CC := Lib.hid (RCheck_any modes acc a c rs _ (hx.on hb) hm hz ha0 ha1)
  have HB := Lib.hid hb
  clear hb hx hm hz ha0 ha1
  go_enter Tryd.func11, Tryd.ntmps11
  go_wp2_with fail
  generalize w.alloc _ = w1 at *
  obtain ⟨s0, s1, s2⟩ := SB0.out.cells
  go_wp2_with fail
  refine (CC.out).mono ?_
  rintro e x1 ⟨⟨i, err, rfl, hc⟩, hb⟩
  have HB1 := Lib.hid (HB.out.trans (hb.mono HB.out.size))
  clear hb CC HB s0 s1 s2
  rcases hc.valid with ⟨rfl, hv, -⟩ | ⟨rfl, hv⟩
  · have HV := Lib.hid hv
    clear hv hc
    go_wp2_with fail
    go_ret
    exact ⟨ret_bool HV.out.symm, HB1.out⟩
  · have HV := Lib.hid hv
    clear hv hc
    go_wp2_with fail
    go_ret
    exact ⟨ret_bool HV.out.symm, HB1.out⟩
end Go.Proofs.YtadaijepalhohabDoor
