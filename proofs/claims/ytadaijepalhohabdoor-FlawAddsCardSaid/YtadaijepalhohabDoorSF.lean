/-
  scheme.Check: the frame, then the rules in their order.
-/
import Derived.Test.YtadaijepalhohabDoorSE
import Derived.Handy
namespace Go.Proofs.YtadaijepalhohabDoor
open Go.RowKit
open Pl

def rightAt (modes : Int) (rs : List Rl) (k : Nat) : Bool := match rs[k]? with | some r => rightB modes rs k r | none => false
theorem rightAt_get (modes : Int) (rs : List Rl) (k : Nat) (h : k < rs.length) : rightAt modes rs k = rightB modes rs k rs[k] := by unfold rightAt; rw [List.getElem?_eq_getElem h]
/-- What Check answers of a scheme. -/
def ChkIs (modes acc : Int) (rs : List Rl) (i err : Int) : Prop :=
  (frameB modes acc rs.length = false ∧ i = -1 ∧ err = 20) ∨ (frameB modes acc rs.length = true ∧ ∃ k, k < rs.length ∧ i = (k : Int) ∧ err = 20 ∧ (∀ j, j < k → rightAt modes rs j = true) ∧ rightAt modes rs k = false) ∨ (frameB modes acc rs.length = true ∧ i = (rs.length : Int) ∧ err = 0 ∧ ∀ j, j < rs.length → rightAt modes rs j = true)

set_option maxHeartbeats 1000000 in
set_option maxRecDepth 100000 in
theorem Check_any (modes acc : Int) (a : Option Addr) (c : Nat) (rs : List Rl) (w : World) (hT : StrTab w) (h0 : 0 < w.heap.size) (hx : RlsAt w w.heap.size (.slice a rs.length c) rs) (hcap : rs.length ≤ c) (hm : rs.length ≤ maxLen)
    (hz : ∀ x ∈ rs, x.inp.length ≤ maxLen ∧ x.out.length ≤ maxLen) (hm0 : -9223372036854775808 ≤ modes) (hm1 : modes ≤ 9223372036854775807) (ha0 : 0 ≤ acc) (ha1 : acc ≤ 255) :
    Calls Tryd.prog 33 #[.agg #[.int .i64 modes, .int .u8 acc, .slice a rs.length c]] w fun e w' => (∃ i err : Int, e = .returned (.tuple #[.int .i64 i, .int .i64 err]) ∧ ChkIs modes acc rs i err) ∧ Below w.heap.size w w' := by
  have hb : Below w.heap.size w (w.alloc (.cells #[.int .i64 modes, .int .u8 acc, .slice a rs.length c] 28)) := (Below.refl _ _).alloc (Nat.le_refl _) _
  have SB0 := Lib.hid (SchBlock.new w (.int .i64 modes) (.int .u8 acc) (.slice a rs.length c))
  have HX := Lib.hid (hx.on hb)
  have HT := Lib.hid (hT.below hb h0)
  have H0 := Lib.hid (Nat.lt_of_lt_of_le h0 hb.size)
  have HB := Lib.hid hb
  have CF := fun W => Lib.hid (framed_any modes acc a rs.length c W hm0 hm1 ha0 ha1)
  have CR := fun (i : Nat) (hi : i < rs.length) W hT h0 hx => Lib.hid (right_any modes acc a c rs i hi W hT h0 hx hcap hm hz)
  have HM := Lib.hid hm
  have RA := fun k h => Lib.hid (rightAt_get modes rs k h)
  clear hb hT h0 hx hcap hz hm0 hm1 ha0 ha1 hm
  obtain ⟨fb, Ef⟩ : ∃ x, frameB modes acc rs.length = x := ⟨_, rfl⟩
  have EF := Lib.hid Ef
  rw [Ef] at CF
  clear Ef
  go_enter Tryd.func33, Tryd.ntmps33
  go_wp2_with fail
  generalize w.alloc _ = w1 at *
  obtain ⟨s0, s1, s2⟩ := SB0.out.cells
  go_wp2_with fail
  refine ((CF _).out).mono ?_
  rintro e x1 ⟨rfl, hb⟩
  have HB1 := Lib.hid (HB.out.trans (hb.mono HB.out.size))
  have HX1 := Lib.hid (HX.out.on hb)
  have HT1 := Lib.hid (HT.out.below hb H0.out)
  have H01 := Lib.hid (Nat.lt_of_lt_of_le H0.out hb.size)
  have SB1 := Lib.hid (SB0.out.below hb)
  clear hb CF HB HX HT H0 SB0 s0 s1 s2
  obtain ⟨s0, s1, s2⟩ := SB1.out.cells
  cases fb
  · go_wp2_with fail
    go_returns
    exact ⟨⟨-1, 20, rfl, Or.inl ⟨EF.out, rfl, rfl⟩⟩, HB1.out⟩
  · go_wp2_with fail
    clear s0 s1 s2
    go_loopw [11] (fun i wr => ∃ j : Nat, i = .int .i64 j ∧ j ≤ rs.length ∧ (∀ k, k < j → rightAt modes rs k = true) ∧ Below x1.heap.size x1 wr) (fun i _ => rs.length - (intOf i).toNat)
    case atStart => exact ⟨0, rfl, Nat.zero_le _, fun k h => absurd h (Nat.not_lt_zero _), Below.refl _ _⟩
    case round =>
      obtain ⟨j, rfl, hj, ha, hb⟩ := hrel
      have HA := Lib.hid ha
      have HB := Lib.hid hb
      have HL := Lib.hid hj
      clear ha hb hj
      obtain ⟨s0, s1, s2⟩ := (SB1.out.below HB.out).cells
      by_cases hp : j < rs.length
      · have hj0 : (0 : Int) ≤ (j : Int) := by omega
        have hj1 : (j : Int) < (rs.length : Int) := by omega
        have C := fun W h1 h2 h3 => CR j hp W h1 h2 h3
        have RJ := RA j hp
        have HP := Lib.hid hp
        generalize rightB modes rs j (rs[j]'hp) = q at *
        clear CR RA hp
        go_wp2_with fail
        refine ((C _ (HT1.out.below HB.out H01.out) (Nat.lt_of_lt_of_le H01.out HB.out.size) (HX1.out.on HB.out)).out).mono ?_
        rintro e x2 ⟨rfl, hb⟩
        have HB2 := Lib.hid (HB.out.trans (hb.mono HB.out.size))
        clear hb C HB s0 s1 s2
        cases q
        · go_wp2_with fail
          go_returns
          exact ⟨⟨(j : Int), 20, rfl, Or.inr (Or.inl ⟨EF.out, j, HP.out, rfl, rfl, HA.out, RJ.out⟩)⟩, HB1.out.trans (HB2.out.mono HB1.out.size)⟩
        · have HN := Lib.hid (show ∀ k, k < j + 1 → rightAt modes rs k = true from fun k h => by
            rcases Nat.lt_succ_iff_lt_or_eq.1 h with h | rfl
            · exact HA.out k h
            · exact RJ.out)
          have HPL := Lib.hid (show j + 1 ≤ rs.length from HP.out)
          have hmx : rs.length ≤ 9223372036854775807 := by have := HM.out; unfold maxLen at this; omega
          go_wp2_with fail
          go_roundw
          case rel => exact ⟨j + 1, by go_num, HPL.out, HN.out, HB2.out⟩
          case measure => have := HPL.out; simp [intOf]; omega
      · have hj1 : ¬ (j : Int) < (rs.length : Int) := by omega
        have HE := Lib.hid (show ∀ k, k < rs.length → rightAt modes rs k = true from fun k h => HA.out k (by omega))
        go_wp2_with fail
        go_returns
        exact ⟨⟨(rs.length : Int), 0, rfl, Or.inr (Or.inr ⟨EF.out, rfl, rfl, HE.out⟩)⟩, HB1.out.trans (HB.out.mono HB1.out.size)⟩
end Go.Proofs.YtadaijepalhohabDoor
