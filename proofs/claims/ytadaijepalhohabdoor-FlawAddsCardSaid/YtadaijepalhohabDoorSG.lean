/-
  scheme.Valid.
-/
import Derived.Test.YtadaijepalhohabDoorSF
namespace Go.Proofs.YtadaijepalhohabDoor
open Go.RowKit
open Pl

def validB (modes acc : Int) (rs : List Rl) : Bool := frameB modes acc rs.length && (List.range rs.length).all (rightAt modes rs)
theorem ChkIs.valid {modes acc : Int} {rs : List Rl} {i err : Int} (h : ChkIs modes acc rs i err) : (err = 0 ∧ validB modes acc rs = true ∧ i = (rs.length : Int)) ∨ (err = 20 ∧ validB modes acc rs = false) := by
  unfold validB
  rcases h with ⟨h1, h2, h3⟩ | ⟨h1, k, hk, h2, h3, h4, h5⟩ | ⟨h1, h2, h3, h4⟩
  · exact Or.inr ⟨h3, by rw [h1]; rfl⟩
  · refine Or.inr ⟨h3, ?_⟩
    have hf : (List.range rs.length).all (rightAt modes rs) = false := List.all_eq_false.2 ⟨k, List.mem_range.2 hk, by rw [h5]; decide⟩
    rw [hf, Bool.and_false]
  · refine Or.inl ⟨h3, ?_, h2⟩
    have hf : (List.range rs.length).all (rightAt modes rs) = true := List.all_eq_true.2 fun k hk => h4 k (List.mem_range.1 hk)
    rw [hf, h1]; rfl

set_option maxHeartbeats 1000000 in
set_option maxRecDepth 100000 in
theorem Valid_any (modes acc : Int) (a : Option Addr) (c : Nat) (rs : List Rl) (w : World) (hT : StrTab w) (h0 : 0 < w.heap.size) (hx : RlsAt w w.heap.size (.slice a rs.length c) rs) (hcap : rs.length ≤ c) (hm : rs.length ≤ maxLen)
    (hz : ∀ x ∈ rs, x.inp.length ≤ maxLen ∧ x.out.length ≤ maxLen) (hm0 : -9223372036854775808 ≤ modes) (hm1 : modes ≤ 9223372036854775807) (ha0 : 0 ≤ acc) (ha1 : acc ≤ 255) :
    Calls Tryd.prog 18 #[.agg #[.int .i64 modes, .int .u8 acc, .slice a rs.length c]] w fun e w' => e = .returned (.bool (validB modes acc rs)) ∧ Below w.heap.size w w' := by
  have hb : Below w.heap.size w (w.alloc (.cells #[.int .i64 modes, .int .u8 acc, .slice a rs.length c] 28)) := (Below.refl _ _).alloc (Nat.le_refl _) _
  have SB0 := Lib.hid (SchBlock.new w (.int .i64 modes) (.int .u8 acc) (.slice a rs.length c))
  have CC := Lib.hid (Check_any modes acc a c rs _ (hT.below hb h0) (Nat.lt_of_lt_of_le h0 hb.size) (hx.on hb) hcap hm hz hm0 hm1 ha0 ha1)
  have HB := Lib.hid hb
  clear hb hT h0 hx hcap hm hz hm0 hm1 ha0 ha1
  go_enter Tryd.func18, Tryd.ntmps18
  go_wp2_with fail
  generalize w.alloc _ = w1 at *
  obtain ⟨s0, s1, s2⟩ := SB0.out.cells
  go_wp2_with fail
  refine (CC.out).mono ?_
  rintro e x1 ⟨⟨i, err, rfl, hc⟩, hb⟩
  have HB1 := Lib.hid (HB.out.trans (hb.mono HB.out.size))
  clear hb CC HB s0 s1 s2
  rcases hc.valid with ⟨rfl, hv, -⟩ | ⟨rfl, hv⟩
  · have HV := Lib.hid hv
    clear hv hc
    go_wp2_with fail
    go_ret
    exact ⟨ret_bool HV.out.symm, HB1.out⟩
  · have HV := Lib.hid hv
    clear hv hc
    go_wp2_with fail
    go_ret
    exact ⟨ret_bool HV.out.symm, HB1.out⟩
end Go.Proofs.YtadaijepalhohabDoor
