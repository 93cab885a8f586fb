/-
  The law's own examples: refuses, reads.
-/
import Derived.Test.YtnbiedijofdjhaaDoorSU
namespace Go.Proofs.YtnbiedijofdjhaaDoor
open Go.RowKit
open Pl

theorem chk_unique {modes acc : Int} {rs : List Rl} {i j e f : Int} (h : ChkIs modes acc rs i e) (k : ChkIs modes acc rs j f) : i = j ∧ e = f := by
  rcases h with ⟨h1, rfl, rfl⟩ | ⟨h1, a, ha, rfl, rfl, h4, h5⟩ | ⟨h1, rfl, rfl, h4⟩ <;> rcases k with ⟨k1, rfl, rfl⟩ | ⟨k1, b, hb, rfl, rfl, k4, k5⟩ | ⟨k1, rfl, rfl, k4⟩
  · exact ⟨rfl, rfl⟩
  · rw [h1] at k1; cases k1
  · rw [h1] at k1; cases k1
  · rw [h1] at k1; cases k1
  · rcases Nat.lt_trichotomy a b with h | h | h
    · have := k4 a h; rw [h5] at this; cases this
    · exact ⟨by rw [h], rfl⟩
    · have := h4 b h; rw [k5] at this; cases this
  · have := k4 a ha; rw [h5] at this; cases this
  · rw [h1] at k1; cases k1
  · have := h4 b hb; rw [k5] at this; cases this
  · exact ⟨rfl, rfl⟩
theorem Check_is {i0 e0 : Int} (modes acc : Int) (a : Option Addr) (c : Nat) (rs : List Rl) (w : World) (hT : StrTab w) (h0 : 0 < w.heap.size) (hx : RlsAt w w.heap.size (.slice a rs.length c) rs) (hcap : rs.length ≤ c) (hm : rs.length ≤ maxLen)
    (hz : ∀ x ∈ rs, x.inp.length ≤ maxLen ∧ x.out.length ≤ maxLen) (hm0 : -9223372036854775808 ≤ modes) (hm1 : modes ≤ 9223372036854775807) (ha0 : 0 ≤ acc) (ha1 : acc ≤ 255) (hc : ChkIs modes acc rs i0 e0) :
    Calls Tryd.prog 17 #[.agg #[.int .i64 modes, .int .u8 acc, .slice a rs.length c]] w fun e w' => e = .returned (.tuple #[.int .i64 i0, .int .i64 e0]) ∧ Below w.heap.size w w' :=
  (Check_any modes acc a c rs w hT h0 hx hcap hm hz hm0 hm1 ha0 ha1).mono fun e w' h => by
    obtain ⟨⟨i, err, rfl, h1⟩, h2⟩ := h
    obtain ⟨rfl, rfl⟩ := chk_unique h1 hc
    exact ⟨rfl, h2⟩
set_option maxHeartbeats 1000000 in
set_option maxRecDepth 100000 in
theorem refuses_yes (i0 : Int) (modes acc : Int) (a : Option Addr) (c : Nat) (rs : List Rl) (w : World) (hT : StrTab w) (h0 : 0 < w.heap.size) (hx : RlsAt w w.heap.size (.slice a rs.length c) rs) (hcap : rs.length ≤ c) (hm : rs.length ≤ maxLen)
    (hz : ∀ x ∈ rs, x.inp.length ≤ maxLen ∧ x.out.length ≤ maxLen) (hm0 : -9223372036854775808 ≤ modes) (hm1 : modes ≤ 9223372036854775807) (ha0 : 0 ≤ acc) (ha1 : acc ≤ 255) (hc : ChkIs modes acc rs i0 20) :
    Calls Tryd.prog 25 #[.agg #[.int .i64 modes, .int .u8 acc, .slice a rs.length c], .int .i64 i0] w fun e w' => e = .returned (.bool true) ∧ Below w.heap.size w w' := by
  have hv : validB modes acc rs = false := by
    rcases hc.valid with ⟨h, -⟩ | ⟨-, h⟩
    · cases h
    · exact h
  have hb : Below w.heap.size w (w.alloc (.cells #[.int .i64 modes, .int .u8 acc, .slice a rs.length c] 24)) := (Below.refl _ _).alloc (Nat.le_refl _) _
  have SB0 := Lib.hid (SchBlock.new w (.int .i64 modes) (.int .u8 acc) (.slice a rs.length c))
  have CK := fun W (hb : Below w.heap.size w W) => Lib.hid (Check_is modes acc a c rs W (hT.below hb h0) (Nat.lt_of_lt_of_le h0 hb.size) (hx.on hb) hcap hm hz hm0 hm1 ha0 ha1 hc)
  have CV := fun W (hb : Below w.heap.size w W) => Lib.hid (Valid_any modes acc a c rs W (hT.below hb h0) (Nat.lt_of_lt_of_le h0 hb.size) (hx.on hb) hcap hm hz hm0 hm1 ha0 ha1)
  rw [hv] at CV
  have HB := Lib.hid hb
  clear hT h0 hx hcap hm hz hm0 hm1 ha0 ha1 hc hv hb
  go_enter Tryd.func25, Tryd.ntmps25
  go_wp2_with fail
  generalize w.alloc _ = w1 at *
  obtain ⟨s0, s1, s2⟩ := SB0.out.cells
  go_wp2_with fail
  refine ((CK w1 HB.out).out).mono ?_
  rintro e x1 ⟨rfl, hb⟩
  have HB1 := Lib.hid (HB.out.trans (hb.mono HB.out.size))
  have SB1 := Lib.hid (SB0.out.below hb)
  clear hb s0 s1 s2 SB0 HB
  obtain ⟨s0, s1, s2⟩ := SB1.out.cells
  go_wp2_with fail
  refine ((CV x1 HB1.out).out).mono ?_
  rintro e x2 ⟨rfl, hb⟩
  have HB2 := Lib.hid (HB1.out.trans (hb.mono HB1.out.size))
  clear hb
  go_wp2_with fail
  go_ret
  exact ⟨rfl, HB2.out⟩
set_option maxHeartbeats 1000000 in
set_option maxRecDepth 100000 in
/-- A text that is refused. -/
theorem reads_yes (s : List UInt8) (m n c : Int) (w : World) (hT : StrTab w) (h0 : 0 < w.heap.size) (hs : s.length < 4294967281) (hm : MaxVar w m) (hg : 2 < w.heap.size)
    (hr : (c = 3 ∧ ((readW s = none ∧ n = -1) ∨ ∃ md mk rs, readW s = some (md, mk, rs, false) ∧ n = (rs.length : Nat))) ∨ (c = 20 ∧ ∃ md mk rs, readW s = some (md, mk, rs, true) ∧ ChkIs md mk rs n 20)) :
    Calls Tryd.prog 50 #[.string (B s), .int .i64 n, .int .i64 c] w fun e w' => e = .returned (.bool true) ∧ Below w.heap.size w w' := by
  have CP : Hid (Calls Tryd.prog 22 #[.string (B s)] w fun e w' => e = .returned (.tuple #[.agg #[.int .i64 0, .int .u8 0, .slice none 0 0], .int .i64 n, .int .i64 c]) ∧ Below w.heap.size w w') := by
    refine Lib.hid ?_
    rcases hr with ⟨rfl, hr⟩ | ⟨rfl, md, mk, rs, hr, hc⟩
    · exact Parse_no s m n w hT h0 hs hm hg hr
    · refine (Parse_yes s m md mk rs w hT h0 hs hm hg hr).mono ?_
      rintro e w' ⟨hb, i, err, h1, h2⟩
      obtain ⟨rfl, rfl⟩ := chk_unique h1 hc
      rcases h2 with ⟨h, -⟩ | ⟨-, h⟩
      · cases h
      · exact ⟨h, hb⟩
  clear hT h0 hs hm hg hr
  have HR : ∀ W : World, RlsAt W W.heap.size (.slice none 0 0) [] := fun W => ⟨none, 0, rfl, fun h => absurd h (Nat.lt_irrefl 0)⟩
  have CS := fun W => Lib.hid (Same_any 0 0 0 0 [] [] none none 0 0 W (HR W) (HR W) (Nat.zero_le _))
  rw [show sameB 0 0 [] 0 0 [] = true from rfl] at CS
  clear HR
  go_enter Tryd.func50, Tryd.ntmps50
  go_wp2_with fail
  refine (CP.out).mono ?_
  rintro e x1 ⟨rfl, hb⟩
  have HB1 := Lib.hid (hb.alloc hb.size (.cells #[.int .i64 0, .int .u8 0, .slice none 0 0] 24))
  have NB := SchBlock.new x1 (.int .i64 0) (.int .u8 0) (.slice none 0 0)
  have hle := hb.size
  clear hb CP
  go_wp2_with (first
    | (refine wpList_store_sch rfl _ _ rfl _ _ _ _ NB rfl _ _ _ _ _ rfl ?_; intro W2 hB2 hg2 hs2; obtain ⟨s0, s1, s2⟩ := hB2.cells; have HB2 := Lib.hid (HB1.out.grown hg2 HB1.out.size (by simp; omega)); clear NB hg2))
  refine ((CS W2).out).mono ?_
  rintro e x3 ⟨rfl, hb⟩
  have HB3 := Lib.hid (HB2.out.trans (hb.mono HB2.out.size))
  clear hb s0 s1 s2
  have hn : (n == n) = true := beq_self_eq_true n
  have hc : (c == c) = true := beq_self_eq_true c
  go_wp2_with fail
  go_ret
  exact ⟨rfl, HB3.out⟩
end Go.Proofs.YtnbiedijofdjhaaDoor
