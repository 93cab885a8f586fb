/-
  SchemeChecks for any scheme, raw scheme and rule.
-/
import Derived.Test.YtnbiedijofdjhaaDoorWE
namespace Go.Proofs.YtnbiedijofdjhaaDoor
open Go.RowKit
open Pl

set_option maxHeartbeats 1000000 in
set_option maxRecDepth 100000 in
theorem Checks_long (sm sa k d m : Int) (sd : Option Addr) (sc : Nat) (sl : List Rl) (y : Rl) (ma : Option Addr) (mn mc : Nat) (w : World) (hT : StrTab w) (hP : PowTab w) (hm : MaxVar w m) (h0 : 0 < w.heap.size) (hg : 2 < w.heap.size) (h70 : 70 < sl.length) :
    Calls Tryd.prog 3 #[.agg #[.int .i64 sm, .int .u8 sa, .slice sd sl.length sc], .agg #[.int .u8 k, .int .u8 d, .slice ma mn mc], .agg #[.int .i64 y.src, .int .i64 y.dst, .string (B y.inp), .string (B y.out), .int .i64 y.cost]] w fun e w' => e = .returned (.bool true) ∧ Below w.heap.size w w' := by
  obtain ⟨ks, -, -, hb⟩ := layC w (.slice sd sl.length sc) sm sa k d (.slice ma mn mc) y
  have HB1 := Lib.hid hb
  have SS1 := Lib.hid ks
  have CS := fun W (hb : Below w.heap.size w W) => Lib.hid (sanity_any m W (hT.below hb h0) (hP.below hb) (hm.below hg hb) (Nat.lt_of_lt_of_le h0 hb.size) (Nat.lt_of_lt_of_le hg hb.size))
  clear hT hP hm h0 hg hb ks
  go_enter Tryd.func3, Tryd.ntmps3
  go_wp2_with fail
  generalize ((w.alloc _).alloc _).alloc _ = x1 at *
  refine ((CS x1 HB1.out).out).mono ?_
  rintro e x2 ⟨rfl, hb⟩
  have HB2 := Lib.hid (HB1.out.trans (hb.mono HB1.out.size))
  obtain ⟨s0, s1, s2⟩ := (SS1.out.below hb).cells
  have h71 : (70 : Int) < (sl.length : Int) := by omega
  clear hb HB1 SS1 CS
  go_wp2_with fail
  go_ret
  exact ⟨rfl, HB2.out⟩
theorem checks_any (s : Int × Int × Option Addr × Nat × List Rl) (o : Int × Int × Option Addr × Nat × Nat) (y : Rl) (m : Int) (w : World) (hT : StrTab w) (hP : PowTab w) (hm : MaxVar w m) (h0 : 0 < w.heap.size) (hg : 2 < w.heap.size)
    (hs : SchOk w s.1 s.2.1 s.2.2.1 s.2.2.2.1 s.2.2.2.2) (ho : (0 ≤ o.1 ∧ o.1 ≤ 255) ∧ (0 ≤ o.2.1 ∧ o.2.1 ≤ 255) ∧ o.2.2.2.1 ≤ maxLen ∧ RawsAt w w.heap.size (.slice o.2.2.1 o.2.2.2.1 o.2.2.2.2) o.2.2.2.1) (hy : y.inp.length ≤ maxLen ∧ y.out.length ≤ maxLen) :
    Calls Tryd.prog 3 #[.agg #[.int .i64 s.1, .int .u8 s.2.1, .slice s.2.2.1 s.2.2.2.2.length s.2.2.2.1], .agg #[.int .u8 o.1, .int .u8 o.2.1, .slice o.2.2.1 o.2.2.2.1 o.2.2.2.2], rlV y] w fun e w' => e = .returned (.bool true) ∧ Below w.heap.size w w' := by
  rcases Nat.lt_or_ge 70 s.2.2.2.2.length with h1 | h1
  · exact Checks_long s.1 s.2.1 o.1 o.2.1 m s.2.2.1 s.2.2.2.1 s.2.2.2.2 y o.2.2.1 o.2.2.2.1 o.2.2.2.2 w hT hP hm h0 hg h1
  · exact Checks_any s.1 s.2.1 o.1 o.2.1 m s.2.2.1 s.2.2.2.1 s.2.2.2.2 y o.2.2.1 o.2.2.2.1 o.2.2.2.2 w hT hP hm h0 hg hs ho.1 ho.2.1 ho.2.2.2 ho.2.2.1 hy h1
end Go.Proofs.YtnbiedijofdjhaaDoor
