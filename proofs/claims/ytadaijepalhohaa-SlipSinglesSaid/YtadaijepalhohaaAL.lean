/-
  Distance.
-/
import Derived.Test.YtadaijepalhohaaAK
namespace Go.Proofs.Ytadaijepalhohaa
open Go.RowKit
open Pl

set_option maxHeartbeats 1000000 in
set_option maxRecDepth 100000 in
theorem Distance_any (s : Sl) (hs : Bd s) (a : Option Addr) (c : Nat) (t m : List UInt8) (w : World) (hx : AlsAt w w.heap.size (.slice a s.alike.length c) s.alike) (hl : s.alike.length ≤ 1000000) (ht : t.length ≤ 1000) (hm : m.length ≤ 1000) :
    Calls Try.prog 15 #[.agg #[.int .i64 s.swap, .int .i64 s.drop, .int .i64 s.add, .int .i64 s.put, .slice a s.alike.length c], .string (B t), .string (B m)] w fun e w' => e = .returned (.int .i64 (D s m t)) ∧ Below w.heap.size w w' := by
  have b1 := (Below.refl w.heap.size w).alloc (Nat.le_refl _) (.cells #[.int .i64 s.swap, .int .i64 s.drop, .int .i64 s.add, .int .i64 s.put, .slice a s.alike.length c] 32)
  have SB := Lib.hid (SlBlock.new w s (.slice a s.alike.length c))
  have HX := Lib.hid (hx.on b1)
  have HB := Lib.hid b1
  clear hx b1
  go_enter Try.func15, Try.ntmps15
  go_upto_region 1 with fail
  generalize w.alloc _ = w1 at *
  obtain ⟨q0, q1, q2, q3, q4⟩ := SB.out.cells
  have CT := Lib.hid (tableFor_any s a c (B t) w1 HX.out hl (by rw [size_B]; omega))
  go_wp2_with fail
  refine (CT.out).mono ?_
  rintro e w2 ⟨W1, T, x, y, z, bp, bl, rfl, hT, hb⟩
  have CD := Lib.hid (tdist_any s hs a c bp bl t m W1 w2 T x y z hT hl ht hm)
  have TI := Lib.hid hT
  have HB2 := Lib.hid (HB.out.trans (hb.mono HB.out.size))
  clear hT hb q0 q1 q2 q3 q4 CT
  go_wp2_with fail
  refine (CD.out).mono ?_
  rintro e w3 ⟨x', y', z', rfl, hT', hbt, -⟩
  have HB3 := Lib.hid (show Below w.heap.size w w3 from HB2.out.trans ((TI.out.low.trans (hbt.low TI.out.low.size (fun k hk => by
    obtain ⟨g1, g2, g3, g4⟩ := TI.out.ge
    simp at hk
    rcases hk with rfl | rfl | rfl | rfl <;> assumption))).mono HB2.out.size))
  clear hT' hbt CD TI HB2
  go_wp2_with fail
  go_ret
  exact ⟨rfl, HB3.out⟩
end Go.Proofs.Ytadaijepalhohaa
