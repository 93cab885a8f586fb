/-
  The walk of the law EventInverts: it answers true, whatever its two raw events are.
-/
import Derived.Test.YtcbboegjegobeaaDoorHH
import Derived.Test.YtcbboegjegobeaaDoorII
import Derived.Test.YtcbboegjegobeaaDoorZ
namespace Go.Proofs.YtcbboegjegobeaaDoor
open Go.RowKit
open Pl

theorem PairsAt.up {W : World} {B0 B1 : Nat} {v : Value} {n : Nat} (h : PairsAt W B0 v n) (hb : B0 ≤ B1) : PairsAt W B1 v n := by
  obtain ⟨a, c, rfl, h⟩ := h
  refine ⟨a, c, rfl, fun hp => ?_⟩
  obtain ⟨b, off, rfl, hlt, hc⟩ := h hp
  exact ⟨b, off, rfl, by omega, hc⟩
/-- The value is a raw event whose slices can be read. -/
def RawAt (W : World) (B0 : Nat) (v : Value) : Prop := ∃ k n m lv pv ln pn, v = .agg #[.int .u8 k, lv, pv, .int .u8 n, .int .u8 m] ∧ (0 ≤ k ∧ k ≤ 255) ∧ (0 ≤ n ∧ n ≤ 255) ∧ (0 ≤ m ∧ m ≤ 255) ∧ (BytesAt W B0 lv ln ∧ ln ≤ maxLen) ∧ PairsAt W B0 pv pn ∧ pn ≤ maxLen
theorem RawAt.into {W W' : World} {v : Value} (h : RawAt W W.heap.size v) (hb : Below W.heap.size W W') : RawAt W' W'.heap.size v := by
  obtain ⟨k, n, m, lv, pv, ln, pn, rfl, h1, h2, h3, ⟨h4, h5⟩, h6, h7⟩ := h
  exact ⟨k, n, m, lv, pv, ln, pn, rfl, h1, h2, h3, ⟨(h4.below hb).up hb.size, h5⟩, (h6.below hb).up hb.size, h7⟩
theorem made_raw (v : Value) (w : World) (h : RawAt w w.heap.size v) : Calls Tryd.prog 11 #[v, .int .i64 26] w (MadePost w) := by
  obtain ⟨k, n, m, lv, pv, ln, pn, rfl, h1, h2, h3, ⟨h4, h5⟩, h6, h7⟩ := h
  exact Made_any k n m lv pv ln pn w h1.1 h1.2 h2.1 h2.2 h3.1 h3.2 h4 h5 h6 h7
theorem sameB_self (a : Ev) : sameB a a = true := (sameB_iff a a).2 rfl
theorem sameB_comm (a b : Ev) : sameB a b = sameB b a := by
  rw [Bool.eq_iff_iff, sameB_iff, sameB_iff]; exact ⟨Eq.symm, Eq.symm⟩
theorem PtsAt.on {W W' : World} {v : Value} {ps : List (Int × Int)} (h : PtsAt W W.heap.size v ps) (hb : Below W.heap.size W W') : PtsAt W' W'.heap.size v ps := (h.below hb).up hb.size
theorem below_alloc (W : World) (o : Obj) : Below W.heap.size W (W.alloc o) := (Below.refl _ _).alloc (Nat.le_refl _) o

set_option maxHeartbeats 8000000 in
set_option maxRecDepth 100000 in
theorem inverts_any (mx k1 n1 m1 k2 n2 m2 : Int) (la1 pa1 la2 pa2 : Option Addr) (ln1 lc1 pn1 pc1 ln2 lc2 pn2 pc2 : Nat) (w : World) (hT : PowTab w) (hm : MaxVar w mx) (hw0 : 0 < w.heap.size)
    (hx : RawAt w w.heap.size (.agg #[.int .u8 k1, .slice la1 ln1 lc1, .slice pa1 pn1 pc1, .int .u8 n1, .int .u8 m1])) (hy : RawAt w w.heap.size (.agg #[.int .u8 k2, .slice la2 ln2 lc2, .slice pa2 pn2 pc2, .int .u8 n2, .int .u8 m2])) :
    Calls Tryd.prog 5 #[.agg #[.int .u8 k1, .slice la1 ln1 lc1, .slice pa1 pn1 pc1, .int .u8 n1, .int .u8 m1], .agg #[.int .u8 k2, .slice la2 ln2 lc2, .slice pa2 pn2 pc2, .int .u8 n2, .int .u8 m2]] w fun e w' => e = .returned (.bool true) ∧ Below w.heap.size w w' := by
  have e1 : (w.alloc (.cells #[.int .u8 k1, .slice la1 ln1 lc1, .slice pa1 pn1 pc1, .int .u8 n1, .int .u8 m1] 25)).heap.size = w.heap.size + 1 := World.size_alloc _ _
  have hA : Below w.heap.size w ((w.alloc (.cells #[.int .u8 k1, .slice la1 ln1 lc1, .slice pa1 pn1 pc1, .int .u8 n1, .int .u8 m1] 25)).alloc (.cells #[.int .u8 k2, .slice la2 ln2 lc2, .slice pa2 pn2 pc2, .int .u8 n2, .int .u8 m2] 25)) := ((Below.refl _ _).alloc (Nat.le_refl _) _).alloc (by omega) _
  have R1a : RwBlock ((w.alloc (.cells #[.int .u8 k1, .slice la1 ln1 lc1, .slice pa1 pn1 pc1, .int .u8 n1, .int .u8 m1] 25)).alloc (.cells #[.int .u8 k2, .slice la2 ln2 lc2, .slice pa2 pn2 pc2, .int .u8 n2, .int .u8 m2] 25)) w.heap.size k1 (.slice la1 ln1 lc1) (.slice pa1 pn1 pc1) n1 m1 := (RwBlock.new w _ _ _ _ _).alloc _
  have R2a : RwBlock ((w.alloc (.cells #[.int .u8 k1, .slice la1 ln1 lc1, .slice pa1 pn1 pc1, .int .u8 n1, .int .u8 m1] 25)).alloc (.cells #[.int .u8 k2, .slice la2 ln2 lc2, .slice pa2 pn2 pc2, .int .u8 n2, .int .u8 m2] 25)) (w.heap.size + 1) k2 (.slice la2 ln2 lc2) (.slice pa2 pn2 pc2) n2 m2 := by rw [← e1]; exact RwBlock.new _ _ _ _ _ _
  have C0 := Lib.hid (sanity_any mx ((w.alloc (.cells #[.int .u8 k1, .slice la1 ln1 lc1, .slice pa1 pn1 pc1, .int .u8 n1, .int .u8 m1] 25)).alloc (.cells #[.int .u8 k2, .slice la2 ln2 lc2, .slice pa2 pn2 pc2, .int .u8 n2, .int .u8 m2] 25)) (hT.below hA) (hm.below hA hw0) (Nat.lt_of_lt_of_le hw0 hA.size))
  have T := Lib.hid (hT.below hA)
  have X1 := Lib.hid (hx.into hA)
  have Y1 := Lib.hid (hy.into hA)
  have R1 := Lib.hid R1a
  have R2 := Lib.hid R2a
  have HA := Lib.hid hA
  clear e1 hA R1a R2a hT hm hw0 hx hy
  go_enter Tryd.func5, Tryd.ntmps5
  go_wp2_with fail
  generalize ((w.alloc (.cells #[.int .u8 k1, .slice la1 ln1 lc1, .slice pa1 pn1 pc1, .int .u8 n1, .int .u8 m1] 25)).alloc (.cells #[.int .u8 k2, .slice la2 ln2 lc2, .slice pa2 pn2 pc2, .int .u8 n2, .int .u8 m2] 25)) = w2 at *
  refine (C0.out).mono ?_
  rintro e x0 ⟨rfl, hb⟩
  have T0 := Lib.hid (T.out.below hb)
  have X0 := Lib.hid (X1.out.into hb)
  have Y0 := Lib.hid (Y1.out.into hb)
  have R10 := R1.out.below hb
  have R20 := Lib.hid (R2.out.below hb)
  have H0 := Lib.hid (HA.out.trans (hb.mono HA.out.size))
  clear hb C0 T X1 Y1 R1 R2 HA
  obtain ⟨r0, r1, r2, r3, r4⟩ := R10.cells
  clear R10
  go_wp2_with fail
  clear r0 r1 r2 r3 r4
  refine (made_raw _ _ X0.out).mono ?_
  rintro e x1 ⟨⟨ev1, a1, c1, rfl, hv1, hP⟩, hb⟩
  have hv1' := Lib.hid hv1
  have hal := below_alloc x1 (.cells #[.int .i64 ev1.kind, .string (B ev1.keys), .slice a1 ev1.p.length c1, .string (B ev1.text), .int .i64 ev1.n, .int .i64 ev1.l] 31)
  have T1 := Lib.hid ((T0.out.below hb).below hal)
  have Y1 := Lib.hid ((Y0.out.into hb).into hal)
  have R21 := (R20.out.below hb).alloc (.cells #[.int .i64 ev1.kind, .string (B ev1.keys), .slice a1 ev1.p.length c1, .string (B ev1.text), .int .i64 ev1.n, .int .i64 ev1.l] 31)
  have H1 := Lib.hid ((H0.out.trans (hb.mono H0.out.size)).trans (hal.mono (Nat.le_trans H0.out.size hb.size)))
  have E11 := Lib.hid (EvBlock.new x1 (.int .i64 ev1.kind) (.string (B ev1.keys)) (.slice a1 ev1.p.length c1) (.string (B ev1.text)) (.int .i64 ev1.n) (.int .i64 ev1.l))
  have P11 := Lib.hid (hP.pts.on hal)
  clear hb hal hP hv1 T0 X0 Y0 R20 H0
  obtain ⟨r0, r1, r2, r3, r4⟩ := R21.cells
  clear R21
  unfold evVal
  go_wp2_with fail
  clear r0 r1 r2 r3 r4
  generalize x1.alloc (.cells #[.int .i64 ev1.kind, .string (B ev1.keys), .slice a1 ev1.p.length c1, .string (B ev1.text), .int .i64 ev1.n, .int .i64 ev1.l] 31) = y1 at *
  refine (made_raw _ _ Y1.out).mono ?_
  rintro e x2 ⟨⟨ev2, a2, c2, rfl, hv2, hP⟩, hb⟩
  have hv2' := Lib.hid hv2
  have hal := below_alloc x2 (.cells #[.int .i64 ev2.kind, .string (B ev2.keys), .slice a2 ev2.p.length c2, .string (B ev2.text), .int .i64 ev2.n, .int .i64 ev2.l] 31)
  have T2 := Lib.hid ((T1.out.below hb).below hal)
  have H2 := Lib.hid ((H1.out.trans (hb.mono H1.out.size)).trans (hal.mono (Nat.le_trans H1.out.size hb.size)))
  have E12 := Lib.hid ((E11.out.below hb).alloc (.cells #[.int .i64 ev2.kind, .string (B ev2.keys), .slice a2 ev2.p.length c2, .string (B ev2.text), .int .i64 ev2.n, .int .i64 ev2.l] 31))
  have P12 := Lib.hid ((P11.out.on hb).on hal)
  have E22 := Lib.hid (EvBlock.new x2 (.int .i64 ev2.kind) (.string (B ev2.keys)) (.slice a2 ev2.p.length c2) (.string (B ev2.text)) (.int .i64 ev2.n) (.int .i64 ev2.l))
  have P22 := Lib.hid (hP.pts.on hal)
  clear hb hal hP hv2 T1 Y1 H1 E11 P11
  obtain ⟨g0, g1, g2, g3, g4, g5⟩ := E12.out.cells
  unfold evVal
  go_wp2_with fail
  clear g0 g1 g2 g3 g4 g5
  generalize x2.alloc (.cells #[.int .i64 ev2.kind, .string (B ev2.keys), .slice a2 ev2.p.length c2, .string (B ev2.text), .int .i64 ev2.n, .int .i64 ev2.l] 31) = y2 at *
  refine (print_ev ev1 hv1'.out a1 c1 _ P12.out T2.out).mono ?_
  rintro e x3 ⟨rfl, hb⟩
  have T3 := Lib.hid (T2.out.below hb)
  have H3 := Lib.hid (H2.out.trans (hb.mono H2.out.size))
  have E13 := Lib.hid (E12.out.below hb)
  have E23 := Lib.hid (E22.out.below hb)
  have P13 := Lib.hid (P12.out.on hb)
  have P23 := Lib.hid (P22.out.on hb)
  clear hb T2 H2 E12 E22 P12 P22
  go_wp2_with fail
  refine (parse_printed ev1 hv1'.out _).mono ?_
  rintro e x4 ⟨⟨a3, c3, rfl, hP⟩, hb⟩
  have hal := below_alloc x4 (.cells #[.int .i64 ev1.kind, .string (B ev1.keys), .slice a3 ev1.p.length c3, .string (B ev1.text), .int .i64 ev1.n, .int .i64 ev1.l] 31)
  have T4 := Lib.hid ((T3.out.below hb).below hal)
  have H4 := Lib.hid ((H3.out.trans (hb.mono H3.out.size)).trans (hal.mono (Nat.le_trans H3.out.size hb.size)))
  have E14 := Lib.hid ((E13.out.below hb).alloc (.cells #[.int .i64 ev1.kind, .string (B ev1.keys), .slice a3 ev1.p.length c3, .string (B ev1.text), .int .i64 ev1.n, .int .i64 ev1.l] 31))
  have E24 := Lib.hid ((E23.out.below hb).alloc (.cells #[.int .i64 ev1.kind, .string (B ev1.keys), .slice a3 ev1.p.length c3, .string (B ev1.text), .int .i64 ev1.n, .int .i64 ev1.l] 31))
  have E34 := Lib.hid (EvBlock.new x4 (.int .i64 ev1.kind) (.string (B ev1.keys)) (.slice a3 ev1.p.length c3) (.string (B ev1.text)) (.int .i64 ev1.n) (.int .i64 ev1.l))
  have P14 := Lib.hid ((P13.out.on hb).on hal)
  have P24 := Lib.hid ((P23.out.on hb).on hal)
  have P34 := Lib.hid (hP.on hal)
  clear hb hal hP T3 H3 E13 E23 P13 P23
  go_wp2_with fail
  generalize x4.alloc (.cells #[.int .i64 ev1.kind, .string (B ev1.keys), .slice a3 ev1.p.length c3, .string (B ev1.text), .int .i64 ev1.n, .int .i64 ev1.l] 31) = x5 at *
  have CJ : ∀ W, Below x5.heap.size x5 W → Hid (W.cell? ⟨x1.heap.size, 0, none⟩ = some (.int .i64 ev1.kind) ∧ W.cell? ⟨x1.heap.size, 1, none⟩ = some (.string (B ev1.keys)) ∧ W.cell? ⟨x1.heap.size, 2, none⟩ = some (.slice a1 ev1.p.length c1) ∧ W.cell? ⟨x1.heap.size, 3, none⟩ = some (.string (B ev1.text)) ∧ W.cell? ⟨x1.heap.size, 4, none⟩ = some (.int .i64 ev1.n) ∧ W.cell? ⟨x1.heap.size, 5, none⟩ = some (.int .i64 ev1.l) ∧ W.cell? ⟨x2.heap.size, 0, none⟩ = some (.int .i64 ev2.kind) ∧ W.cell? ⟨x2.heap.size, 1, none⟩ = some (.string (B ev2.keys)) ∧ W.cell? ⟨x2.heap.size, 2, none⟩ = some (.slice a2 ev2.p.length c2) ∧ W.cell? ⟨x2.heap.size, 3, none⟩ = some (.string (B ev2.text)) ∧ W.cell? ⟨x2.heap.size, 4, none⟩ = some (.int .i64 ev2.n) ∧ W.cell? ⟨x2.heap.size, 5, none⟩ = some (.int .i64 ev2.l) ∧ W.cell? ⟨x4.heap.size, 0, none⟩ = some (.int .i64 ev1.kind) ∧ W.cell? ⟨x4.heap.size, 1, none⟩ = some (.string (B ev1.keys)) ∧ W.cell? ⟨x4.heap.size, 2, none⟩ = some (.slice a3 ev1.p.length c3) ∧ W.cell? ⟨x4.heap.size, 3, none⟩ = some (.string (B ev1.text)) ∧ W.cell? ⟨x4.heap.size, 4, none⟩ = some (.int .i64 ev1.n) ∧ W.cell? ⟨x4.heap.size, 5, none⟩ = some (.int .i64 ev1.l) ∧ Below x5.heap.size x5 W) := fun W hb => by
    obtain ⟨u0, u1, u2, u3, u4, u5⟩ := (E14.out.below hb).cells
    obtain ⟨v0, v1, v2, v3, v4, v5⟩ := (E24.out.below hb).cells
    obtain ⟨s0, s1, s2, s3, s4, s5⟩ := (E34.out.below hb).cells
    exact Lib.hid ⟨u0, u1, u2, u3, u4, u5, v0, v1, v2, v3, v4, v5, s0, s1, s2, s3, s4, s5, hb⟩
  have CS1 : ∀ W, (W.cell? ⟨x1.heap.size, 0, none⟩ = some (.int .i64 ev1.kind) ∧ W.cell? ⟨x1.heap.size, 1, none⟩ = some (.string (B ev1.keys)) ∧ W.cell? ⟨x1.heap.size, 2, none⟩ = some (.slice a1 ev1.p.length c1) ∧ W.cell? ⟨x1.heap.size, 3, none⟩ = some (.string (B ev1.text)) ∧ W.cell? ⟨x1.heap.size, 4, none⟩ = some (.int .i64 ev1.n) ∧ W.cell? ⟨x1.heap.size, 5, none⟩ = some (.int .i64 ev1.l) ∧ W.cell? ⟨x2.heap.size, 0, none⟩ = some (.int .i64 ev2.kind) ∧ W.cell? ⟨x2.heap.size, 1, none⟩ = some (.string (B ev2.keys)) ∧ W.cell? ⟨x2.heap.size, 2, none⟩ = some (.slice a2 ev2.p.length c2) ∧ W.cell? ⟨x2.heap.size, 3, none⟩ = some (.string (B ev2.text)) ∧ W.cell? ⟨x2.heap.size, 4, none⟩ = some (.int .i64 ev2.n) ∧ W.cell? ⟨x2.heap.size, 5, none⟩ = some (.int .i64 ev2.l) ∧ W.cell? ⟨x4.heap.size, 0, none⟩ = some (.int .i64 ev1.kind) ∧ W.cell? ⟨x4.heap.size, 1, none⟩ = some (.string (B ev1.keys)) ∧ W.cell? ⟨x4.heap.size, 2, none⟩ = some (.slice a3 ev1.p.length c3) ∧ W.cell? ⟨x4.heap.size, 3, none⟩ = some (.string (B ev1.text)) ∧ W.cell? ⟨x4.heap.size, 4, none⟩ = some (.int .i64 ev1.n) ∧ W.cell? ⟨x4.heap.size, 5, none⟩ = some (.int .i64 ev1.l) ∧ Below x5.heap.size x5 W) → Hid (Calls Tryd.prog 14 #[evV ev1 a3 c3, evV ev1 a1 c1] W fun e w' => e = .returned (.bool true) ∧ w'.cell? ⟨x1.heap.size, 0, none⟩ = some (.int .i64 ev1.kind) ∧ w'.cell? ⟨x1.heap.size, 1, none⟩ = some (.string (B ev1.keys)) ∧ w'.cell? ⟨x1.heap.size, 2, none⟩ = some (.slice a1 ev1.p.length c1) ∧ w'.cell? ⟨x1.heap.size, 3, none⟩ = some (.string (B ev1.text)) ∧ w'.cell? ⟨x1.heap.size, 4, none⟩ = some (.int .i64 ev1.n) ∧ w'.cell? ⟨x1.heap.size, 5, none⟩ = some (.int .i64 ev1.l) ∧ w'.cell? ⟨x2.heap.size, 0, none⟩ = some (.int .i64 ev2.kind) ∧ w'.cell? ⟨x2.heap.size, 1, none⟩ = some (.string (B ev2.keys)) ∧ w'.cell? ⟨x2.heap.size, 2, none⟩ = some (.slice a2 ev2.p.length c2) ∧ w'.cell? ⟨x2.heap.size, 3, none⟩ = some (.string (B ev2.text)) ∧ w'.cell? ⟨x2.heap.size, 4, none⟩ = some (.int .i64 ev2.n) ∧ w'.cell? ⟨x2.heap.size, 5, none⟩ = some (.int .i64 ev2.l) ∧ w'.cell? ⟨x4.heap.size, 0, none⟩ = some (.int .i64 ev1.kind) ∧ w'.cell? ⟨x4.heap.size, 1, none⟩ = some (.string (B ev1.keys)) ∧ w'.cell? ⟨x4.heap.size, 2, none⟩ = some (.slice a3 ev1.p.length c3) ∧ w'.cell? ⟨x4.heap.size, 3, none⟩ = some (.string (B ev1.text)) ∧ w'.cell? ⟨x4.heap.size, 4, none⟩ = some (.int .i64 ev1.n) ∧ w'.cell? ⟨x4.heap.size, 5, none⟩ = some (.int .i64 ev1.l) ∧ Below x5.heap.size x5 w') := fun W h => by
    obtain ⟨-, -, -, -, -, -, -, -, -, -, -, -, -, -, -, -, -, -, hb⟩ := h
    refine Lib.hid ((same_evs ev1 ev1 a3 a1 c3 c1 W (P34.out.on hb) (P14.out.on hb) (by have := valid_pts hv1'.out; omega)).mono ?_)
    rintro e w' ⟨rfl, hb'⟩
    rw [sameB_self]
    exact ⟨rfl, (CJ w' (hb.trans (hb'.mono hb.size))).out⟩
  have CP : ∀ W, (W.cell? ⟨x1.heap.size, 0, none⟩ = some (.int .i64 ev1.kind) ∧ W.cell? ⟨x1.heap.size, 1, none⟩ = some (.string (B ev1.keys)) ∧ W.cell? ⟨x1.heap.size, 2, none⟩ = some (.slice a1 ev1.p.length c1) ∧ W.cell? ⟨x1.heap.size, 3, none⟩ = some (.string (B ev1.text)) ∧ W.cell? ⟨x1.heap.size, 4, none⟩ = some (.int .i64 ev1.n) ∧ W.cell? ⟨x1.heap.size, 5, none⟩ = some (.int .i64 ev1.l) ∧ W.cell? ⟨x2.heap.size, 0, none⟩ = some (.int .i64 ev2.kind) ∧ W.cell? ⟨x2.heap.size, 1, none⟩ = some (.string (B ev2.keys)) ∧ W.cell? ⟨x2.heap.size, 2, none⟩ = some (.slice a2 ev2.p.length c2) ∧ W.cell? ⟨x2.heap.size, 3, none⟩ = some (.string (B ev2.text)) ∧ W.cell? ⟨x2.heap.size, 4, none⟩ = some (.int .i64 ev2.n) ∧ W.cell? ⟨x2.heap.size, 5, none⟩ = some (.int .i64 ev2.l) ∧ W.cell? ⟨x4.heap.size, 0, none⟩ = some (.int .i64 ev1.kind) ∧ W.cell? ⟨x4.heap.size, 1, none⟩ = some (.string (B ev1.keys)) ∧ W.cell? ⟨x4.heap.size, 2, none⟩ = some (.slice a3 ev1.p.length c3) ∧ W.cell? ⟨x4.heap.size, 3, none⟩ = some (.string (B ev1.text)) ∧ W.cell? ⟨x4.heap.size, 4, none⟩ = some (.int .i64 ev1.n) ∧ W.cell? ⟨x4.heap.size, 5, none⟩ = some (.int .i64 ev1.l) ∧ Below x5.heap.size x5 W) → Hid (Calls Tryd.prog 15 #[evV ev2 a2 c2] W fun e w' => e = .returned (.string (B (printS ev2))) ∧ w'.cell? ⟨x1.heap.size, 0, none⟩ = some (.int .i64 ev1.kind) ∧ w'.cell? ⟨x1.heap.size, 1, none⟩ = some (.string (B ev1.keys)) ∧ w'.cell? ⟨x1.heap.size, 2, none⟩ = some (.slice a1 ev1.p.length c1) ∧ w'.cell? ⟨x1.heap.size, 3, none⟩ = some (.string (B ev1.text)) ∧ w'.cell? ⟨x1.heap.size, 4, none⟩ = some (.int .i64 ev1.n) ∧ w'.cell? ⟨x1.heap.size, 5, none⟩ = some (.int .i64 ev1.l) ∧ w'.cell? ⟨x2.heap.size, 0, none⟩ = some (.int .i64 ev2.kind) ∧ w'.cell? ⟨x2.heap.size, 1, none⟩ = some (.string (B ev2.keys)) ∧ w'.cell? ⟨x2.heap.size, 2, none⟩ = some (.slice a2 ev2.p.length c2) ∧ w'.cell? ⟨x2.heap.size, 3, none⟩ = some (.string (B ev2.text)) ∧ w'.cell? ⟨x2.heap.size, 4, none⟩ = some (.int .i64 ev2.n) ∧ w'.cell? ⟨x2.heap.size, 5, none⟩ = some (.int .i64 ev2.l) ∧ w'.cell? ⟨x4.heap.size, 0, none⟩ = some (.int .i64 ev1.kind) ∧ w'.cell? ⟨x4.heap.size, 1, none⟩ = some (.string (B ev1.keys)) ∧ w'.cell? ⟨x4.heap.size, 2, none⟩ = some (.slice a3 ev1.p.length c3) ∧ w'.cell? ⟨x4.heap.size, 3, none⟩ = some (.string (B ev1.text)) ∧ w'.cell? ⟨x4.heap.size, 4, none⟩ = some (.int .i64 ev1.n) ∧ w'.cell? ⟨x4.heap.size, 5, none⟩ = some (.int .i64 ev1.l) ∧ Below x5.heap.size x5 w') := fun W h => by
    obtain ⟨-, -, -, -, -, -, -, -, -, -, -, -, -, -, -, -, -, -, hb⟩ := h
    refine Lib.hid ((print_ev ev2 hv2'.out a2 c2 W (P24.out.on hb) (T4.out.below hb)).mono ?_)
    rintro e w' ⟨rfl, hb'⟩
    exact ⟨rfl, (CJ w' (hb.trans (hb'.mono hb.size))).out⟩
  have CS2 : ∀ W, (W.cell? ⟨x1.heap.size, 0, none⟩ = some (.int .i64 ev1.kind) ∧ W.cell? ⟨x1.heap.size, 1, none⟩ = some (.string (B ev1.keys)) ∧ W.cell? ⟨x1.heap.size, 2, none⟩ = some (.slice a1 ev1.p.length c1) ∧ W.cell? ⟨x1.heap.size, 3, none⟩ = some (.string (B ev1.text)) ∧ W.cell? ⟨x1.heap.size, 4, none⟩ = some (.int .i64 ev1.n) ∧ W.cell? ⟨x1.heap.size, 5, none⟩ = some (.int .i64 ev1.l) ∧ W.cell? ⟨x2.heap.size, 0, none⟩ = some (.int .i64 ev2.kind) ∧ W.cell? ⟨x2.heap.size, 1, none⟩ = some (.string (B ev2.keys)) ∧ W.cell? ⟨x2.heap.size, 2, none⟩ = some (.slice a2 ev2.p.length c2) ∧ W.cell? ⟨x2.heap.size, 3, none⟩ = some (.string (B ev2.text)) ∧ W.cell? ⟨x2.heap.size, 4, none⟩ = some (.int .i64 ev2.n) ∧ W.cell? ⟨x2.heap.size, 5, none⟩ = some (.int .i64 ev2.l) ∧ W.cell? ⟨x4.heap.size, 0, none⟩ = some (.int .i64 ev1.kind) ∧ W.cell? ⟨x4.heap.size, 1, none⟩ = some (.string (B ev1.keys)) ∧ W.cell? ⟨x4.heap.size, 2, none⟩ = some (.slice a3 ev1.p.length c3) ∧ W.cell? ⟨x4.heap.size, 3, none⟩ = some (.string (B ev1.text)) ∧ W.cell? ⟨x4.heap.size, 4, none⟩ = some (.int .i64 ev1.n) ∧ W.cell? ⟨x4.heap.size, 5, none⟩ = some (.int .i64 ev1.l) ∧ Below x5.heap.size x5 W) → Hid (Calls Tryd.prog 14 #[evV ev1 a1 c1, evV ev2 a2 c2] W fun e w' => e = .returned (.bool (sameB ev1 ev2)) ∧ w'.cell? ⟨x1.heap.size, 0, none⟩ = some (.int .i64 ev1.kind) ∧ w'.cell? ⟨x1.heap.size, 1, none⟩ = some (.string (B ev1.keys)) ∧ w'.cell? ⟨x1.heap.size, 2, none⟩ = some (.slice a1 ev1.p.length c1) ∧ w'.cell? ⟨x1.heap.size, 3, none⟩ = some (.string (B ev1.text)) ∧ w'.cell? ⟨x1.heap.size, 4, none⟩ = some (.int .i64 ev1.n) ∧ w'.cell? ⟨x1.heap.size, 5, none⟩ = some (.int .i64 ev1.l) ∧ w'.cell? ⟨x2.heap.size, 0, none⟩ = some (.int .i64 ev2.kind) ∧ w'.cell? ⟨x2.heap.size, 1, none⟩ = some (.string (B ev2.keys)) ∧ w'.cell? ⟨x2.heap.size, 2, none⟩ = some (.slice a2 ev2.p.length c2) ∧ w'.cell? ⟨x2.heap.size, 3, none⟩ = some (.string (B ev2.text)) ∧ w'.cell? ⟨x2.heap.size, 4, none⟩ = some (.int .i64 ev2.n) ∧ w'.cell? ⟨x2.heap.size, 5, none⟩ = some (.int .i64 ev2.l) ∧ w'.cell? ⟨x4.heap.size, 0, none⟩ = some (.int .i64 ev1.kind) ∧ w'.cell? ⟨x4.heap.size, 1, none⟩ = some (.string (B ev1.keys)) ∧ w'.cell? ⟨x4.heap.size, 2, none⟩ = some (.slice a3 ev1.p.length c3) ∧ w'.cell? ⟨x4.heap.size, 3, none⟩ = some (.string (B ev1.text)) ∧ w'.cell? ⟨x4.heap.size, 4, none⟩ = some (.int .i64 ev1.n) ∧ w'.cell? ⟨x4.heap.size, 5, none⟩ = some (.int .i64 ev1.l) ∧ Below x5.heap.size x5 w') := fun W h => by
    obtain ⟨-, -, -, -, -, -, -, -, -, -, -, -, -, -, -, -, -, -, hb⟩ := h
    refine Lib.hid ((same_evs ev1 ev2 a1 a2 c1 c2 W (P14.out.on hb) (P24.out.on hb) (by have := valid_pts hv1'.out; omega)).mono ?_)
    rintro e w' ⟨rfl, hb'⟩
    exact ⟨rfl, (CJ w' (hb.trans (hb'.mono hb.size))).out⟩
  have LE := Lib.hid ((line_eq ev2 ev1 hv2'.out hv1'.out).trans (sameB_comm ev2 ev1))
  obtain ⟨u0, u1, u2, u3, u4, u5, v0, v1, v2, v3, v4, v5, s0, s1, s2, s3, s4, s5, hb5⟩ := (CJ x5 (Below.refl _ _)).out
  clear CJ T4 E14 E24 E34 P14 P24 P34 hv1' hv2'
  go_region_held3 (fun W => W.cell? ⟨x1.heap.size, 0, none⟩ = some (.int .i64 ev1.kind) ∧ W.cell? ⟨x1.heap.size, 1, none⟩ = some (.string (B ev1.keys)) ∧ W.cell? ⟨x1.heap.size, 2, none⟩ = some (.slice a1 ev1.p.length c1) ∧ W.cell? ⟨x1.heap.size, 3, none⟩ = some (.string (B ev1.text)) ∧ W.cell? ⟨x1.heap.size, 4, none⟩ = some (.int .i64 ev1.n) ∧ W.cell? ⟨x1.heap.size, 5, none⟩ = some (.int .i64 ev1.l) ∧ W.cell? ⟨x2.heap.size, 0, none⟩ = some (.int .i64 ev2.kind) ∧ W.cell? ⟨x2.heap.size, 1, none⟩ = some (.string (B ev2.keys)) ∧ W.cell? ⟨x2.heap.size, 2, none⟩ = some (.slice a2 ev2.p.length c2) ∧ W.cell? ⟨x2.heap.size, 3, none⟩ = some (.string (B ev2.text)) ∧ W.cell? ⟨x2.heap.size, 4, none⟩ = some (.int .i64 ev2.n) ∧ W.cell? ⟨x2.heap.size, 5, none⟩ = some (.int .i64 ev2.l) ∧ W.cell? ⟨x4.heap.size, 0, none⟩ = some (.int .i64 ev1.kind) ∧ W.cell? ⟨x4.heap.size, 1, none⟩ = some (.string (B ev1.keys)) ∧ W.cell? ⟨x4.heap.size, 2, none⟩ = some (.slice a3 ev1.p.length c3) ∧ W.cell? ⟨x4.heap.size, 3, none⟩ = some (.string (B ev1.text)) ∧ W.cell? ⟨x4.heap.size, 4, none⟩ = some (.int .i64 ev1.n) ∧ W.cell? ⟨x4.heap.size, 5, none⟩ = some (.int .i64 ev1.l) ∧ Below x5.heap.size x5 W) (first | assumption | exact Below.drew (by assumption) | (refine ⟨?_, ?_, ?_, ?_, ?_, ?_, ?_, ?_, ?_, ?_, ?_, ?_, ?_, ?_, ?_, ?_, ?_, ?_, ?_⟩ <;> first | assumption | exact Below.drew (by assumption)))
    (first
      | (go_at_call_of 14 (Value.agg #[.int .i64 ev1.kind, .string (B ev1.keys), .slice a3 ev1.p.length c3, .string (B ev1.text), .int .i64 ev1.n, .int .i64 ev1.l]); refine ((CS1 _ ?_).out).mono ?_; (assumption); rintro e w' ⟨rfl, hcj⟩)
      | (go_at_call 15; refine ((CP _ ?_).out).mono ?_; (assumption); rintro e w' ⟨rfl, hcj⟩)
      | (go_at_call_of 14 (Value.agg #[.int .i64 ev1.kind, .string (B ev1.keys), .slice a1 ev1.p.length c1, .string (B ev1.text), .int .i64 ev1.n, .int .i64 ev1.l]); refine ((CS2 _ ?_).out).mono ?_; (assumption); rintro e w' ⟨rfl, hcj⟩))
  obtain ⟨-, -, -, -, -, -, -, -, -, -, -, -, -, -, -, -, -, -, hbe⟩ := hcj
  clear u0 u1 u2 u3 u4 u5 v0 v1 v2 v3 v4 v5 s0 s1 s2 s3 s4 s5 hb5 CS1 CS2 CP
  have HE := Lib.hid (H4.out.trans (hbe.mono H4.out.size))
  clear hbe
  go_wp2_with fail
  go_ret
  exact ⟨ret_bool (by rw [LE.out]; simp), HE.out⟩
end Go.Proofs.YtcbboegjegobeaaDoor
