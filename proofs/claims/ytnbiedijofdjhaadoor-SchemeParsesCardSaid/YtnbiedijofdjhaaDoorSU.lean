/-
  The reference's Same: two schemes are equal.
-/
import Derived.Test.YtnbiedijofdjhaaDoorST
namespace Go.Proofs.YtnbiedijofdjhaaDoor
open Go.RowKit
open Pl

def sameB (m1 a1 : Int) (rs1 : List Rl) (m2 a2 : Int) (rs2 : List Rl) : Bool := decide (m1 = m2 ∧ a1 = a2 ∧ rs1 = rs2)
theorem neq_rl (x y : Rl) (W : World) : (binOp .neq 29 (rlV x) (rlV y)).run Tryd.prog W = .ok (.bool (!decide (x = y))) W := by
  have h : (binOp .neq 29 (rlV x) (rlV y)).run Tryd.prog W = .ok (.bool (!(x.src == y.src && (x.dst == y.dst && ((B x.inp).toList == (B y.inp).toList && ((B x.out).toList == (B y.out).toList && x.cost == y.cost)))))) W := by
    rw [run_neq_struct, show (10000 : Nat) = 9999 + 1 from rfl, run_equalIn_agg W 9999 29 _ _ (by kernel_rfl) (by kernel_rfl)]
    simp [Program.fieldsOf, Tryd.underlying29, Op.eqFields, go_sem]
    by_cases h1 : x.src = y.src <;> by_cases h2 : x.dst = y.dst <;> by_cases h3 : (B x.inp).toList = (B y.inp).toList <;> by_cases h4 : (B x.out).toList = (B y.out).toList <;> by_cases h5 : x.cost = y.cost <;> simp [h1, h2, h3, h4, h5]
  have key : (x.src == y.src && (x.dst == y.dst && ((B x.inp).toList == (B y.inp).toList && ((B x.out).toList == (B y.out).toList && x.cost == y.cost)))) = decide (x = y) := by
    rw [str_eq, str_eq, Bool.eq_iff_iff]
    obtain ⟨a, b, c, d, e⟩ := x
    obtain ⟨a', b', c', d', e'⟩ := y
    simp only [Bool.and_eq_true, beq_iff_eq, decide_eq_true_eq, Rl.mk.injEq]
  rw [h, key]
theorem nguard_rl (o1 o2 : Operand) (xs ys : Array Value) (W : World) : (eqGuard .neq 29 o1 o2 (.agg xs) (.agg ys)).run Tryd.prog W = .ok () W :=
  run_eqGuard_agg W _ _ _ _ _ _ (by kernel_rfl)
set_option maxHeartbeats 1000000 in
set_option maxRecDepth 100000 in
theorem Same_any (m1 a1 m2 a2 : Int) (rs1 rs2 : List Rl) (va vb : Option Addr) (vc vd : Nat) (w : World) (h1 : RlsAt w w.heap.size (.slice va rs1.length vc) rs1) (h2 : RlsAt w w.heap.size (.slice vb rs2.length vd) rs2) (hm1 : rs1.length ≤ maxLen) :
    Calls Tryd.prog 23 #[.agg #[.int .i64 m1, .int .u8 a1, .slice va rs1.length vc], .agg #[.int .i64 m2, .int .u8 a2, .slice vb rs2.length vd]] w fun e w' => e = .returned (.bool (sameB m1 a1 rs1 m2 a2 rs2)) ∧ Below w.heap.size w w' := by
  have hb : Below w.heap.size w ((w.alloc (.cells #[.int .i64 m1, .int .u8 a1, .slice va rs1.length vc] 24)).alloc (.cells #[.int .i64 m2, .int .u8 a2, .slice vb rs2.length vd] 24)) := ((Below.refl _ _).alloc (Nat.le_refl _) _).alloc (by simp) _
  have SB0 := Lib.hid (show SchBlock ((w.alloc (.cells #[.int .i64 m1, .int .u8 a1, .slice va rs1.length vc] 24)).alloc (.cells #[.int .i64 m2, .int .u8 a2, .slice vb rs2.length vd] 24)) w.heap.size (.int .i64 m1) (.int .u8 a1) (.slice va rs1.length vc) from (SchBlock.new w _ _ _).alloc _)
  have TB0 := Lib.hid (show SchBlock ((w.alloc (.cells #[.int .i64 m1, .int .u8 a1, .slice va rs1.length vc] 24)).alloc (.cells #[.int .i64 m2, .int .u8 a2, .slice vb rs2.length vd] 24)) (w.heap.size + 1) (.int .i64 m2) (.int .u8 a2) (.slice vb rs2.length vd) by
    have := SchBlock.new (w.alloc (.cells #[.int .i64 m1, .int .u8 a1, .slice va rs1.length vc] 24)) (.int .i64 m2) (.int .u8 a2) (.slice vb rs2.length vd)
    rw [World.size_alloc] at this
    exact this)
  have HX := Lib.hid (h1.on hb)
  have HY := Lib.hid (h2.on hb)
  have HB := Lib.hid hb
  have HM1 := Lib.hid hm1
  clear h1 h2 hb hm1
  have key : (m1 != m2) = true ∨ ((m1 != m2) = false ∧ (a1 != a2) = true) ∨ ((m1 != m2) = false ∧ (a1 != a2) = false ∧ ((rs1.length : Int) != (rs2.length : Int)) = true) ∨ ((m1 != m2) = false ∧ (a1 != a2) = false ∧ ((rs1.length : Int) != (rs2.length : Int)) = false) := by
    cases (m1 != m2) <;> cases (a1 != a2) <;> cases ((rs1.length : Int) != (rs2.length : Int)) <;> simp
  rcases key with k1 | ⟨k1, k2⟩ | ⟨k1, k2, k3⟩ | ⟨k1, k2, k3⟩
  · have E := Lib.hid (show sameB m1 a1 rs1 m2 a2 rs2 = false by unfold sameB; rw [decide_eq_false_iff_not]; rintro ⟨h, -, -⟩; rw [h] at k1; simp at k1)
    go_enter Tryd.func23, Tryd.ntmps23
    go_wp2_with fail
    generalize (w.alloc _).alloc _ = w1 at *
    obtain ⟨s0, s1, s2⟩ := SB0.out.cells
    obtain ⟨t0, t1, t2⟩ := TB0.out.cells
    go_wp2_with fail
    go_ret
    exact ⟨ret_bool E.out.symm, HB.out⟩
  · have E := Lib.hid (show sameB m1 a1 rs1 m2 a2 rs2 = false by unfold sameB; rw [decide_eq_false_iff_not]; rintro ⟨-, h, -⟩; rw [h] at k2; simp at k2)
    go_enter Tryd.func23, Tryd.ntmps23
    go_wp2_with fail
    generalize (w.alloc _).alloc _ = w1 at *
    obtain ⟨s0, s1, s2⟩ := SB0.out.cells
    obtain ⟨t0, t1, t2⟩ := TB0.out.cells
    go_wp2_with fail
    go_ret
    exact ⟨ret_bool E.out.symm, HB.out⟩
  · have E := Lib.hid (show sameB m1 a1 rs1 m2 a2 rs2 = false by unfold sameB; rw [decide_eq_false_iff_not]; rintro ⟨-, -, h⟩; rw [h] at k3; simp at k3)
    go_enter Tryd.func23, Tryd.ntmps23
    go_wp2_with fail
    generalize (w.alloc _).alloc _ = w1 at *
    obtain ⟨s0, s1, s2⟩ := SB0.out.cells
    obtain ⟨t0, t1, t2⟩ := TB0.out.cells
    go_wp2_with fail
    go_ret
    exact ⟨ret_bool E.out.symm, HB.out⟩
  · have e1 : m1 = m2 := by simpa using k1
    have e2 : a1 = a2 := by simpa using k2
    have e3 : rs1.length = rs2.length := by have : (rs1.length : Int) = rs2.length := by simpa using k3
                                            omega
    have E := Lib.hid (show sameB m1 a1 rs1 m2 a2 rs2 = decide (rs1 = rs2) by unfold sameB; simp [e1, e2])
    have E3 := Lib.hid e3
    clear e1 e2 e3
    go_enter Tryd.func23, Tryd.ntmps23
    go_wp2_with fail
    generalize (w.alloc _).alloc _ = w1 at *
    obtain ⟨s0, s1, s2⟩ := SB0.out.cells
    obtain ⟨t0, t1, t2⟩ := TB0.out.cells
    go_wp2_with fail
    clear s0 s1 s2 t0 t1 t2 k1 k2 k3
    go_loopw [5] (fun i wr => ∃ j : Nat, i = .int .i64 j ∧ j ≤ rs1.length ∧ rs1.take j = rs2.take j ∧ Below w1.heap.size w1 wr) (fun i _ => rs1.length - (intOf i).toNat)
    case atStart => exact ⟨0, rfl, Nat.zero_le _, by simp, Below.refl _ _⟩
    case round =>
      obtain ⟨j, rfl, hj, heq, hbr⟩ := hrel
      have HN := Lib.hid heq
      have HR := Lib.hid hbr
      clear heq
      have SB1 := SB0.out.below hbr
      have TB1 := TB0.out.below hbr
      obtain ⟨s0, s1, s2⟩ := SB1.cells
      obtain ⟨t0, t1, t2⟩ := TB1.cells
      clear SB1 TB1
      by_cases hlt : j < rs1.length
      · have hlt2 : j < rs2.length := by rw [← E3.out]; exact hlt
        obtain ⟨a0, c0, hv, hc⟩ := HX.out.on hbr
        obtain ⟨rfl, -⟩ : va = a0 ∧ vc = c0 := by simpa using hv
        obtain ⟨b, off, rfl, hbb, hc⟩ := hc (by omega)
        obtain ⟨q0, q1, q2, q3, q4⟩ := hc j hlt
        obtain ⟨a0, c0, hv2, hc2⟩ := HY.out.on hbr
        obtain ⟨rfl, -⟩ : vb = a0 ∧ vd = c0 := by simpa using hv2
        obtain ⟨b2, off2, rfl, hbb2, hc2⟩ := hc2 (by omega)
        obtain ⟨p0, p1, p2, p3, p4⟩ := hc2 j hlt2
        have EQ := fun W => neq_rl rs1[j] rs2[j] W
        have GD := nguard_rl
        have hj0 : (0 : Int) ≤ (j : Int) := by omega
        have hj1 : (j : Int) < (rs1.length : Int) := by omega
        have hj2 : (j : Int) < (rs2.length : Int) := by omega
        clear hc hv hbr hc2 hv2
        by_cases he : rs1[j] = rs2[j]
        · have hd : (!decide (rs1[j] = rs2[j])) = false := by simp [he]
          rw [hd] at EQ
          have HS := Lib.hid (show rs1.take (j + 1) = rs2.take (j + 1) by rw [List.take_succ_eq_append_getElem hlt, List.take_succ_eq_append_getElem hlt2, HN.out, he])
          have hmx : rs1.length ≤ 9223372036854775807 := by have := HM1.out; unfold maxLen at this; omega
          clear he hd
          generalize rs1[j] = x at *
          generalize rs2[j] = y at *
          obtain ⟨xs1, xs2, xs3, xs4, xs5⟩ := x
          obtain ⟨ys1, ys2, ys3, ys4, ys5⟩ := y
          dsimp only at q0 q1 q2 q3 q4 p0 p1 p2 p3 p4 EQ
          go_wp2_with fail
          go_quiet (fail)
          go_wp2_with fail
          go_roundw
          case rel => exact ⟨j + 1, by go_num, by omega, HS.out, below_drewN HR.out _⟩
          case measure => simp [intOf]; omega
        · have hd : (!decide (rs1[j] = rs2[j])) = true := by simp [he]
          rw [hd] at EQ
          have HS := Lib.hid (show sameB m1 a1 rs1 m2 a2 rs2 = false by
            rw [E.out, decide_eq_false_iff_not]
            intro h
            subst h
            exact he rfl)
          clear he hd
          generalize rs1[j] = x at *
          generalize rs2[j] = y at *
          obtain ⟨xs1, xs2, xs3, xs4, xs5⟩ := x
          obtain ⟨ys1, ys2, ys3, ys4, ys5⟩ := y
          dsimp only at q0 q1 q2 q3 q4 p0 p1 p2 p3 p4 EQ
          go_wp2_with fail
          go_quiet (fail)
          go_wp2_with fail
          go_returns
          exact ⟨ret_bool HS.out.symm, below_drewN (HB.out.trans (HR.out.mono HB.out.size)) _⟩
      · have hj1 : ¬ (j : Int) < (rs1.length : Int) := by omega
        have HS := Lib.hid (show sameB m1 a1 rs1 m2 a2 rs2 = true by
          rw [E.out, decide_eq_true_iff]
          have := HN.out
          rwa [List.take_of_length_le (by omega), List.take_of_length_le (by rw [← E3.out]; omega)] at this)
        go_wp2_with fail
        go_returns
        exact ⟨ret_bool HS.out.symm, HB.out.trans (HR.out.mono HB.out.size)⟩
end Go.Proofs.YtnbiedijofdjhaaDoor
