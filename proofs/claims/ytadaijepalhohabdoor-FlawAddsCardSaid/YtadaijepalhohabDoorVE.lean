/-
  The reference's Right.
-/
import Derived.Test.YtadaijepalhohabDoorVA
namespace Go.Proofs.YtadaijepalhohabDoor
open Go.RowKit
open Pl

theorem SchBlock.setCellAt {W : World} {b b' o : Nat} {c0 c1 c2 u : Value} (h : SchBlock W b c0 c1 c2) (hne : b' ≠ b) : SchBlock (W.setCell ⟨b', o, none⟩ u) b c0 c1 c2 := by
  unfold SchBlock at h ⊢
  simp only [World.setCell, Array.getElem?_modify, if_neg hne]; exact h
set_option maxHeartbeats 2000000 in
set_option maxRecDepth 100000 in
theorem RRight_any (modes acc : Int) (a : Option Addr) (c : Nat) (rs : List Rl) (i : Nat) (hi : i < rs.length) (w : World) (hx : RlsAt w w.heap.size (.slice a rs.length c) rs) (hm : rs.length ≤ maxLen)
    (hz : ∀ x ∈ rs, x.inp.length ≤ maxLen ∧ x.out.length ≤ maxLen) (hd : 0 ≤ modes ∧ modes ≤ 1000) :
    Calls Tryd.prog 16 #[.agg #[.int .i64 modes, .int .u8 acc, .slice a rs.length c], .int .i64 (i : Nat)] w fun e w' => e = .returned (.bool (rightB modes rs i rs[i])) ∧ Below w.heap.size w w' := by
  obtain ⟨r, hr⟩ : ∃ r, r = rs[i] := ⟨_, rfl⟩
  have hzr := hz rs[i] (List.getElem_mem hi)
  rw [← hr] at hzr ⊢
  obtain ⟨r0, r1, r2, r3, r4⟩ := r
  have hb : Below w.heap.size w ((w.alloc (.cells #[.int .i64 modes, .int .u8 acc, .slice a rs.length c] 28)).alloc (.cells #[.int .i64 r0, .int .i64 r1, .string (B r2), .string (B r3), .int .i64 r4] 31)) := ((Below.refl _ _).alloc (Nat.le_refl _) _).alloc (by simp) _
  have SB0 := Lib.hid (show SchBlock ((w.alloc (.cells #[.int .i64 modes, .int .u8 acc, .slice a rs.length c] 28)).alloc (.cells #[.int .i64 r0, .int .i64 r1, .string (B r2), .string (B r3), .int .i64 r4] 31)) w.heap.size (.int .i64 modes) (.int .u8 acc) (.slice a rs.length c) from (SchBlock.new w _ _ _).alloc _)
  have RB0 := Lib.hid (show RlBlock ((w.alloc (.cells #[.int .i64 modes, .int .u8 acc, .slice a rs.length c] 28)).alloc (.cells #[.int .i64 r0, .int .i64 r1, .string (B r2), .string (B r3), .int .i64 r4] 31)) (w.heap.size + 1) ⟨r0, r1, r2, r3, r4⟩ by
    have := rl_new (w.alloc (.cells #[.int .i64 modes, .int .u8 acc, .slice a rs.length c] 28)) ⟨r0, r1, r2, r3, r4⟩ _ rfl
    rw [World.size_alloc] at this
    exact this)
  have HB := Lib.hid hb
  have HX := Lib.hid (hx.on hb)
  have al := ((Below.refl w.heap.size w).alloc (Nat.le_refl _) (.cells #[.int .i64 modes, .int .u8 acc, .slice a rs.length c] 28))
  have E := Lib.hid (show rightB modes rs i ⟨r0, r1, r2, r3, r4⟩ = ((decide (0 ≤ r0) && decide (r0 ≤ modes - 1)) && ((decide (0 ≤ r1) && decide (r1 ≤ modes - 1)) && (decide (((B r2).size : Int) ≤ 4) && (onlyB 1 r2 && (decide (((B r3).size : Int) ≤ 4) && (onlyB 7 r3 && ((decide (0 ≤ r4) && decide (r4 ≤ 1000)) && !decide (⟨r0, r1, r2, r3, r4⟩ ∈ rs.take i)))))))) by
    unfold rightB modeB
    rw [show decide (r0 < modes) = decide (r0 ≤ modes - 1) from decide_eq_decide.2 (by omega), show decide (r1 < modes) = decide (r1 ≤ modes - 1) from decide_eq_decide.2 (by omega)]
    simp only [Bool.and_assoc])
  have hw1 : IntKind.i64.wrap (modes - 1) = modes - 1 := IntWalk.i64_in _ (by omega)
  have HM := Lib.hid hm
  have HI := Lib.hid hi
  have C1 := fun W => Lib.hid (In_any r0 0 (modes - 1) W)
  have C2 := fun W => Lib.hid (In_any r1 0 (modes - 1) W)
  have C3 := fun W => Lib.hid (Small_any (B r2) W (by have := hzr.1; unfold maxLen at this; rw [size_B]; dsimp only at this; omega))
  have C4 := fun W => Lib.hid (Plain_any (B r3) W (by have := hzr.2; unfold maxLen at this; rw [size_B]; dsimp only at this; omega))
  have C5 := fun W => Lib.hid (In_any r4 0 1000 W)
  rw [toList_B] at C3 C4
  obtain ⟨a0, c0, hv, hc⟩ := hx
  obtain ⟨rfl, -⟩ : a = a0 ∧ c = c0 := by simpa using hv
  obtain ⟨b, off, rfl, hbb, hc⟩ := hc (by omega)
  obtain ⟨z0, z1, z2, z3, z4⟩ := hc i hi
  rw [← hr] at z0 z1 z2 z3 z4
  have y := fun o => al.cell (p := ⟨b, o, none⟩) hbb
  have q0 := (y _).trans z0
  have q1 := (y _).trans z1
  have q2 := (y _).trans z2
  have q3 := (y _).trans z3
  have q4 := (y _).trans z4
  have hi0 : (0 : Int) ≤ (i : Int) := by omega
  have hi1 : (i : Int) < (rs.length : Int) := by omega
  clear hb hr hz hzr hd hc hv z0 z1 z2 z3 z4 y al hm hi
  dsimp only at q0 q1 q2 q3 q4
  go_enter Tryd.func16, Tryd.ntmps16
  go_wp2_with fail
  clear q0 q1 q2 q3 q4 hbb
  generalize (w.alloc _).alloc _ = w1 at *
  go_loopw [6] (fun k wr => ∃ j : Nat, k = .int .i64 j ∧ j ≤ i ∧ (⟨r0, r1, r2, r3, r4⟩ : Rl) ∉ rs.take j ∧ Below w1.heap.size w1 wr) (fun k _ => i - (intOf k).toNat)
  case atStart => exact ⟨0, rfl, Nat.zero_le _, by simp, Below.refl _ _⟩
  case round =>
    obtain ⟨j, rfl, hj, hno, hbr⟩ := hrel
    have HN := Lib.hid hno
    have HR := Lib.hid hbr
    clear hno
    obtain ⟨s0, s1, s2⟩ := (SB0.out.below hbr).cells
    obtain ⟨p0, p1, p2, p3, p4⟩ := (RB0.out.below hbr).cells
    dsimp only at p0 p1 p2 p3 p4
    by_cases hlt : j < i
    · have hlt' : j < rs.length := Nat.lt_trans hlt HI.out
      obtain ⟨a0, c0, hv, hc⟩ := HX.out.on hbr
      obtain ⟨ha, -⟩ : some (⟨b, off, none⟩ : Addr) = a0 ∧ c = c0 := by simpa using hv
      obtain ⟨b2, off2, hb2, hbb, hc⟩ := hc (by omega)
      obtain ⟨rfl, rfl⟩ : b = b2 ∧ off = off2 := by rw [← ha] at hb2; simpa using hb2
      obtain ⟨q0, q1, q2, q3, q4⟩ := hc j hlt'
      have EQ := fun W => eql_rl rs[j] ⟨r0, r1, r2, r3, r4⟩ W
      have GD := guard_rl
      have hj0 : (0 : Int) ≤ (j : Int) := by omega
      have hj1 : (j : Int) < (rs.length : Int) := by omega
      have hj2 : (j : Int) < (i : Int) := by omega
      clear hc hv hbr ha hb2
      by_cases he : rs[j] = ⟨r0, r1, r2, r3, r4⟩
      · have hd : decide (rs[j] = (⟨r0, r1, r2, r3, r4⟩ : Rl)) = true := decide_eq_true he
        rw [hd] at EQ
        have HF := Lib.hid (show rightB modes rs i ⟨r0, r1, r2, r3, r4⟩ = false by
          have : (⟨r0, r1, r2, r3, r4⟩ : Rl) ∈ rs.take i := by
            rw [← he]
            have : (rs.take i)[j]'(by rw [List.length_take]; omega) = rs[j] := List.getElem_take
            rw [← this]; exact List.getElem_mem _
          rw [E.out, decide_eq_true this]; simp)
        clear he hd
        generalize rs[j] = x at *
        obtain ⟨xs1, xs2, xs3, xs4, xs5⟩ := x
        dsimp only at q0 q1 q2 q3 q4 EQ
        go_wp2_with fail
        go_quiet (fail)
        go_wp2_with fail
        go_returns
        exact ⟨ret_bool HF.out.symm, below_drewN (HB.out.trans (HR.out.mono HB.out.size)) _⟩
      · have hd : decide (rs[j] = (⟨r0, r1, r2, r3, r4⟩ : Rl)) = false := decide_eq_false he
        rw [hd] at EQ
        have HS := Lib.hid (show (⟨r0, r1, r2, r3, r4⟩ : Rl) ∉ rs.take (j + 1) by
          rw [List.take_succ_eq_append_getElem hlt', List.mem_append, List.mem_singleton]
          exact fun h => h.elim HN.out (fun e => he e.symm))
        have hmx : rs.length ≤ 9223372036854775807 := by have := HM.out; unfold maxLen at this; omega
        clear he hd
        generalize rs[j] = x at *
        obtain ⟨xs1, xs2, xs3, xs4, xs5⟩ := x
        dsimp only at q0 q1 q2 q3 q4 EQ
        go_wp2_with fail
        go_quiet (fail)
        go_wp2_with fail
        go_roundw
        case rel => exact ⟨j + 1, by go_num, by omega, HS.out, below_drewN HR.out _⟩
        case measure => simp [intOf]; omega
    · have hj1 : ¬ (j : Int) < (i : Int) := by omega
      obtain rfl : j = i := by omega
      have HF := Lib.hid (show decide ((⟨r0, r1, r2, r3, r4⟩ : Rl) ∈ rs.take j) = false from decide_eq_false HN.out)
      have HBB := Lib.hid (HB.out.trans (HR.out.mono HB.out.size))
      rw [HF.out] at E
      clear hbr
      generalize (decide (0 ≤ r0) && decide (r0 ≤ modes - 1)) = t1 at *
      generalize (decide (0 ≤ r1) && decide (r1 ≤ modes - 1)) = t2 at *
      generalize onlyB 1 r2 = t3 at *
      generalize onlyB 7 r3 = t4 at *
      generalize (decide (0 ≤ r4) && decide (r4 ≤ 1000)) = t5 at *
      go_wp2_with fail
      refine ((C1 _).out).mono ?_
      rintro e x ⟨rfl, rfl⟩
      cases t1
      · go_wp2_with fail
        go_returns
        exact ⟨ret_bool (by rw [E.out]; simp), HBB.out⟩
      go_wp2_with fail
      refine ((C2 _).out).mono ?_
      rintro e x ⟨rfl, rfl⟩
      cases t2
      · go_wp2_with fail
        go_returns
        exact ⟨ret_bool (by rw [E.out]; simp), HBB.out⟩
      by_cases hl : ((B r2).size : Int) ≤ 4
      rotate_left
      · have hl' : decide (((B r2).size : Int) ≤ 4) = false := decide_eq_false hl
        go_wp2_with fail
        go_returns
        exact ⟨ret_bool (by rw [E.out, hl']; simp), HBB.out⟩
      have hl' : decide (((B r2).size : Int) ≤ 4) = true := decide_eq_true hl
      go_wp2_with fail
      refine ((C3 _).out).mono ?_
      rintro e x ⟨rfl, rfl⟩
      cases t3
      · go_wp2_with fail
        go_returns
        exact ⟨ret_bool (by rw [E.out]; simp), HBB.out⟩
      by_cases ho : ((B r3).size : Int) ≤ 4
      rotate_left
      · have ho' : decide (((B r3).size : Int) ≤ 4) = false := decide_eq_false ho
        go_wp2_with fail
        go_returns
        exact ⟨ret_bool (by rw [E.out, ho']; simp), HBB.out⟩
      have ho' : decide (((B r3).size : Int) ≤ 4) = true := decide_eq_true ho
      go_wp2_with fail
      refine ((C4 _).out).mono ?_
      rintro e x ⟨rfl, rfl⟩
      cases t4
      · go_wp2_with fail
        go_returns
        exact ⟨ret_bool (by rw [E.out]; simp), HBB.out⟩
      go_wp2_with fail
      refine ((C5 _).out).mono ?_
      rintro e x ⟨rfl, rfl⟩
      go_wp2_with fail
      go_returns
      exact ⟨ret_bool (by rw [E.out, hl', ho']; simp), HBB.out⟩
end Go.Proofs.YtadaijepalhohabDoor
