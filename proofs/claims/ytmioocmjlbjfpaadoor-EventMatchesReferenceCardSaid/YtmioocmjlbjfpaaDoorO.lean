/-
  The reference's Points and Same.
-/
import Derived.Test.YtmioocmjlbjfpaaDoorN
import Derived.Laws.StructEq
namespace Go.Proofs.YtmioocmjlbjfpaaDoor
open Go.RowKit
open Pl

theorem PtsAt.drewN {W : World} {B : Nat} {v : Value} {ps : List (Int × Int)} (h : PtsAt W B v ps) (n : Nat) : PtsAt (W.drewN n) B v ps := h
theorem drew2 (w : World) (n m : Nat) : (w.drewN n).drewN m = w.drewN (n + m) := by
  simp [World.drewN, Nat.add_assoc]
def ptsEq (ps qs : List (Int × Int)) : Bool := decide (ps = qs)

theorem guard_pt (o1 o2 : Operand) (xs ys : Array Value) (W : World) : (eqGuard .neq 40 o1 o2 (.agg xs) (.agg ys)).run Tryd.prog W = .ok () W :=
  run_eqGuard_agg W _ _ _ _ _ _ (by kernel_rfl)
theorem neq_pt (x y x2 y2 : Int) (W : World) : (binOp .neq 40 (.agg #[.int .i64 x, .int .i64 y]) (.agg #[.int .i64 x2, .int .i64 y2])).run Tryd.prog W = .ok (.bool (!(x == x2 && y == y2))) W := by
  rw [run_neq_struct, show (10000 : Nat) = 9999 + 1 from rfl, run_equalIn_agg W 9999 40 _ _ (by kernel_rfl) (by kernel_rfl)]
  simp [Program.fieldsOf, Tryd.underlying40, Op.eqFields, go_sem]
  by_cases h1 : x = x2 <;> by_cases h2 : y = y2 <;> simp [h1, h2]
set_option maxHeartbeats 1000000 in
set_option maxRecDepth 100000 in
theorem Points_len (v u : Value) (ps qs : List (Int × Int)) (w : World) (hp : PtsAt w w.heap.size v ps) (hq : PtsAt w w.heap.size u qs) (hl : ps.length ≠ qs.length) :
    Calls Tryd.prog 23 #[v, u] w fun e w' => e = .returned (.bool false) ∧ ∃ n, w' = w.drewN n := by
  obtain ⟨a, c, rfl, _⟩ := hp
  obtain ⟨a2, c2, rfl, _⟩ := hq
  have h1 : ((ps.length : Int) != (qs.length : Int)) = true := by rw [bne_iff_ne]; intro e; exact hl (by exact_mod_cast e)
  clear hl
  go_enter Tryd.func23, Tryd.ntmps23
  go_wp2_with fail
  go_ret
  exact ⟨rfl, 0, rfl⟩

set_option maxHeartbeats 1000000 in
set_option maxRecDepth 100000 in
theorem Points_same (v u : Value) (ps qs : List (Int × Int)) (w : World) (hp : PtsAt w w.heap.size v ps) (hq : PtsAt w w.heap.size u qs) (hl : ps.length = qs.length) (hm : ps.length ≤ maxLen) :
    Calls Tryd.prog 23 #[v, u] w fun e w' => e = .returned (.bool (ptsEq ps qs)) ∧ ∃ n, w' = w.drewN n := by
  unfold maxLen at hm
  obtain ⟨a, c, rfl, hp⟩ := hp
  obtain ⟨a2, c2, rfl, hq⟩ := hq
  have h1 : ((ps.length : Int) != (qs.length : Int)) = false := by rw [hl]; simp
  have HP := Lib.hid hp
  have HQ := Lib.hid hq
  have HL := Lib.hid hl
  clear hp hq hl
  go_enter Tryd.func23, Tryd.ntmps23
  go_wp2_with fail
  go_loopw [5] (fun i wr => ∃ k : Nat, i = .int .i64 k ∧ k ≤ ps.length ∧ ps.take k = qs.take k ∧ ∃ n, wr = w.drewN n) (fun i _ => ps.length - (intOf i).toNat)
  case atStart => exact ⟨0, rfl, Nat.zero_le _, rfl, 0, rfl⟩
  case round =>
    obtain ⟨k, rfl, hk, heq, n, rfl⟩ := hrel
    have Heq := Lib.hid heq
    clear heq
    by_cases hlt : k < ps.length
    · have hlt2 : k < qs.length := by have := HL.out; omega
      obtain ⟨b, off, ha, hb, hc⟩ := HP.out (by omega)
      obtain ⟨b2, off2, ha2, hb2, hc2⟩ := HQ.out (by omega)
      subst ha
      subst ha2
      have hx := (hc k hlt).1
      have hy := (hc k hlt).2
      have hx2 := (hc2 k hlt2).1
      have hy2 := (hc2 k hlt2).2
      have Hs := Lib.hid (show ps.take (k + 1) = ps.take k ++ [(ps[k].1, ps[k].2)] from List.take_succ_eq_append_getElem hlt)
      have Hs2 := Lib.hid (show qs.take (k + 1) = qs.take k ++ [(qs[k].1, qs[k].2)] from List.take_succ_eq_append_getElem hlt2)
      clear hc hc2
      generalize ps[k].1 = x at *
      generalize ps[k].2 = y at *
      generalize qs[k].1 = x2 at *
      generalize qs[k].2 = y2 at *
      have hk0 : (0 : Int) ≤ (k : Int) := by omega
      have hk1 : (k : Int) < (ps.length : Int) := by omega
      have hk2 : (k : Int) < (qs.length : Int) := by omega
      have hgd := fun (o1 o2 : Operand) (xs ys : Array Value) (W : World) => guard_pt o1 o2 xs ys W
      by_cases hxy : x = x2 ∧ y = y2
      · have hnq : ∀ W, (binOp .neq 40 (.agg #[.int .i64 x, .int .i64 y]) (.agg #[.int .i64 x2, .int .i64 y2])).run Tryd.prog W = .ok (.bool false) W := fun W => by
          rw [neq_pt, hxy.1, hxy.2]; simp
        have Hst := Lib.hid (show ps.take (k + 1) = qs.take (k + 1) by rw [Hs.out, Hs2.out, Heq.out, hxy.1, hxy.2])
        clear hxy
        go_wp2_with fail
        go_quiet (fail)
        clear hgd hnq
        go_wp2_with fail
        go_roundw
        case rel => exact ⟨k + 1, by go_num, by omega, Hst.out, _, rfl⟩
        case measure => simp [intOf]; omega
      · have hnq : ∀ W, (binOp .neq 40 (.agg #[.int .i64 x, .int .i64 y]) (.agg #[.int .i64 x2, .int .i64 y2])).run Tryd.prog W = .ok (.bool true) W := fun W => by
          have : (x == x2 && y == y2) = false := by
            rw [Bool.and_eq_false_iff]
            by_cases h : x = x2
            · exact Or.inr (by rw [beq_eq_false_iff_ne]; exact fun e => hxy ⟨h, e⟩)
            · exact Or.inl (by rw [beq_eq_false_iff_ne]; exact h)
          rw [neq_pt, this]; rfl
        have Hst := Lib.hid (show ptsEq ps qs = false by
          unfold ptsEq
          rw [decide_eq_false_iff_not]
          intro e
          have e2 : ps.take (k + 1) = qs.take (k + 1) := by rw [e]
          rw [Hs.out, Hs2.out, Heq.out] at e2
          have e3 := List.append_cancel_left e2
          simp at e3
          exact hxy e3)
        clear hxy
        go_wp2_with fail
        go_quiet (fail)
        clear hgd hnq
        go_wp2_with fail
        go_ret
        exact ⟨ret_bool Hst.out.symm, n + nq, drew2 _ _ _⟩
    · have hf : Hid (ptsEq ps qs = true) := by
        have := Heq.out
        rw [List.take_of_length_le (by omega), List.take_of_length_le (by have := HL.out; omega)] at this
        exact decide_eq_true this
      have hnk : ¬ (k : Int) < (ps.length : Int) := by omega
      go_wp2_with fail
      go_ret
      exact ⟨ret_bool hf.out.symm, n, rfl⟩

theorem Points_any (v u : Value) (ps qs : List (Int × Int)) (w : World) (hp : PtsAt w w.heap.size v ps) (hq : PtsAt w w.heap.size u qs) (hm : ps.length ≤ maxLen) :
    Calls Tryd.prog 23 #[v, u] w fun e w' => e = .returned (.bool (ptsEq ps qs)) ∧ ∃ n, w' = w.drewN n := by
  by_cases hl : ps.length = qs.length
  · exact Points_same v u ps qs w hp hq hl hm
  · have : ptsEq ps qs = false := decide_eq_false (fun e => hl (by rw [e]))
    rw [this]
    exact Points_len v u ps qs w hp hq hl
theorem Points_is (v u : Value) (ps qs : List (Int × Int)) (r : Bool) (h : ptsEq ps qs = r) (w : World) (hp : PtsAt w w.heap.size v ps) (hq : PtsAt w w.heap.size u qs) (hm : ps.length ≤ maxLen) :
    Calls Tryd.prog 23 #[v, u] w fun e w' => e = .returned (.bool r) ∧ Below w.heap.size w w' := by
  subst h
  refine (Points_any v u ps qs w hp hq hm).mono ?_
  rintro e w' ⟨rfl, n, rfl⟩
  exact ⟨rfl, below_drewN (Below.refl _ _) n⟩
end Go.Proofs.YtmioocmjlbjfpaaDoor
