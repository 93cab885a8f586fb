/-
  Slips in memory; costs, letters, pairs, exchanged neighbors.
-/
import Derived.Test.YtadaijepalhohaaTT
import Derived.Test.YtadaijepalhohaaAA
namespace Go.Proofs.Ytadaijepalhohaa
open Go.RowKit
open Pl

def costB (n : Int) : Bool := decide (1 ≤ n) && decide (n ≤ 1000)
def letB (n : Int) : Bool := decide (97 ≤ n) && decide (n ≤ 122)
set_option maxHeartbeats 400000 in
theorem isCost_any (n : Int) (w : World) : Calls Try.prog 29 #[.int .i64 n] w fun e w' => e = .returned (.bool (costB n)) ∧ w = w' := by
  by_cases h1 : 1 ≤ n
  · by_cases h2 : n ≤ 1000
    · have E := Lib.hid (show costB n = true by unfold costB; rw [decide_eq_true h1, decide_eq_true h2]; rfl)
      go_enter Try.func29, Try.ntmps29
      go_wp2_with fail
      go_ret
      exact ⟨ret_bool E.out.symm, rfl⟩
    · have E := Lib.hid (show costB n = false by unfold costB; rw [decide_eq_true h1, decide_eq_false h2]; rfl)
      go_enter Try.func29, Try.ntmps29
      go_wp2_with fail
      go_ret
      exact ⟨ret_bool E.out.symm, rfl⟩
  · have E := Lib.hid (show costB n = false by unfold costB; rw [decide_eq_false h1]; rfl)
    go_enter Try.func29, Try.ntmps29
    go_wp2_with fail
    go_ret
    exact ⟨ret_bool E.out.symm, rfl⟩
set_option maxHeartbeats 400000 in
theorem RCost_any (n : Int) (w : World) : Calls Try.prog 31 #[.int .i64 n] w fun e w' => e = .returned (.bool (costB n)) ∧ w = w' := by
  by_cases h1 : 1 ≤ n
  · by_cases h2 : n ≤ 1000
    · have E := Lib.hid (show costB n = true by unfold costB; rw [decide_eq_true h1, decide_eq_true h2]; rfl)
      go_enter Try.func31, Try.ntmps31
      go_wp2_with fail
      go_ret
      exact ⟨ret_bool E.out.symm, rfl⟩
    · have E := Lib.hid (show costB n = false by unfold costB; rw [decide_eq_true h1, decide_eq_false h2]; rfl)
      go_enter Try.func31, Try.ntmps31
      go_wp2_with fail
      go_ret
      exact ⟨ret_bool E.out.symm, rfl⟩
  · have E := Lib.hid (show costB n = false by unfold costB; rw [decide_eq_false h1]; rfl)
    go_enter Try.func31, Try.ntmps31
    go_wp2_with fail
    go_ret
    exact ⟨ret_bool E.out.symm, rfl⟩
set_option maxHeartbeats 400000 in
theorem isLetter_any (n : Int) (w : World) : Calls Try.prog 37 #[.int .u8 n] w fun e w' => e = .returned (.bool (letB n)) ∧ w = w' := by
  by_cases h1 : 97 ≤ n
  · by_cases h2 : n ≤ 122
    · have E := Lib.hid (show letB n = true by unfold letB; rw [decide_eq_true h1, decide_eq_true h2]; rfl)
      go_enter Try.func37, Try.ntmps37
      go_wp2_with fail
      go_ret
      exact ⟨ret_bool E.out.symm, rfl⟩
    · have E := Lib.hid (show letB n = false by unfold letB; rw [decide_eq_true h1, decide_eq_false h2]; rfl)
      go_enter Try.func37, Try.ntmps37
      go_wp2_with fail
      go_ret
      exact ⟨ret_bool E.out.symm, rfl⟩
  · have E := Lib.hid (show letB n = false by unfold letB; rw [decide_eq_false h1]; rfl)
    go_enter Try.func37, Try.ntmps37
    go_wp2_with fail
    go_ret
    exact ⟨ret_bool E.out.symm, rfl⟩
set_option maxHeartbeats 400000 in
theorem RLetter_any (n : Int) (w : World) : Calls Try.prog 32 #[.int .u8 n] w fun e w' => e = .returned (.bool (letB n)) ∧ w = w' := by
  by_cases h1 : 97 ≤ n
  · by_cases h2 : n ≤ 122
    · have E := Lib.hid (show letB n = true by unfold letB; rw [decide_eq_true h1, decide_eq_true h2]; rfl)
      go_enter Try.func32, Try.ntmps32
      go_wp2_with fail
      go_ret
      exact ⟨ret_bool E.out.symm, rfl⟩
    · have E := Lib.hid (show letB n = false by unfold letB; rw [decide_eq_true h1, decide_eq_false h2]; rfl)
      go_enter Try.func32, Try.ntmps32
      go_wp2_with fail
      go_ret
      exact ⟨ret_bool E.out.symm, rfl⟩
  · have E := Lib.hid (show letB n = false by unfold letB; rw [decide_eq_false h1]; rfl)
    go_enter Try.func32, Try.ntmps32
    go_wp2_with fail
    go_ret
    exact ⟨ret_bool E.out.symm, rfl⟩
/-- Two bytes, the lesser one first. -/
abbrev prV (p q : UInt8) : Value := .agg #[.int .u8 (min p.toNat q.toNat : Nat), .int .u8 (max p.toNat q.toNat : Nat)]
theorem info80 : (Try.prog.info? 80).map (·.size) = some 2 := by kernel_rfl
theorem ret_pair {fn : Func} {p : Tmp} (h : fn.results = #[.cell p 80]) {R : Ending → World → Prop} {a : Act} {W : World} {b : Nat} {c0 c1 : Value}
    (hp : a.tmps.getD p undef = .pointer (some ⟨b, 0, none⟩)) (hd : a.defers = []) (hb : W.heap[b]? = some (.cells #[c0, c1] 80 (0, 0)))
    (hR : R (.returned (.agg #[c0, c1])) W) : bodyPost Try.prog fn R .ret a W := by
  refine bodyPost_ret ?_ hd hR
  have hp' : a.tmps[p]?.getD undef = .pointer (some ⟨b, 0, none⟩) := by simpa using hp
  have hl := run_loadVar_row (P := Try.prog) W b 80 80 #[c0, c1] (0, 0) _ hb Try.underlying80 rfl info80
  simp [results, h, hp', asAddr, hl]
set_option maxHeartbeats 400000 in
theorem pairOf_any (p q : UInt8) (w : World) : Calls Try.prog 38 #[.int .u8 (p.toNat : Nat), .int .u8 (q.toNat : Nat)] w fun e w' => e = .returned (prV p q) ∧ Below w.heap.size w w' := by
  have HB := Lib.hid ((Below.refl w.heap.size w).alloc (Nat.le_refl _) (.cells #[.int .u8 (min p.toNat q.toNat : Nat), .int .u8 (max p.toNat q.toNat : Nat)] 80))
  rcases Nat.lt_trichotomy p.toNat q.toNat with h | h | h
  · have h1 : (p.toNat : Int) < (q.toNat : Int) := by omega
    have E1 := Lib.hid (show min p.toNat q.toNat = p.toNat by omega)
    have E2 := Lib.hid (show max p.toNat q.toNat = q.toNat by omega)
    rw [E1.out, E2.out] at HB
    rw [prV, E1.out, E2.out]
    clear h
    go_enter Try.func38, Try.ntmps38
    go_wp2_with fail
    exact ret_pair Try.results38 rfl rfl (heap_alloc_new w _) ⟨rfl, HB.out⟩
  · obtain rfl : p = q := UInt8.toNat_inj.1 h
    clear h
    rw [Nat.min_self, Nat.max_self] at HB
    rw [prV, Nat.min_self, Nat.max_self]
    go_enter Try.func38, Try.ntmps38
    go_wp2_with fail
    exact ret_pair Try.results38 rfl rfl (heap_alloc_new w _) ⟨rfl, HB.out⟩
  · have h1 : ¬ ((p.toNat : Int) < (q.toNat : Int)) := by omega
    have h2 : (q.toNat : Int) < (p.toNat : Int) := by omega
    have E1 := Lib.hid (show min p.toNat q.toNat = q.toNat by omega)
    have E2 := Lib.hid (show max p.toNat q.toNat = p.toNat by omega)
    rw [E1.out, E2.out] at HB
    rw [prV, E1.out, E2.out]
    clear h
    go_enter Try.func38, Try.ntmps38
    go_wp2_with fail
    exact ret_pair Try.results38 rfl rfl (heap_alloc_new w _) ⟨rfl, HB.out⟩
/-- The neighbors at the ends of both texts are exchanged. -/
def swS (m t : List UInt8) : Bool := decide (1 < m.length) && (decide (1 < t.length) && ((m[m.length - 2]? == t[t.length - 1]?) && (m[m.length - 1]? == t[t.length - 2]?)))
theorem str_at (s : ByteArray) (k : Nat) (hk : k < s.size) (W : World) : (Instr.index 9 (.string s) (.int .i64 (k : Nat))).run Try.prog W = .ok (.int .u8 (s[k].toNat : Nat)) W := by
  have h1 : (k : Int) < (s.size : Int) := by omega
  have h2 : (0 : Int) ≤ (k : Int) := by omega
  rw [run_index_string W _ _ _ _ Try.underlying9]
  simp [h1, h2]
theorem get_data (s : ByteArray) (k : Nat) (hk : k < s.size) : s.data.toList[k]? = some s[k] := by
  rw [List.getElem?_eq_getElem (by simpa using hk)]; rfl
theorem u8_beq (p q : UInt8) : ((p.toNat : Int) == (q.toNat : Int)) = (p == q) := by
  rw [Bool.eq_iff_iff]; simp only [beq_iff_eq]; rw [Int.ofNat_inj, UInt8.toNat_inj]
set_option maxHeartbeats 1000000 in
theorem swapped_any (m t : ByteArray) (hm : m.size ≤ 100000) (ht : t.size ≤ 100000) (w : World) : Calls Try.prog 40 #[.string m, .string t] w fun e w' => e = .returned (.bool (swS m.data.toList t.data.toList)) ∧ Below w.heap.size w w' := by
  by_cases h1 : (1 : Int) < (m.size : Int)
  · have D1 : decide ((1 : Int) < (m.size : Int)) = true := decide_eq_true h1
    by_cases h2 : (1 : Int) < (t.size : Int)
    · have D2 : decide ((1 : Int) < (t.size : Int)) = true := decide_eq_true h2
      obtain ⟨a, ha⟩ : ∃ a, a = m.size - 2 := ⟨_, rfl⟩
      obtain ⟨b, hb⟩ : ∃ b, b = t.size - 2 := ⟨_, rfl⟩
      have g1 : a < m.size := by omega
      have g2 : a + 1 < m.size := by omega
      have g3 : b < t.size := by omega
      have g4 : b + 1 < t.size := by omega
      have wm2 : IntKind.i64.wrap ((m.size : Int) - 2) = (a : Int) := by rw [IntWalk.i64_in _ (by omega)]; omega
      have wm1 : IntKind.i64.wrap ((m.size : Int) - 1) = ((a + 1 : Nat) : Int) := by rw [IntWalk.i64_in _ (by omega)]; omega
      have wt2 : IntKind.i64.wrap ((t.size : Int) - 2) = (b : Int) := by rw [IntWalk.i64_in _ (by omega)]; omega
      have wt1 : IntKind.i64.wrap ((t.size : Int) - 1) = ((b + 1 : Nat) : Int) := by rw [IntWalk.i64_in _ (by omega)]; omega
      have I1 := str_at m a g1
      have I2 : ∀ W, (Instr.index 9 (.string m) (.int .i64 ((a : Int) + 1))).run Try.prog W = .ok (.int .u8 (m[a + 1].toNat : Nat)) W := str_at m (a + 1) g2
      have I3 := str_at t b g3
      have I4 : ∀ W, (Instr.index 9 (.string t) (.int .i64 ((b : Int) + 1))).run Try.prog W = .ok (.int .u8 (t[b + 1].toNat : Nat)) W := str_at t (b + 1) g4
      have E := Lib.hid (show swS m.data.toList t.data.toList = ((m[a] == t[b + 1]) && (m[a + 1] == t[b])) by
        unfold swS
        have l1 : m.data.toList.length = m.size := by simp
        have l2 : t.data.toList.length = t.size := by simp
        rw [l1, l2, decide_eq_true (show 1 < m.size by omega), decide_eq_true (show 1 < t.size by omega), ← ha, ← hb, show m.size - 1 = a + 1 by omega, show t.size - 1 = b + 1 by omega, get_data m a g1, get_data m (a + 1) g2, get_data t b g3, get_data t (b + 1) g4]
        simp)
      have U1 := u8_beq m[a] t[b + 1]
      have U2 := u8_beq m[a + 1] t[b]
      generalize m[a] = m0 at *
      generalize m[a + 1] = m1 at *
      generalize t[b] = t0 at *
      generalize t[b + 1] = t1 at *
      clear ha hb g1 g2 g3 g4 hm ht
      cases e1 : m0 == t1 with
      | true =>
        cases e2 : m1 == t0 with
        | true =>
          rw [e1, e2] at E
          rw [e1] at U1
          rw [e2] at U2
          clear e1 e2
          go_enter Try.func40, Try.ntmps40
          go_upto_region 2 with fail
          refine wp_normal ?_
          refine wp_region_class (C := fun W => Below w.heap.size w W) (by kernel_rfl) (by kernel_rfl) (Below.refl _ _).drew ?_
          repeat (first | go_big_quiet_skip | (go_big_quiet_want; first | (go_big_quiet_op; go_big_quiet_on) | (refine quiet_value ?_ (fun W h => ?_) ?_; rotate_left; (· go_simp; rfl); go_simp; go_big_quiet_on)))
          refine wpQuiet_nil ?_
          intro W hW
          refine ⟨rfl, ?_⟩
          have HW := Lib.hid hW
          clear hW
          go_wp2_with fail
          go_ret
          exact ⟨ret_bool E.out.symm, HW.out⟩
        | false =>
          rw [e1, e2] at E
          rw [e1] at U1
          rw [e2] at U2
          clear e1 e2
          go_enter Try.func40, Try.ntmps40
          go_upto_region 2 with fail
          refine wp_normal ?_
          refine wp_region_class (C := fun W => Below w.heap.size w W) (by kernel_rfl) (by kernel_rfl) (Below.refl _ _).drew ?_
          repeat (first | go_big_quiet_skip | (go_big_quiet_want; first | (go_big_quiet_op; go_big_quiet_on) | (refine quiet_value ?_ (fun W h => ?_) ?_; rotate_left; (· go_simp; rfl); go_simp; go_big_quiet_on)))
          refine wpQuiet_nil ?_
          intro W hW
          refine ⟨rfl, ?_⟩
          have HW := Lib.hid hW
          clear hW
          go_wp2_with fail
          go_ret
          exact ⟨ret_bool E.out.symm, HW.out⟩
      | false =>
        rw [e1, Bool.false_and] at E
        rw [e1] at U1
        clear e1 U2
        go_enter Try.func40, Try.ntmps40
        go_upto_region 2 with fail
        refine wp_normal ?_
        refine wp_region_class (C := fun W => Below w.heap.size w W) (by kernel_rfl) (by kernel_rfl) (Below.refl _ _).drew ?_
        repeat (first | go_big_quiet_skip | (go_big_quiet_want; first | (go_big_quiet_op; go_big_quiet_on) | (refine quiet_value ?_ (fun W h => ?_) ?_; rotate_left; (· go_simp; rfl); go_simp; go_big_quiet_on)))
        refine wpQuiet_nil ?_
        intro W hW
        refine ⟨rfl, ?_⟩
        have HW := Lib.hid hW
        clear hW
        go_wp2_with fail
        go_ret
        exact ⟨ret_bool E.out.symm, HW.out⟩
    · have D2 : decide ((1 : Int) < (t.size : Int)) = false := decide_eq_false h2
      have E := Lib.hid (show swS m.data.toList t.data.toList = false by
        unfold swS
        have l2 : t.data.toList.length = t.size := by simp
        rw [l2, decide_eq_false (show ¬ 1 < t.size by omega)]; simp)
      go_enter Try.func40, Try.ntmps40
      go_upto_region 2 with fail
      refine wp_normal ?_
      refine wp_region_class (C := fun W => Below w.heap.size w W) (by kernel_rfl) (by kernel_rfl) (Below.refl _ _).drew ?_
      repeat (first | go_big_quiet_skip | (go_big_quiet_want; first | (go_big_quiet_op; go_big_quiet_on) | (refine quiet_value ?_ (fun W h => ?_) ?_; rotate_left; (· go_simp; rfl); go_simp; go_big_quiet_on)))
      refine wpQuiet_nil ?_
      intro W hW
      refine ⟨rfl, ?_⟩
      have HW := Lib.hid hW
      clear hW
      go_wp2_with fail
      go_ret
      exact ⟨ret_bool E.out.symm, HW.out⟩
  · have D1 : decide ((1 : Int) < (m.size : Int)) = false := decide_eq_false h1
    have E := Lib.hid (show swS m.data.toList t.data.toList = false by
      unfold swS
      have l1 : m.data.toList.length = m.size := by simp
      rw [l1, decide_eq_false (show ¬ 1 < m.size by omega)]; simp)
    go_enter Try.func40, Try.ntmps40
    go_upto_region 2 with fail
    refine wp_normal ?_
    refine wp_region_class (C := fun W => Below w.heap.size w W) (by kernel_rfl) (by kernel_rfl) (Below.refl _ _).drew ?_
    repeat (first | go_big_quiet_skip | (go_big_quiet_want; first | (go_big_quiet_op; go_big_quiet_on) | (refine quiet_value ?_ (fun W h => ?_) ?_; rotate_left; (· go_simp; rfl); go_simp; go_big_quiet_on)))
    refine wpQuiet_nil ?_
    intro W hW
    refine ⟨rfl, ?_⟩
    have HW := Lib.hid hW
    clear hW
    go_wp2_with fail
    go_ret
    exact ⟨ret_bool E.out.symm, HW.out⟩
end Go.Proofs.Ytadaijepalhohaa
