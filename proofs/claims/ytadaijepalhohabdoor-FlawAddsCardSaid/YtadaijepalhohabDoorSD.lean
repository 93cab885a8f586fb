/-
  Rules in memory; slices.Index and slices.Contains at rules.
-/
import Derived.Test.YtadaijepalhohabDoorSC
namespace Go.Proofs.YtadaijepalhohabDoor
open Go.RowKit
open Pl

/-- A rule. -/
structure Rl where
  src : Int
  dst : Int
  inp : List UInt8
  out : List UInt8
  cost : Int
deriving DecidableEq
abbrev rlV (r : Rl) : Value := .agg #[.int .i64 r.src, .int .i64 r.dst, .string (B r.inp), .string (B r.out), .int .i64 r.cost]
/-- The slice v reads as the rules rs, in memory below block number B0. -/
def RlsAt (W : World) (B0 : Nat) (v : Value) (rs : List Rl) : Prop :=
  ∃ a c, v = .slice a rs.length c ∧ (0 < rs.length → ∃ b off, a = some ⟨b, off, none⟩ ∧ b < B0 ∧ ∀ i (h : i < rs.length), W.cell? ⟨b, off + i * 5, none⟩ = some (.int .i64 rs[i].src) ∧ W.cell? ⟨b, off + i * 5 + 1, none⟩ = some (.int .i64 rs[i].dst) ∧ W.cell? ⟨b, off + i * 5 + 2, none⟩ = some (.string (B rs[i].inp)) ∧ W.cell? ⟨b, off + i * 5 + 3, none⟩ = some (.string (B rs[i].out)) ∧ W.cell? ⟨b, off + i * 5 + 4, none⟩ = some (.int .i64 rs[i].cost))
theorem RlsAt.on {W W' : World} {v : Value} {rs : List Rl} (h : RlsAt W W.heap.size v rs) (hb : Below W.heap.size W W') : RlsAt W' W'.heap.size v rs := by
  obtain ⟨a, c, rfl, h⟩ := h
  refine ⟨a, c, rfl, fun hp => ?_⟩
  obtain ⟨b, off, rfl, hlt, hc⟩ := h hp
  refine ⟨b, off, rfl, Nat.lt_of_lt_of_le hlt hb.size, fun i hi => ?_⟩
  obtain ⟨h0, h1, h2, h3, h4⟩ := hc i hi
  have e := fun o => hb.cell (p := ⟨b, o, none⟩) hlt
  exact ⟨(e _).trans h0, (e _).trans h1, (e _).trans h2, (e _).trans h3, (e _).trans h4⟩
theorem str_eq (y z : List UInt8) : ((B y).toList == (B z).toList) = decide (y = z) := by
  rw [ByteArray.toList_eq, ByteArray.toList_eq, toList_B, toList_B]
  rw [Bool.eq_iff_iff]; simp
theorem eql_rl (x y : Rl) (W : World) : (binOp .eql 31 (rlV x) (rlV y)).run Tryd.prog W = .ok (.bool (decide (x = y))) W := by
  have h : (binOp .eql 31 (rlV x) (rlV y)).run Tryd.prog W = .ok (.bool (x.src == y.src && (x.dst == y.dst && ((B x.inp).toList == (B y.inp).toList && ((B x.out).toList == (B y.out).toList && x.cost == y.cost))))) W := by
    rw [run_eql_struct, show (10000 : Nat) = 9999 + 1 from rfl, run_equalIn_agg W 9999 31 _ _ (by kernel_rfl) (by kernel_rfl)]
    simp [Program.fieldsOf, Tryd.underlying31, Op.eqFields, go_sem]
    by_cases h1 : x.src = y.src <;> by_cases h2 : x.dst = y.dst <;> by_cases h3 : (B x.inp).toList = (B y.inp).toList <;> by_cases h4 : (B x.out).toList = (B y.out).toList <;> by_cases h5 : x.cost = y.cost <;> simp [h1, h2, h3, h4, h5]
  have key : (x.src == y.src && (x.dst == y.dst && ((B x.inp).toList == (B y.inp).toList && ((B x.out).toList == (B y.out).toList && x.cost == y.cost)))) = decide (x = y) := by
    rw [str_eq, str_eq, Bool.eq_iff_iff]
    obtain ⟨a, b, c, d, e⟩ := x
    obtain ⟨a', b', c', d', e'⟩ := y
    simp only [Bool.and_eq_true, beq_iff_eq, decide_eq_true_eq, Rl.mk.injEq]
  rw [h, key]
theorem guard_rl (o1 o2 : Operand) (xs ys : Array Value) (W : World) : (eqGuard .eql 31 o1 o2 (.agg xs) (.agg ys)).run Tryd.prog W = .ok () W :=
  run_eqGuard_agg W _ _ _ _ _ _ (by kernel_rfl)
/-- The block of a rule that a function laid. -/
def RlBlock (W : World) (b : Nat) (r : Rl) : Prop := W.heap[b]? = some (.cells #[.int .i64 r.src, .int .i64 r.dst, .string (B r.inp), .string (B r.out), .int .i64 r.cost] 31 (0, 0))
theorem RlBlock.cells {W : World} {b : Nat} {r : Rl} (h : RlBlock W b r) : W.cell? ⟨b, 0, none⟩ = some (.int .i64 r.src) ∧ W.cell? ⟨b, 1, none⟩ = some (.int .i64 r.dst) ∧ W.cell? ⟨b, 2, none⟩ = some (.string (B r.inp)) ∧ W.cell? ⟨b, 3, none⟩ = some (.string (B r.out)) ∧ W.cell? ⟨b, 4, none⟩ = some (.int .i64 r.cost) := by
  unfold RlBlock at h
  refine ⟨?_, ?_, ?_, ?_, ?_⟩ <;> simp [World.cell?, h]
theorem RlBlock.below {W W' : World} {b : Nat} {r : Rl} (h : RlBlock W b r) (hb : Below W.heap.size W W') : RlBlock W' b r := by
  have hlt := lt_of_heap h
  unfold RlBlock at h ⊢; rw [hb.block b hlt]; exact h

set_option maxHeartbeats 1000000 in
set_option maxRecDepth 100000 in
theorem Index_any (r : Rl) (rs : List Rl) (v : Value) (w : World) (hx : RlsAt w w.heap.size v rs) (hm : rs.length ≤ maxLen) :
    Calls Tryd.prog 60 #[v, rlV r] w fun e w' => (∃ i : Int, e = .returned (.int .i64 i) ∧ (0 ≤ i ↔ r ∈ rs)) ∧ Below w.heap.size w w' := by
  have hb : Below w.heap.size w (w.alloc (.cells #[.int .i64 r.src, .int .i64 r.dst, .string (B r.inp), .string (B r.out), .int .i64 r.cost] 31)) := (Below.refl _ _).alloc (Nat.le_refl _) _
  have RB := Lib.hid (show RlBlock (w.alloc (.cells #[.int .i64 r.src, .int .i64 r.dst, .string (B r.inp), .string (B r.out), .int .i64 r.cost] 31)) w.heap.size r from heap_alloc_new w _)
  have HX := Lib.hid (hx.on hb)
  have HB := Lib.hid hb
  obtain ⟨va, vc, rfl, -⟩ := hx
  unfold maxLen at hm
  clear hb
  go_enter Tryd.func60, Tryd.ntmps60
  go_wp2_with fail
  generalize w.alloc _ = w1 at *
  go_loopw [8] (fun i wr => ∃ j : Nat, i = .int .i64 j ∧ j ≤ rs.length ∧ r ∉ rs.take j ∧ Below w1.heap.size w1 wr) (fun i _ => rs.length - (intOf i).toNat)
  case atStart => exact ⟨0, rfl, Nat.zero_le _, by simp, Below.refl _ _⟩
  case round =>
    obtain ⟨j, rfl, hj, hno, hbr⟩ := hrel
    have HN := Lib.hid hno
    have HR := Lib.hid hbr
    clear hno
    by_cases hlt : j < rs.length
    · obtain ⟨a0, c0, hv, hc⟩ := HX.out.on hbr
      obtain ⟨rfl, -⟩ : va = a0 ∧ vc = c0 := by simpa using hv
      obtain ⟨b, off, rfl, hbb, hc⟩ := hc (by omega)
      obtain ⟨q0, q1, q2, q3, q4⟩ := hc j hlt
      obtain ⟨p0, p1, p2, p3, p4⟩ := (RB.out.below hbr).cells
      have EQ := fun W => eql_rl r rs[j] W
      have GD := guard_rl
      have hj0 : (0 : Int) ≤ (j : Int) := by omega
      have hj1 : (j : Int) < (rs.length : Int) := by omega
      clear hc hv hbr
      by_cases he : r = rs[j]
      · have hd : decide (r = rs[j]) = true := decide_eq_true he
        rw [hd] at EQ
        have HM := Lib.hid (show r ∈ rs by rw [he]; exact List.getElem_mem hlt)
        clear he hd
        generalize rs[j] = x at *
        obtain ⟨xs1, xs2, xs3, xs4, xs5⟩ := x
        dsimp only at q0 q1 q2 q3 q4 EQ
        go_wp2_with fail
        go_quiet (fail)
        go_wp2_with fail
        go_ret
        exact ⟨⟨_, rfl, fun _ => HM.out, fun _ => by omega⟩, below_drewN (HB.out.trans (HR.out.mono HB.out.size)) _⟩
      · have hd : decide (r = rs[j]) = false := decide_eq_false he
        rw [hd] at EQ
        have HM := Lib.hid (show r ∉ rs.take (j + 1) by
          rw [List.take_succ_eq_append_getElem hlt, List.mem_append, List.mem_singleton]
          exact fun h => h.elim HN.out he)
        clear he hd
        generalize rs[j] = x at *
        obtain ⟨xs1, xs2, xs3, xs4, xs5⟩ := x
        dsimp only at q0 q1 q2 q3 q4 EQ
        go_wp2_with fail
        go_quiet (fail)
        go_wp2_with fail
        go_roundw
        case rel => exact ⟨j + 1, by go_num, by omega, HM.out, below_drewN HR.out _⟩
        case measure => simp [intOf]; omega
    · have hj1 : ¬ (j : Int) < (rs.length : Int) := by omega
      have HM := Lib.hid (show r ∉ rs by have := HN.out; rwa [List.take_of_length_le (by omega)] at this)
      go_wp2_with fail
      go_ret
      exact ⟨⟨_, rfl, fun h => absurd h (by decide), fun h => absurd h HM.out⟩, HB.out.trans (HR.out.mono HB.out.size)⟩

set_option maxHeartbeats 400000 in
theorem Contains_any (r : Rl) (rs : List Rl) (v : Value) (w : World) (hx : RlsAt w w.heap.size v rs) (hm : rs.length ≤ maxLen) :
    Calls Tryd.prog 56 #[v, rlV r] w fun e w' => e = .returned (.bool (decide (r ∈ rs))) ∧ Below w.heap.size w w' := by
  have hb : Below w.heap.size w (w.alloc (.cells #[.int .i64 r.src, .int .i64 r.dst, .string (B r.inp), .string (B r.out), .int .i64 r.cost] 31)) := (Below.refl _ _).alloc (Nat.le_refl _) _
  have RB := Lib.hid (show RlBlock (w.alloc (.cells #[.int .i64 r.src, .int .i64 r.dst, .string (B r.inp), .string (B r.out), .int .i64 r.cost] 31)) w.heap.size r from heap_alloc_new w _)
  have C := Lib.hid (Index_any r rs v _ (hx.on hb) hm)
  have HB := Lib.hid hb
  obtain ⟨va, vc, rfl, -⟩ := hx
  clear hb
  obtain ⟨p0, p1, p2, p3, p4⟩ := RB.out.cells
  go_enter Tryd.func56, Tryd.ntmps56
  go_wp2_with fail
  generalize w.alloc _ = w1 at *
  refine (C.out).mono ?_
  rintro e w' ⟨⟨i, rfl, hi⟩, hb⟩
  have HF := Lib.hid (HB.out.trans (hb.mono HB.out.size))
  have E := Lib.hid (show decide (0 ≤ i) = decide (r ∈ rs) by rw [Bool.eq_iff_iff]; simp [hi])
  clear hb hi C
  go_wp2_with fail
  go_ret
  exact ⟨ret_bool E.out, HF.out⟩
end Go.Proofs.YtadaijepalhohabDoor
