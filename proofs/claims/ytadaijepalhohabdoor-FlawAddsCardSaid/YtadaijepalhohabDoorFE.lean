/-
  Lists of numbers: the reference's Ints and Same; flaw's isRule, takesAny, takesNothing.
-/
import Derived.Test.YtadaijepalhohabDoorFD
namespace Go.Proofs.YtadaijepalhohabDoor
open Go.RowKit
open Pl

/-- The slice reads as these numbers. -/
def NumsAt (W : World) (B0 : Nat) (v : Value) (xs : List Int) : Prop :=
  ∃ a c, v = .slice a xs.length c ∧ (0 < xs.length → ∃ b off, a = some ⟨b, off, none⟩ ∧ b < B0 ∧ ∀ i (h : i < xs.length), W.cell? ⟨b, off + i, none⟩ = some (.int .i64 xs[i]))
theorem NumsAt.on {W W' : World} {v : Value} {xs : List Int} (h : NumsAt W W.heap.size v xs) (hb : Below W.heap.size W W') : NumsAt W' W'.heap.size v xs := by
  obtain ⟨a, c, rfl, h⟩ := h
  refine ⟨a, c, rfl, fun hp => ?_⟩
  obtain ⟨b, off, rfl, hlt, hc⟩ := h hp
  exact ⟨b, off, rfl, Nat.lt_of_lt_of_le hlt hb.size, fun i hi => (hb.cell (p := ⟨b, _, none⟩) hlt).trans (hc i hi)⟩
theorem take_snoc_eq {xs ys : List Int} {i : Nat} (h : xs.take i = ys.take i) (h1 : i < xs.length) (h2 : i < ys.length) (he : xs[i] = ys[i]) : xs.take (i + 1) = ys.take (i + 1) := by
  rw [List.take_succ_eq_append_getElem h1, List.take_succ_eq_append_getElem h2, h, he]

set_option maxHeartbeats 1000000 in
set_option maxRecDepth 100000 in
theorem Ints_any (xs ys : List Int) (a b : Option Addr) (c d : Nat) (w : World) (hx : NumsAt w w.heap.size (.slice a xs.length c) xs) (hy : NumsAt w w.heap.size (.slice b ys.length d) ys) (hl : xs.length ≤ maxLen) :
    Calls Tryd.prog 26 #[.slice a xs.length c, .slice b ys.length d] w fun e w' => e = .returned (.bool (decide (xs = ys))) ∧ Below w.heap.size w w' := by
  unfold maxLen at hl
  by_cases hxy : xs.length = ys.length
  · have HX := Lib.hid hx
    have HY := Lib.hid hy
    have HXY := Lib.hid hxy
    have hn : ¬ ((xs.length : Int) ≠ (ys.length : Int)) := by omega
    have hne : ((xs.length : Int) != (ys.length : Int)) = false := by simpa using hn
    clear hx hy hxy hn
    go_enter Tryd.func26, Tryd.ntmps26
    go_wp2_with fail
    go_loopw [5] (fun iv wr => ∃ i : Nat, iv = .int .i64 (i : Nat) ∧ i ≤ xs.length ∧ xs.take i = ys.take i ∧ Below w.heap.size w wr) (fun iv _ => xs.length - (intOf iv).toNat)
    case atStart => exact ⟨0, rfl, Nat.zero_le _, rfl, Below.refl _ _⟩
    case round =>
      obtain ⟨i, rfl, hi, ht, hb⟩ := hrel
      have HB := Lib.hid hb
      have HT := Lib.hid ht
      clear hb ht
      have i0 : (0 : Int) ≤ (i : Int) := by omega
      by_cases h1 : (i : Int) < (xs.length : Int)
      · have hix : i < xs.length := by omega
        have hiy : i < ys.length := by have := HXY.out; omega
        have h1y : (i : Int) < (ys.length : Int) := by omega
        obtain ⟨a', c', hv, hP⟩ := HX.out.on HB.out
        obtain ⟨rfl, -⟩ : a = a' ∧ c = c' := by simpa using hv
        obtain ⟨b1, o1, ha, -, hc⟩ := hP (by omega)
        subst ha
        obtain ⟨a'', c'', hv', hP'⟩ := HY.out.on HB.out
        obtain ⟨rfl, -⟩ : b = a'' ∧ d = c'' := by simpa using hv'
        obtain ⟨b2, o2, ha', -, hc'⟩ := hP' (by omega)
        subst ha'
        have p1 := hc i hix
        have p2 := hc' i hiy
        obtain ⟨x, hxe⟩ : ∃ x, x = xs[i] := ⟨_, rfl⟩
        obtain ⟨y, hye⟩ : ∃ y, y = ys[i] := ⟨_, rfl⟩
        rw [← hxe] at p1
        rw [← hye] at p2
        by_cases he : x = y
        · have HN := Lib.hid (take_snoc_eq HT.out hix hiy (by rw [← hxe, ← hye, he]))
          have hb1 : (x != y) = false := by simpa using he
          clear hc hc' hP hP' hv hv' hxe hye he
          go_wp2_with fail
          go_region
          go_wp2_with fail
          go_roundw
          case rel => exact ⟨i + 1, by go_num, by omega, HN.out, HB.out.drew⟩
          case measure => simp [intOf]; omega
        · have HN := Lib.hid (show decide (xs = ys) = false from decide_eq_false (fun e => he (by rw [hxe, hye]; simp [e])))
          have hb1 : (x != y) = true := by simpa using he
          clear hc hc' hP hP' hv hv' hxe hye he
          go_wp2_with fail
          go_region
          go_wp2_with fail
          go_ret
          exact ⟨by rw [HN.out]; rfl, HB.out.drew⟩
      · have HN := Lib.hid (show decide (xs = ys) = true from decide_eq_true (by
          have h := HT.out
          have e : i = xs.length := by omega
          rw [e, List.take_length, HXY.out, List.take_length] at h
          exact h))
        go_wp2_with fail
        go_ret
        exact ⟨by rw [HN.out]; rfl, HB.out⟩
  · have HN := Lib.hid (show decide (xs = ys) = false from decide_eq_false (fun e => hxy (by rw [e])))
    have hne : ((xs.length : Int) != (ys.length : Int)) = true := by
      have : ¬ ((xs.length : Int) = (ys.length : Int)) := by omega
      simpa using this
    clear hx hy hxy
    go_enter Tryd.func26, Tryd.ntmps26
    go_wp2_with fail
    go_ret
    exact ⟨by rw [HN.out]; rfl, Below.refl _ _⟩
set_option maxHeartbeats 400000 in
theorem isRule_any (m acc : Int) (a : Option Addr) (n c : Nat) (i : Int) (w : World) :
    Calls Tryd.prog 44 #[.agg #[.int .i64 m, .int .u8 acc, .slice a n c], .int .i64 i] w fun e w' => e = .returned (.bool (decide (0 ≤ i) && decide (i < (n : Int)))) ∧ Below w.heap.size w w' := by
  have HB := Lib.hid ((Below.refl w.heap.size w).alloc (Nat.le_refl _) (.cells #[.int .i64 m, .int .u8 acc, .slice a n c] 28))
  obtain ⟨s0, s1, s2⟩ := (SchBlock.new w (.int .i64 m) (.int .u8 acc) (.slice a n c)).cells
  by_cases h1 : 0 ≤ i
  · have D1 := Lib.hid (decide_eq_true h1)
    go_enter Tryd.func44, Tryd.ntmps44
    go_wp2_with fail
    go_ret
    exact ⟨by rw [D1.out]; rfl, HB.out⟩
  · have D1 := Lib.hid (decide_eq_false h1)
    go_enter Tryd.func44, Tryd.ntmps44
    go_wp2_with fail
    go_ret
    exact ⟨by rw [D1.out]; rfl, HB.out⟩
set_option maxHeartbeats 400000 in
theorem takesAny_any (x : Rl) (w : World) : Calls Tryd.prog 37 #[rlV x] w fun e w' => e = .returned (.bool true) ∧ Below w.heap.size w w' := by
  have HB := Lib.hid ((Below.refl w.heap.size w).alloc (Nat.le_refl _) (.cells #[.int .i64 x.src, .int .i64 x.dst, .string (B x.inp), .string (B x.out), .int .i64 x.cost] 31))
  go_enter Tryd.func37, Tryd.ntmps37
  go_wp2_with fail
  go_ret
  exact ⟨rfl, HB.out⟩
set_option maxHeartbeats 400000 in
theorem takesNothing_any (x : Rl) (w : World) : Calls Tryd.prog 39 #[rlV x] w fun e w' => e = .returned (.bool (B x.inp).toList.isEmpty) ∧ Below w.heap.size w w' := by
  have HB := Lib.hid ((Below.refl w.heap.size w).alloc (Nat.le_refl _) (.cells #[.int .i64 x.src, .int .i64 x.dst, .string (B x.inp), .string (B x.out), .int .i64 x.cost] 31))
  have rb : RlBlock (w.alloc (.cells #[.int .i64 x.src, .int .i64 x.dst, .string (B x.inp), .string (B x.out), .int .i64 x.cost] 31)) w.heap.size x := heap_alloc_new w _
  obtain ⟨r0, r1, r2, r3, r4⟩ := rb.cells
  clear rb
  go_enter Tryd.func39, Tryd.ntmps39
  go_wp2_with fail
  go_ret
  exact ⟨rfl, HB.out⟩
/-- A report, and how it reads. -/
structure Rep where
  dead : List Int
  stuck : List Int
  endless : List Int
deriving DecidableEq
def RepAt (W : World) (v : Value) (r : Rep) : Prop := ∃ a1 a2 a3 c1 c2 c3, v = .agg #[.slice a1 r.dead.length c1, .slice a2 r.stuck.length c2, .slice a3 r.endless.length c3] ∧
  NumsAt W W.heap.size (.slice a1 r.dead.length c1) r.dead ∧ NumsAt W W.heap.size (.slice a2 r.stuck.length c2) r.stuck ∧ NumsAt W W.heap.size (.slice a3 r.endless.length c3) r.endless
theorem RepAt.on {W W' : World} {v : Value} {r : Rep} (h : RepAt W v r) (hb : Below W.heap.size W W') : RepAt W' v r := by
  obtain ⟨a1, a2, a3, c1, c2, c3, rfl, h1, h2, h3⟩ := h
  exact ⟨a1, a2, a3, c1, c2, c3, rfl, h1.on hb, h2.on hb, h3.on hb⟩
def sameR (x y : Rep) : Bool := decide (x.dead = y.dead) && (decide (x.stuck = y.stuck) && decide (x.endless = y.endless))
theorem sameR_iff (x y : Rep) : sameR x y = true ↔ x = y := by
  obtain ⟨a, b, c⟩ := x
  obtain ⟨d, e, f⟩ := y
  simp [sameR]
theorem sameR_self (x : Rep) : sameR x x = true := (sameR_iff x x).2 rfl
/-- The block of a report that a function laid. -/
def RpBlock (W : World) (b : Nat) (v0 v1 v2 : Value) : Prop := W.heap[b]? = some (.cells #[v0, v1, v2] 37 (0, 0))
theorem RpBlock.new (w : World) (v0 v1 v2 : Value) : RpBlock (w.alloc (.cells #[v0, v1, v2] 37)) w.heap.size v0 v1 v2 := heap_alloc_new w _
theorem RpBlock.below {W W' : World} {b : Nat} {v0 v1 v2 : Value} (h : RpBlock W b v0 v1 v2) (hb : Below W.heap.size W W') : RpBlock W' b v0 v1 v2 := by
  have hlt := lt_of_heap h
  unfold RpBlock at h ⊢; rw [hb.block b hlt]; exact h
theorem RpBlock.cells {W : World} {b : Nat} {v0 v1 v2 : Value} (h : RpBlock W b v0 v1 v2) : W.cell? ⟨b, 0, none⟩ = some v0 ∧ W.cell? ⟨b, 1, none⟩ = some v1 ∧ W.cell? ⟨b, 2, none⟩ = some v2 := by
  unfold RpBlock at h
  refine ⟨?_, ?_, ?_⟩ <;> simp [World.cell?, h]
set_option maxHeartbeats 1000000 in
set_option maxRecDepth 100000 in
theorem FSame_any (x y : Rep) (v u : Value) (w : World) (hx : RepAt w v x) (hy : RepAt w u y) (h1 : x.dead.length ≤ maxLen) (h2 : x.stuck.length ≤ maxLen) (h3 : x.endless.length ≤ maxLen) :
    Calls Tryd.prog 14 #[v, u] w fun e w' => e = .returned (.bool (sameR x y)) ∧ Below w.heap.size w w' := by
  obtain ⟨a1, a2, a3, c1, c2, c3, rfl, x1, x2, x3⟩ := hx
  obtain ⟨b1, b2, b3, d1, d2, d3, rfl, y1, y2, y3⟩ := hy
  have bl := ((Below.refl w.heap.size w).alloc (Nat.le_refl _) (.cells #[.slice a1 x.dead.length c1, .slice a2 x.stuck.length c2, .slice a3 x.endless.length c3] 37))
  have HB := Lib.hid (bl.alloc bl.size (.cells #[.slice b1 y.dead.length d1, .slice b2 y.stuck.length d2, .slice b3 y.endless.length d3] 37))
  have RB1 := Lib.hid ((RpBlock.new w (.slice a1 x.dead.length c1) (.slice a2 x.stuck.length c2) (.slice a3 x.endless.length c3)).below ((Below.refl _ _).alloc (Nat.le_refl _) (.cells #[.slice b1 y.dead.length d1, .slice b2 y.stuck.length d2, .slice b3 y.endless.length d3] 37)))
  have rb2 := RpBlock.new (w.alloc (.cells #[.slice a1 x.dead.length c1, .slice a2 x.stuck.length c2, .slice a3 x.endless.length c3] 37)) (.slice b1 y.dead.length d1) (.slice b2 y.stuck.length d2) (.slice b3 y.endless.length d3)
  rw [World.size_alloc] at rb2
  have RB2 := Lib.hid rb2
  have C1 := fun W (h : Below w.heap.size w W) => Lib.hid (Ints_any x.dead y.dead a1 b1 c1 d1 W (x1.on h) (y1.on h) h1)
  have C2 := fun W (h : Below w.heap.size w W) => Lib.hid (Ints_any x.stuck y.stuck a2 b2 c2 d2 W (x2.on h) (y2.on h) h2)
  have C3 := fun W (h : Below w.heap.size w W) => Lib.hid (Ints_any x.endless y.endless a3 b3 c3 d3 W (x3.on h) (y3.on h) h3)
  clear bl rb2 x1 x2 x3 y1 y2 y3
  go_enter Tryd.func14, Tryd.ntmps14
  go_upto_region 1 with fail
  generalize (w.alloc _).alloc _ = z1 at *
  obtain ⟨p0, p1, p2⟩ := RB1.out.cells
  obtain ⟨q0, q1, q2⟩ := RB2.out.cells
  go_wp2_with fail
  refine ((C1 z1 HB.out).out).mono ?_
  rintro e z2 ⟨rfl, hb⟩
  have HB2 := Lib.hid (HB.out.trans (hb.mono HB.out.size))
  have RB12 := Lib.hid (RB1.out.below hb)
  have RB22 := Lib.hid (RB2.out.below hb)
  clear hb HB RB1 RB2 p0 p1 p2 q0 q1 q2
  obtain ⟨p0, p1, p2⟩ := RB12.out.cells
  obtain ⟨q0, q1, q2⟩ := RB22.out.cells
  by_cases e1 : x.dead = y.dead
  · have D1 := decide_eq_true e1
    have E1 := Lib.hid D1
    rw [D1]
    clear e1 D1
    go_wp2_with fail
    refine ((C2 z2 HB2.out).out).mono ?_
    rintro e z3 ⟨rfl, hb⟩
    have HB3 := Lib.hid (HB2.out.trans (hb.mono HB2.out.size))
    have RB13 := Lib.hid (RB12.out.below hb)
    have RB23 := Lib.hid (RB22.out.below hb)
    clear hb HB2 RB12 RB22 p0 p1 p2 q0 q1 q2
    obtain ⟨p0, p1, p2⟩ := RB13.out.cells
    obtain ⟨q0, q1, q2⟩ := RB23.out.cells
    by_cases e2 : x.stuck = y.stuck
    · have D2 := decide_eq_true e2
      have E2 := Lib.hid D2
      rw [D2]
      clear e2 D2
      go_wp2_with fail
      refine ((C3 z3 HB3.out).out).mono ?_
      rintro e z4 ⟨rfl, hb⟩
      have HB4 := Lib.hid (HB3.out.trans (hb.mono HB3.out.size))
      clear hb
      go_wp2_with fail
      go_ret
      exact ⟨by unfold sameR; rw [E1.out, E2.out]; rfl, HB4.out⟩
    · have D2 := decide_eq_false e2
      have E2 := Lib.hid D2
      rw [D2]
      clear e2 D2
      go_wp2_with fail
      go_ret
      exact ⟨by unfold sameR; rw [E1.out, E2.out]; rfl, HB3.out⟩
  · have D1 := decide_eq_false e1
    have E1 := Lib.hid D1
    rw [D1]
    clear e1 D1
    go_wp2_with fail
    go_ret
    exact ⟨by unfold sameR; rw [E1.out]; rfl, HB2.out⟩
end Go.Proofs.YtadaijepalhohabDoor
