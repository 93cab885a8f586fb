/-
  Slips and three small integers opened and shut.
-/
import Derived.Test.YtadaijepalhohaaAZ
import Derived.ProofKit
import Derived.OpenShut
import Derived.Deep.DeepHandedRow
import Derived.Deep.Slices
namespace Go.Proofs.Ytadaijepalhohaa
open Go.ChangeShapes Go.WideShapes Go.ChangeAt Go.RowKit Go.ChangeMaps
open Pl

theorem list_choose {α : Type} {P : Nat → α → Prop} : ∀ n, (∀ i, i < n → ∃ x, P i x) → ∃ xs : List α, xs.length = n ∧ ∀ i (h : i < xs.length), P i xs[i]
  | 0, _ => ⟨[], rfl, fun i h => by cases h⟩
  | n + 1, h => by
    obtain ⟨xs, h1, h2⟩ := list_choose n fun i hi => h i (by omega)
    obtain ⟨x, hx⟩ := h n (by omega)
    refine ⟨xs ++ [x], by simp [h1], fun i hi => ?_⟩
    rcases Nat.lt_or_ge i xs.length with q | q
    · rw [List.getElem_append_left q]; exact h2 i q
    · have : i = xs.length := by simp at hi; omega
      subst this
      rw [List.getElem_append_right (Nat.le_refl _)]
      simp only [Nat.sub_self, List.getElem_cons_zero]
      rw [h1]; exact hx
theorem cells46 : Try.prog.cellsOf 46 = 3 := by kernel_rfl
theorem cells3 : Try.prog.cellsOf 3 = 1 := by kernel_rfl
theorem al_cells {H : Type} {enc : TypeId × Value → H} {W : World} {cs : List Value} {x : DataW H × List MemPlace} {fuel : Nat} (hlen : cs.length = 3) (hf : DataW.trod enc Try.prog W 0 (fun _ => true) true fuel 46 cs = some x) :
    ∃ y : Al, cs = [.int .u8 (y.a.toNat : Nat), .int .u8 (y.b.toNat : Nat), .int .i64 y.c] := by
  obtain ⟨x0, x1, x2, rfl⟩ : ∃ x0 x1 x2, cs = [x0, x1, x2] := by
    clear hf
    match cs, hlen with
    | [x0, x1, x2], _ => exact ⟨x0, x1, x2, rfl⟩
  obtain ⟨xs, m', -, -, -, hxl, hg⟩ := DataW.trod_struct Try.underlying46 hf
  obtain ⟨q0, q1, q2, rfl⟩ : ∃ q0 q1 q2, xs = [q0, q1, q2] := by
    clear hg hf
    match xs, hxl with
    | [q0, q1, q2], _ => exact ⟨q0, q1, q2, rfl⟩
  have g0 : DataW.trod enc Try.prog W 0 (fun _ => true) true m' 5 [x0] = some q0 := by simpa [Value.cells, cellsU8] using hg 0 _ rfl
  have g1 : DataW.trod enc Try.prog W 0 (fun _ => true) true m' 5 [x1] = some q1 := by simpa [Value.cells, cellsU8] using hg 1 _ rfl
  have g2 : DataW.trod enc Try.prog W 0 (fun _ => true) true m' 3 [x2] = some q2 := by simpa [Value.cells, cellsU8, cells3] using hg 2 _ rfl
  obtain ⟨y0, hy0, -, hw0⟩ := DataW.trod_int Try.underlying5 g0
  obtain ⟨y1, hy1, -, hw1⟩ := DataW.trod_int Try.underlying5 g1
  obtain ⟨y2, hy2, -, hw2⟩ := DataW.trod_int Try.underlying3 g2
  obtain rfl : x0 = .int .u8 y0 := by simpa using hy0
  obtain rfl : x1 = .int .u8 y1 := by simpa using hy1
  obtain rfl : x2 = .int .i64 y2 := by simpa using hy2
  have b0 := bounds_u8 hw0
  have b1 := bounds_u8 hw1
  have e0 : ((y0.toNat.toUInt8.toNat : Nat) : Int) = y0 := by
    rw [show y0.toNat.toUInt8.toNat = y0.toNat % 256 from UInt8.toNat_ofNat' ..]; omega
  have e1 : ((y1.toNat.toUInt8.toNat : Nat) : Int) = y1 := by
    rw [show y1.toNat.toUInt8.toNat = y1.toNat % 256 from UInt8.toNat_ofNat' ..]; omega
  exact ⟨⟨y0.toNat.toUInt8, y1.toNat.toUInt8, y2⟩, by rw [e0, e1]⟩
set_option maxRecDepth 100000 in
theorem als_open {H : Type} {enc : TypeId × Value → H} {W : World} {v : Value} {x : DataW H × List MemPlace} {fuel : Nat} (hf : DataW.trod enc Try.prog W 0 (fun _ => true) true fuel 30 [v] = some x) :
    ∃ (a : Option Addr) (c : Nat) (xs : List Al), v = .slice a xs.length c ∧ xs.length ≤ c ∧ c ≤ maxLen ∧ AlsAt W W.heap.size (.slice a xs.length c) xs := by
  rcases Deep.open_slice Try.underlying30 hf with ⟨h0, _⟩ | ⟨a, len, cap, m, n, D, Pl, hcs, _, hl, hc, hm, _, hx⟩
  · obtain rfl : v = .slice none 0 0 := by simpa using h0
    exact ⟨none, 0, [], rfl, Nat.le_refl _, Nat.zero_le _, none, 0, rfl, fun h => absurd h (Nat.lt_irrefl _)⟩
  · obtain rfl : v = .slice (some a) len cap := by simpa using hcs
    simp only [if_true] at hm
    subst hm
    rw [cells46] at hx
    have each : ∀ i, i < m → ∃ y : Al, W.cell? ((a.add (i * 3)).add 0) = some (.int .u8 (y.a.toNat : Nat)) ∧ W.cell? ((a.add (i * 3)).add 1) = some (.int .u8 (y.b.toNat : Nat)) ∧ W.cell? ((a.add (i * 3)).add 2) = some (.int .i64 y.c) := fun i hi => by
      obtain ⟨cs, h1, h2⟩ := hx i hi
      obtain ⟨_, hlen, hat⟩ := World.cells?_some h1
      obtain ⟨y, rfl⟩ := al_cells hlen h2
      exact ⟨y, by simpa using hat 0 (by omega), by simpa using hat 1 (by omega), by simpa using hat 2 (by omega)⟩
    obtain ⟨xs, hxs, hP⟩ := list_choose len fun i hi => each i (by omega)
    subst hxs
    refine ⟨some a, m, xs, rfl, hl, hc, some a, m, rfl, fun hp => ?_⟩
    obtain ⟨h1, -⟩ := hP 0 (by omega)
    have hs : a.spot = none := by simpa [Addr.add] using World.cell?_spot h1
    obtain ⟨b, off, spot⟩ := a
    obtain rfl : spot = none := hs
    rw [add_none, add_none] at h1
    refine ⟨b, off, rfl, World.block_lt_of_cell? W _ h1, fun i hi => ?_⟩
    obtain ⟨e0, e1, e2⟩ := hP i hi
    rw [add_none, add_none] at e0 e1 e2
    exact ⟨e0, e1, e2⟩
/-- Slips as a value. -/
structure SlO where
  s : Sl
  a : Option Addr
  c : Nat
def SlO.ok (o : SlO) (W : World) : Prop := o.s.alike.length ≤ o.c ∧ o.c ≤ maxLen ∧ AlsAt W W.heap.size (.slice o.a o.s.alike.length o.c) o.s.alike
theorem cells32 : Try.prog.cellsOf 32 = 5 := by kernel_rfl
theorem cells30 : Try.prog.cellsOf 30 = 1 := by kernel_rfl
theorem rec32 : Try.prog.readableRec 32 = true := by kernel_rfl
theorem row32 : 32 < Try.prog.types.size := of_decide_eq_true (by kernel_rfl)
set_option maxRecDepth 100000 in
theorem open_tSlips {H : Type} {enc : TypeId × Value → H} {W : World} {r : Reach} {base : Nat} {v : Value} {d : DataW H} {p : List MemPlace} (hv : Value.okWide Try.prog W r base 32 v) (h : DataW.Trod enc Try.prog W 0 (fun _ => true) true 32 v d p) :
    ∃ o : SlO, v = .agg #[.int .i64 o.s.swap, .int .i64 o.s.drop, .int .i64 o.s.add, .int .i64 o.s.put, .slice o.a o.s.alike.length o.c] ∧ o.ok W := by
  obtain ⟨cs, rfl, hsz⟩ := okWide_struct Try.underlying32 hv
  rw [cells32] at hsz
  obtain ⟨l⟩ := cs
  match l, hsz with
  | [x0, x1, x2, x3, x4], _ =>
    obtain ⟨fuel, hf⟩ := h
    obtain ⟨xs, f', _, _, _, hlen, hg⟩ := DataW.trod_struct Try.underlying32 hf
    match xs, hlen with
    | [y0, y1, y2, y3, y4], _ =>
      have g0 : DataW.trod enc Try.prog W 0 (fun _ => true) true f' 3 [x0] = some y0 := by simpa [Value.cells, cells3] using hg 0 _ rfl
      have g1 : DataW.trod enc Try.prog W 0 (fun _ => true) true f' 3 [x1] = some y1 := by simpa [Value.cells, cells3] using hg 1 _ rfl
      have g2 : DataW.trod enc Try.prog W 0 (fun _ => true) true f' 3 [x2] = some y2 := by simpa [Value.cells, cells3] using hg 2 _ rfl
      have g3 : DataW.trod enc Try.prog W 0 (fun _ => true) true f' 3 [x3] = some y3 := by simpa [Value.cells, cells3] using hg 3 _ rfl
      have g4 : DataW.trod enc Try.prog W 0 (fun _ => true) true f' 30 [x4] = some y4 := by simpa [Value.cells, cells3, cells30] using hg 4 _ rfl
      obtain ⟨z0, hz0, -, -⟩ := DataW.trod_int Try.underlying3 g0
      obtain ⟨z1, hz1, -, -⟩ := DataW.trod_int Try.underlying3 g1
      obtain ⟨z2, hz2, -, -⟩ := DataW.trod_int Try.underlying3 g2
      obtain ⟨z3, hz3, -, -⟩ := DataW.trod_int Try.underlying3 g3
      obtain rfl : x0 = .int .i64 z0 := by simpa using hz0
      obtain rfl : x1 = .int .i64 z1 := by simpa using hz1
      obtain rfl : x2 = .int .i64 z2 := by simpa using hz2
      obtain rfl : x3 = .int .i64 z3 := by simpa using hz3
      obtain ⟨a, c, ls, rfl, h1, h2, h3⟩ := als_open g4
      exact ⟨⟨⟨z0, z1, z2, z3, ls⟩, a, c⟩, rfl, h1, h2, h3⟩
set_option maxRecDepth 100000 in
theorem back_tSlips {H : Type} {enc : TypeId × Value → H} {W W' : World} {v : Value} {d : DataW H} {p : List MemPlace} (h : DataW.Trod enc Try.prog W 0 (fun _ => true) true 32 v d p) (hb : Below W.heap.size W W') :
    DataW.Trod enc Try.prog W' 0 (fun b => decide (b < W.heap.size)) true 32 v d p :=
  Below.trod raw_out rec32 row32 h hb (DataW.TrodAll.lt (trodAll_mk1 h))
theorem cells43 : Try.prog.cellsOf 43 = 3 := by kernel_rfl
theorem cells42 : Try.prog.cellsOf 42 = 1 := by kernel_rfl
theorem rec43 : Try.prog.readableRec 43 = true := by kernel_rfl
theorem row43 : 43 < Try.prog.types.size := of_decide_eq_true (by kernel_rfl)
structure ThO where
  y0 : Int
  y1 : Int
  y2 : Int
def in16 (y : Int) : Prop := -32768 ≤ y ∧ y ≤ 32767
set_option maxRecDepth 100000 in
theorem open_tThree16 {H : Type} {enc : TypeId × Value → H} {W : World} {r : Reach} {base : Nat} {v : Value} {d : DataW H} {p : List MemPlace} (hv : Value.okWide Try.prog W r base 43 v) (h : DataW.Trod enc Try.prog W 0 (fun _ => true) true 43 v d p) :
    ∃ o : ThO, v = .agg #[.int .i16 o.y0, .int .i16 o.y1, .int .i16 o.y2] ∧ in16 o.y0 ∧ in16 o.y1 ∧ in16 o.y2 := by
  obtain ⟨cs, rfl, hsz⟩ := okWide_arr2 Try.underlying43 hv
  rw [cells43] at hsz
  obtain ⟨l⟩ := cs
  obtain ⟨x0, x1, x2, rfl⟩ : ∃ x0 x1 x2, l = [x0, x1, x2] := by
    clear h hv
    match l, hsz with
    | [x0, x1, x2], _ => exact ⟨x0, x1, x2, rfl⟩
  obtain ⟨fuel, hf⟩ := h
  obtain ⟨xs, m', -, -, -, hxl, hg⟩ := DataW.trod_array Try.underlying43 hf
  rw [cells42] at hg
  obtain ⟨q0, q1, q2, rfl⟩ : ∃ q0 q1 q2, xs = [q0, q1, q2] := by
    clear hg hf
    match xs, hxl with
    | [q0, q1, q2], _ => exact ⟨q0, q1, q2, rfl⟩
  have g0 : DataW.trod enc Try.prog W 0 (fun _ => true) true m' 42 [x0] = some q0 := by simpa [Value.cells] using hg 0 (by omega)
  have g1 : DataW.trod enc Try.prog W 0 (fun _ => true) true m' 42 [x1] = some q1 := by simpa [Value.cells] using hg 1 (by omega)
  have g2 : DataW.trod enc Try.prog W 0 (fun _ => true) true m' 42 [x2] = some q2 := by simpa [Value.cells] using hg 2 (by omega)
  obtain ⟨y0, hy0, -, hw0⟩ := DataW.trod_int Try.underlying42 g0
  obtain ⟨y1, hy1, -, hw1⟩ := DataW.trod_int Try.underlying42 g1
  obtain ⟨y2, hy2, -, hw2⟩ := DataW.trod_int Try.underlying42 g2
  obtain rfl : x0 = .int .i16 y0 := by simpa using hy0
  obtain rfl : x1 = .int .i16 y1 := by simpa using hy1
  obtain rfl : x2 = .int .i16 y2 := by simpa using hy2
  exact ⟨⟨y0, y1, y2⟩, rfl, bounds_i16 hw0, bounds_i16 hw1, bounds_i16 hw2⟩
set_option maxRecDepth 100000 in
theorem back_tThree16 {H : Type} {enc : TypeId × Value → H} {W W' : World} {v : Value} {d : DataW H} {p : List MemPlace} (h : DataW.Trod enc Try.prog W 0 (fun _ => true) true 43 v d p) (hb : Below W.heap.size W W') :
    DataW.Trod enc Try.prog W' 0 (fun b => decide (b < W.heap.size)) true 43 v d p :=
  Below.trod raw_out rec43 row43 h hb (DataW.TrodAll.lt (trodAll_mk1 h))
end Go.Proofs.Ytadaijepalhohaa
