/-
  Arguments opened and shut.
-/
import Derived.Test.YtadaijepalhohaaAV
import Derived.ProofKit
import Derived.OpenShut
import Derived.Deep.DeepHandedRow
import Derived.Lib.LaidTab
import Derived.LaidMore
import Derived.Shelf.Vars
import Derived.Deep.Strs
import Derived.Deep.Slices
import Derived.Carry
import Derived.ChangeOld
namespace Go.Proofs.Ytadaijepalhohaa
open Go.ChangeShapes Go.WideShapes Go.ChangeAt Go.RowKit Go.ChangeMaps

theorem own : ownKnob Try.prog.godebug = none := by kernel_rfl
theorem raw_out : laidOutB Try.prog = true := by kernel_rfl
theorem cellsU8 : Try.prog.cellsOf 5 = 1 := by kernel_rfl
theorem cellsThree : Try.prog.cellsOf 59 = 3 := by kernel_rfl
theorem cellsThrees : Try.prog.cellsOf 23 = 1 := by kernel_rfl
theorem cellsFour : Try.prog.cellsOf 22 = 4 := by kernel_rfl
theorem cellsRaw : Try.prog.cellsOf 25 = 5 := by kernel_rfl
theorem rec25 : Try.prog.readableRec 25 = true := by kernel_rfl
theorem row25 : 25 < Try.prog.types.size := of_decide_eq_true (by kernel_rfl)
theorem add_none (b off k : Nat) : (⟨b, off, none⟩ : Addr).add k = ⟨b, off + k, none⟩ := by unfold Addr.add; split <;> simp_all
theorem tri_cells {H : Type} {enc : TypeId × Value → H} {W : World} {cs : List Value} {x : DataW H × List MemPlace} {fuel : Nat} (hlen : cs.length = 3) (hf : DataW.trod enc Try.prog W 0 (fun _ => true) true fuel 59 cs = some x) :
    ∃ a b c : Nat, cs = [.int .u8 (a : Nat), .int .u8 (b : Nat), .int .u8 (c : Nat)] ∧ a < 256 ∧ b < 256 ∧ c < 256 := by
  obtain ⟨x0, x1, x2, rfl⟩ : ∃ x0 x1 x2, cs = [x0, x1, x2] := by
    clear hf
    match cs, hlen with
    | [x0, x1, x2], _ => exact ⟨x0, x1, x2, rfl⟩
  obtain ⟨xs, m', -, -, -, hxl, hg⟩ := DataW.trod_array Try.underlying59 hf
  rw [cellsU8] at hg
  obtain ⟨q0, q1, q2, rfl⟩ : ∃ q0 q1 q2, xs = [q0, q1, q2] := by
    clear hg hf
    match xs, hxl with
    | [q0, q1, q2], _ => exact ⟨q0, q1, q2, rfl⟩
  have g0 : DataW.trod enc Try.prog W 0 (fun _ => true) true m' 5 [x0] = some q0 := by simpa [Value.cells] using hg 0 (by omega)
  have g1 : DataW.trod enc Try.prog W 0 (fun _ => true) true m' 5 [x1] = some q1 := by simpa [Value.cells] using hg 1 (by omega)
  have g2 : DataW.trod enc Try.prog W 0 (fun _ => true) true m' 5 [x2] = some q2 := by simpa [Value.cells] using hg 2 (by omega)
  obtain ⟨y0, hy0, -, hw0⟩ := DataW.trod_int Try.underlying5 g0
  obtain ⟨y1, hy1, -, hw1⟩ := DataW.trod_int Try.underlying5 g1
  obtain ⟨y2, hy2, -, hw2⟩ := DataW.trod_int Try.underlying5 g2
  obtain rfl : x0 = .int .u8 y0 := by simpa using hy0
  obtain rfl : x1 = .int .u8 y1 := by simpa using hy1
  obtain rfl : x2 = .int .u8 y2 := by simpa using hy2
  have b0 := bounds_u8 hw0
  have b1 := bounds_u8 hw1
  have b2 := bounds_u8 hw2
  exact ⟨y0.toNat, y1.toNat, y2.toNat, by rw [show ((y0.toNat : Nat) : Int) = y0 by omega, show ((y1.toNat : Nat) : Int) = y1 by omega, show ((y2.toNat : Nat) : Int) = y2 by omega], by omega, by omega, by omega⟩
theorem four_cells {H : Type} {enc : TypeId × Value → H} {W : World} {cs : List Value} {x : DataW H × List MemPlace} {fuel : Nat} (hlen : cs.length = 4) (hf : DataW.trod enc Try.prog W 0 (fun _ => true) true fuel 22 cs = some x) :
    ∃ a b c d : Nat, cs = [.int .u8 (a : Nat), .int .u8 (b : Nat), .int .u8 (c : Nat), .int .u8 (d : Nat)] ∧ a < 256 ∧ b < 256 ∧ c < 256 ∧ d < 256 := by
  obtain ⟨x0, x1, x2, x3, rfl⟩ : ∃ x0 x1 x2 x3, cs = [x0, x1, x2, x3] := by
    clear hf
    match cs, hlen with
    | [x0, x1, x2, x3], _ => exact ⟨x0, x1, x2, x3, rfl⟩
  obtain ⟨xs, m', -, -, -, hxl, hg⟩ := DataW.trod_array Try.underlying22 hf
  rw [cellsU8] at hg
  obtain ⟨q0, q1, q2, q3, rfl⟩ : ∃ q0 q1 q2 q3, xs = [q0, q1, q2, q3] := by
    clear hg hf
    match xs, hxl with
    | [q0, q1, q2, q3], _ => exact ⟨q0, q1, q2, q3, rfl⟩
  have g0 : DataW.trod enc Try.prog W 0 (fun _ => true) true m' 5 [x0] = some q0 := by simpa [Value.cells] using hg 0 (by omega)
  have g1 : DataW.trod enc Try.prog W 0 (fun _ => true) true m' 5 [x1] = some q1 := by simpa [Value.cells] using hg 1 (by omega)
  have g2 : DataW.trod enc Try.prog W 0 (fun _ => true) true m' 5 [x2] = some q2 := by simpa [Value.cells] using hg 2 (by omega)
  have g3 : DataW.trod enc Try.prog W 0 (fun _ => true) true m' 5 [x3] = some q3 := by simpa [Value.cells] using hg 3 (by omega)
  obtain ⟨y0, hy0, -, hw0⟩ := DataW.trod_int Try.underlying5 g0
  obtain ⟨y1, hy1, -, hw1⟩ := DataW.trod_int Try.underlying5 g1
  obtain ⟨y2, hy2, -, hw2⟩ := DataW.trod_int Try.underlying5 g2
  obtain ⟨y3, hy3, -, hw3⟩ := DataW.trod_int Try.underlying5 g3
  obtain rfl : x0 = .int .u8 y0 := by simpa using hy0
  obtain rfl : x1 = .int .u8 y1 := by simpa using hy1
  obtain rfl : x2 = .int .u8 y2 := by simpa using hy2
  obtain rfl : x3 = .int .u8 y3 := by simpa using hy3
  have b0 := bounds_u8 hw0
  have b1 := bounds_u8 hw1
  have b2 := bounds_u8 hw2
  have b3 := bounds_u8 hw3
  exact ⟨y0.toNat, y1.toNat, y2.toNat, y3.toNat, by rw [show ((y0.toNat : Nat) : Int) = y0 by omega, show ((y1.toNat : Nat) : Int) = y1 by omega, show ((y2.toNat : Nat) : Int) = y2 by omega, show ((y3.toNat : Nat) : Int) = y3 by omega], by omega, by omega, by omega, by omega⟩
set_option maxRecDepth 100000 in
theorem tris_open {H : Type} {enc : TypeId × Value → H} {W : World} {v : Value} {x : DataW H × List MemPlace} {fuel : Nat} (hf : DataW.trod enc Try.prog W 0 (fun _ => true) true fuel 23 [v] = some x) :
    ∃ (a : Option Addr) (n c : Nat), v = .slice a n c ∧ n ≤ maxLen ∧ TrisAt W W.heap.size (.slice a n c) n := by
  rcases Deep.open_slice Try.underlying23 hf with ⟨h0, _⟩ | ⟨a, len, cap, m, n, D, Pl, hcs, _, hl, hc, hm, _, hx⟩
  · obtain rfl : v = .slice none 0 0 := by simpa using h0
    exact ⟨none, 0, 0, rfl, Nat.zero_le _, none, 0, rfl, fun h => absurd h (Nat.lt_irrefl _)⟩
  · obtain rfl : v = .slice (some a) len cap := by simpa using hcs
    simp only [if_true] at hm
    subst hm
    rw [cellsThree] at hx
    have each : ∀ i, i < m → ∃ p q r : Nat, (p < 256 ∧ q < 256 ∧ r < 256) ∧ W.cell? ((a.add (i * 3)).add 0) = some (.int .u8 (p : Nat)) ∧ W.cell? ((a.add (i * 3)).add 1) = some (.int .u8 (q : Nat)) ∧ W.cell? ((a.add (i * 3)).add 2) = some (.int .u8 (r : Nat)) := fun i hi => by
      obtain ⟨cs, h1, h2⟩ := hx i hi
      obtain ⟨_, hlen, hat⟩ := World.cells?_some h1
      obtain ⟨p, q, r, rfl, h3, h4, h5⟩ := tri_cells hlen h2
      exact ⟨p, q, r, ⟨h3, h4, h5⟩, by simpa using hat 0 (by omega), by simpa using hat 1 (by omega), by simpa using hat 2 (by omega)⟩
    refine ⟨some a, len, m, rfl, Nat.le_trans hl hc, some a, m, rfl, fun hp => ?_⟩
    obtain ⟨_, _, _, _, h1, -⟩ := each 0 (by omega)
    have hs : a.spot = none := by simpa [Addr.add] using World.cell?_spot h1
    obtain ⟨b, off, spot⟩ := a
    obtain rfl : spot = none := hs
    rw [add_none, add_none] at h1
    refine ⟨b, off, rfl, World.block_lt_of_cell? W _ h1, fun i hi => ?_⟩
    obtain ⟨p, q, r, hb, e0, e1, e2⟩ := each i (by omega)
    rw [add_none, add_none] at e0 e1 e2
    exact ⟨p, q, r, hb, e0, e1, e2⟩
/-- A raw description as a value. -/
structure RawO where
  c0 : Nat
  c1 : Nat
  c2 : Nat
  c3 : Nat
  a : Option Addr
  n : Nat
  c : Nat
abbrev RawO.v (o : RawO) : Value := .agg #[.int .u8 (o.c0 : Nat), .int .u8 (o.c1 : Nat), .int .u8 (o.c2 : Nat), .int .u8 (o.c3 : Nat), .slice o.a o.n o.c]
def RawO.ok (o : RawO) (W : World) : Prop := o.c0 < 256 ∧ o.c1 < 256 ∧ o.c2 < 256 ∧ o.c3 < 256 ∧ o.n ≤ maxLen ∧ TrisAt W W.heap.size (.slice o.a o.n o.c) o.n
theorem RawO.ok.on {o : RawO} {W W' : World} (h : o.ok W) (hb : Below W.heap.size W W') : o.ok W' := ⟨h.1, h.2.1, h.2.2.1, h.2.2.2.1, h.2.2.2.2.1, h.2.2.2.2.2.on hb⟩
set_option maxRecDepth 100000 in
theorem open_tRaw {H : Type} {enc : TypeId × Value → H} {W : World} {r : Reach} {base : Nat} {v : Value} {d : DataW H} {p : List MemPlace} (hv : Value.okWide Try.prog W r base 25 v) (h : DataW.Trod enc Try.prog W 0 (fun _ => true) true 25 v d p) :
    ∃ o : RawO, v = .agg #[.int .u8 (o.c0 : Nat), .int .u8 (o.c1 : Nat), .int .u8 (o.c2 : Nat), .int .u8 (o.c3 : Nat), .slice o.a o.n o.c] ∧ o.ok W := by
  obtain ⟨cs, rfl, hsz⟩ := okWide_struct Try.underlying25 hv
  rw [cellsRaw] at hsz
  obtain ⟨l⟩ := cs
  match l, hsz with
  | [x0, x1, x2, x3, x4], _ =>
    obtain ⟨fuel, hf⟩ := h
    obtain ⟨xs, f', _, _, _, hlen, hg⟩ := DataW.trod_struct Try.underlying25 hf
    match xs, hlen with
    | [y0, y1], _ =>
      have g0 : DataW.trod enc Try.prog W 0 (fun _ => true) true f' 22 [x0, x1, x2, x3] = some y0 := by simpa [Value.cells, cellsFour] using hg 0 _ rfl
      have g1 : DataW.trod enc Try.prog W 0 (fun _ => true) true f' 23 [x4] = some y1 := by simpa [Value.cells, cellsThrees] using hg 1 _ rfl
      obtain ⟨a, b, c, d, hcs, h1, h2, h3, h4⟩ := four_cells rfl g0
      simp only [List.cons.injEq, and_true] at hcs
      obtain ⟨rfl, rfl, rfl, rfl⟩ := hcs
      obtain ⟨sa, len, sc, rfl, hl, hR⟩ := tris_open g1
      exact ⟨⟨a, b, c, d, sa, len, sc⟩, rfl, h1, h2, h3, h4, hl, hR⟩
theorem back_tRaw {H : Type} {enc : TypeId × Value → H} {W W' : World} {v : Value} {d : DataW H} {p : List MemPlace} (h : DataW.Trod enc Try.prog W 0 (fun _ => true) true 25 v d p) (hb : Below W.heap.size W W') :
    DataW.Trod enc Try.prog W' 0 (fun b => decide (b < W.heap.size)) true 25 v d p :=
  Below.trod raw_out rec25 row25 h hb (DataW.TrodAll.lt (trodAll_mk1 h))
set_option maxRecDepth 100000 in
theorem u8_open {H : Type} {enc : TypeId × Value → H} {W : World} {v : Value} {x : DataW H × List MemPlace} {fuel : Nat} (h : DataW.trod enc Try.prog W 0 (fun _ => true) true fuel 26 [v] = some x) :
    ∃ a n c, v = .slice a n c ∧ n ≤ maxLen ∧ U8At W W.heap.size v n := by
  rcases Deep.open_slice1 Try.underlying26 cellsU8 h with ⟨h0, _⟩ | ⟨a, len, cap, m, n, V, D, Pl, hcs, _, hl, hc, hm, _, hx⟩
  · obtain rfl : v = .slice none 0 0 := by simpa using h0
    exact ⟨none, 0, 0, rfl, Nat.zero_le _, none, 0, rfl, fun h => absurd h (Nat.lt_irrefl _)⟩
  · obtain rfl : v = .slice (some a) len cap := by simpa using hcs
    simp only [if_true] at hm
    subst hm
    refine ⟨some a, len, m, rfl, Nat.le_trans hl hc, some a, m, rfl, fun hp => ?_⟩
    have h1 := (hx 0 (by omega)).1
    have hs : a.spot = none := by simpa [Addr.add] using World.cell?_spot h1
    obtain ⟨b, off, spot⟩ := a
    obtain rfl : spot = none := hs
    rw [add_none] at h1
    refine ⟨b, off, rfl, World.block_lt_of_cell? W _ h1, fun i hi => ?_⟩
    obtain ⟨h2, h3⟩ := hx i (by omega)
    obtain ⟨y, hy, -, hw⟩ := DataW.trod_int Try.underlying5 h3
    have hv : V i = .int .u8 y := by simpa using hy
    have bd := bounds_u8 hw
    rw [add_none, hv] at h2
    obtain ⟨z, rfl⟩ : ∃ z : Nat, y = (z : Int) := ⟨y.toNat, by have := bd.1; omega⟩
    exact ⟨z, h2, by have := bd.2; omega⟩
theorem okWide_arr2 {P : Program} {w : World} {r : Reach} {base : Nat} {t : TypeId} {v : Value} {n : Nat} {e : TypeId} (ht : P.underlying t = some (.array n e)) (h : Value.okWide P w r base t v) : ∃ cs, v = .agg cs ∧ cs.size = P.cellsOf t := by
  simp only [Value.okWide, ht] at h
  obtain ⟨cs, h1, h2, _⟩ := h
  exact ⟨cs, h1, h2⟩
/-- Bytes in a slice. -/
structure ByO where
  a : Option Addr
  n : Nat
  c : Nat
def ByO.ok (o : ByO) (W : World) : Prop := o.n ≤ maxLen ∧ U8At W W.heap.size (.slice o.a o.n o.c) o.n
theorem ByO.ok.on {o : ByO} {W W' : World} (h : o.ok W) (hb : Below W.heap.size W W') : o.ok W' := ⟨h.1, h.2.on hb⟩
theorem cells26 : Try.prog.cellsOf 26 = 1 := by kernel_rfl
theorem cellsTwoU8s : Try.prog.cellsOf 27 = 2 := by kernel_rfl
theorem rec27 : Try.prog.readableRec 27 = true := by kernel_rfl
theorem row27 : 27 < Try.prog.types.size := of_decide_eq_true (by kernel_rfl)
set_option maxRecDepth 100000 in
theorem open_tTwoU8s {H : Type} {enc : TypeId × Value → H} {W : World} {r : Reach} {base : Nat} {v : Value} {d : DataW H} {p : List MemPlace} (hv : Value.okWide Try.prog W r base 27 v) (h : DataW.Trod enc Try.prog W 0 (fun _ => true) true 27 v d p) :
    ∃ o : ByO × ByO, v = .agg #[.slice o.1.a o.1.n o.1.c, .slice o.2.a o.2.n o.2.c] ∧ o.1.ok W ∧ o.2.ok W := by
  obtain ⟨cs, rfl, hsz⟩ := okWide_arr2 Try.underlying27 hv
  rw [cellsTwoU8s] at hsz
  obtain ⟨l⟩ := cs
  obtain ⟨x0, x1, rfl⟩ : ∃ x0 x1, l = [x0, x1] := by
    clear h hv
    match l, hsz with
    | [x0, x1], _ => exact ⟨x0, x1, rfl⟩
  obtain ⟨fuel, hf⟩ := h
  obtain ⟨xs, m', -, -, -, hxl, hg⟩ := DataW.trod_array Try.underlying27 hf
  rw [cells26] at hg
  obtain ⟨q0, q1, rfl⟩ : ∃ q0 q1, xs = [q0, q1] := by
    clear hg hf
    match xs, hxl with
    | [q0, q1], _ => exact ⟨q0, q1, rfl⟩
  have g0 : DataW.trod enc Try.prog W 0 (fun _ => true) true m' 26 [x0] = some q0 := by simpa [Value.cells] using hg 0 (by omega)
  have g1 : DataW.trod enc Try.prog W 0 (fun _ => true) true m' 26 [x1] = some q1 := by simpa [Value.cells] using hg 1 (by omega)
  obtain ⟨a0, n0, c0, rfl, h0, k0⟩ := u8_open g0
  obtain ⟨a1, n1, c1, rfl, h1, k1⟩ := u8_open g1
  exact ⟨(⟨a0, n0, c0⟩, ⟨a1, n1, c1⟩), rfl, ⟨h0, k0⟩, h1, k1⟩
theorem back_tTwoU8s {H : Type} {enc : TypeId × Value → H} {W W' : World} {v : Value} {d : DataW H} {p : List MemPlace} (h : DataW.Trod enc Try.prog W 0 (fun _ => true) true 27 v d p) (hb : Below W.heap.size W W') :
    DataW.Trod enc Try.prog W' 0 (fun b => decide (b < W.heap.size)) true 27 v d p :=
  Below.trod raw_out rec27 row27 h hb (DataW.TrodAll.lt (trodAll_mk1 h))
end Go.Proofs.Ytadaijepalhohaa
