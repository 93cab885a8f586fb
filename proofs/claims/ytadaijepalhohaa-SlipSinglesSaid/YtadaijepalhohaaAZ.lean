/-
  More arguments opened and shut.
-/
import Derived.Test.YtadaijepalhohaaAX
import Derived.ProofKit
import Derived.OpenShut
import Derived.Deep.DeepHandedRow
import Derived.Deep.Slices
namespace Go.Proofs.Ytadaijepalhohaa
open Go.ChangeShapes Go.WideShapes Go.ChangeAt Go.RowKit Go.ChangeMaps

theorem cells52 : Try.prog.cellsOf 52 = 4 := by kernel_rfl
set_option maxRecDepth 100000 in
theorem open_tFourU8s {H : Type} {enc : TypeId × Value → H} {W : World} {r : Reach} {base : Nat} {v : Value} {d : DataW H} {p : List MemPlace} (hv : Value.okWide Try.prog W r base 52 v) (h : DataW.Trod enc Try.prog W 0 (fun _ => true) true 52 v d p) :
    ∃ o : ByO × ByO × ByO × ByO, v = .agg #[.slice o.1.a o.1.n o.1.c, .slice o.2.1.a o.2.1.n o.2.1.c, .slice o.2.2.1.a o.2.2.1.n o.2.2.1.c, .slice o.2.2.2.a o.2.2.2.n o.2.2.2.c] ∧ o.1.ok W ∧ o.2.1.ok W ∧ o.2.2.1.ok W ∧ o.2.2.2.ok W := by
  obtain ⟨cs, rfl, hsz⟩ := okWide_arr2 Try.underlying52 hv
  rw [cells52] at hsz
  obtain ⟨l⟩ := cs
  obtain ⟨x0, x1, x2, x3, rfl⟩ : ∃ x0 x1 x2 x3, l = [x0, x1, x2, x3] := by
    clear h hv
    match l, hsz with
    | [x0, x1, x2, x3], _ => exact ⟨x0, x1, x2, x3, rfl⟩
  obtain ⟨fuel, hf⟩ := h
  obtain ⟨xs, m', -, -, -, hxl, hg⟩ := DataW.trod_array Try.underlying52 hf
  rw [cells26] at hg
  obtain ⟨q0, q1, q2, q3, rfl⟩ : ∃ q0 q1 q2 q3, xs = [q0, q1, q2, q3] := by
    clear hg hf
    match xs, hxl with
    | [q0, q1, q2, q3], _ => exact ⟨q0, q1, q2, q3, rfl⟩
  have g0 : DataW.trod enc Try.prog W 0 (fun _ => true) true m' 26 [x0] = some q0 := by simpa [Value.cells] using hg 0 (by omega)
  have g1 : DataW.trod enc Try.prog W 0 (fun _ => true) true m' 26 [x1] = some q1 := by simpa [Value.cells] using hg 1 (by omega)
  have g2 : DataW.trod enc Try.prog W 0 (fun _ => true) true m' 26 [x2] = some q2 := by simpa [Value.cells] using hg 2 (by omega)
  have g3 : DataW.trod enc Try.prog W 0 (fun _ => true) true m' 26 [x3] = some q3 := by simpa [Value.cells] using hg 3 (by omega)
  obtain ⟨a0, n0, c0, rfl, h0, k0⟩ := u8_open g0
  obtain ⟨a1, n1, c1, rfl, h1, k1⟩ := u8_open g1
  obtain ⟨a2, n2, c2, rfl, h2, k2⟩ := u8_open g2
  obtain ⟨a3, n3, c3, rfl, h3, k3⟩ := u8_open g3
  exact ⟨(⟨a0, n0, c0⟩, ⟨a1, n1, c1⟩, ⟨a2, n2, c2⟩, ⟨a3, n3, c3⟩), rfl, ⟨h0, k0⟩, ⟨h1, k1⟩, ⟨h2, k2⟩, h3, k3⟩
theorem rec52 : Try.prog.readableRec 52 = true := by kernel_rfl
theorem row52 : 52 < Try.prog.types.size := of_decide_eq_true (by kernel_rfl)
set_option maxRecDepth 100000 in
theorem back_tFourU8s {H : Type} {enc : TypeId × Value → H} {W W' : World} {v : Value} {d : DataW H} {p : List MemPlace} (h : DataW.Trod enc Try.prog W 0 (fun _ => true) true 52 v d p) (hb : Below W.heap.size W W') :
    DataW.Trod enc Try.prog W' 0 (fun b => decide (b < W.heap.size)) true 52 v d p :=
  Below.trod raw_out rec52 row52 h hb (DataW.TrodAll.lt (trodAll_mk1 h))
set_option maxRecDepth 100000 in
theorem open_tU8s {H : Type} {enc : TypeId × Value → H} {W : World} {r : Reach} {base : Nat} {v : Value} {d : DataW H} {p : List MemPlace} (hv : Value.okWide Try.prog W r base 26 v) (h : DataW.Trod enc Try.prog W 0 (fun _ => true) true 26 v d p) :
    ∃ o : ByO, v = .slice o.a o.n o.c ∧ o.ok W := by
  obtain ⟨a0, n0, c0, rfl⟩ := okWide_slice Try.underlying26 hv
  obtain ⟨fuel, hf⟩ := h
  have hf' : DataW.trod enc Try.prog W 0 (fun _ => true) true fuel 26 [.slice a0 n0 c0] = some (d, p) := hf
  obtain ⟨a, n, c, he, hl, hx⟩ := u8_open hf'
  obtain ⟨rfl, rfl, rfl⟩ : a0 = a ∧ n0 = n ∧ c0 = c := by simpa using he
  exact ⟨⟨a0, n0, c0⟩, rfl, hl, hx⟩
theorem rec26 : Try.prog.readableRec 26 = true := by kernel_rfl
theorem row26 : 26 < Try.prog.types.size := of_decide_eq_true (by kernel_rfl)
set_option maxRecDepth 100000 in
theorem back_tU8s {H : Type} {enc : TypeId × Value → H} {W W' : World} {v : Value} {d : DataW H} {p : List MemPlace} (h : DataW.Trod enc Try.prog W 0 (fun _ => true) true 26 v d p) (hb : Below W.heap.size W W') :
    DataW.Trod enc Try.prog W' 0 (fun b => decide (b < W.heap.size)) true 26 v d p :=
  Below.trod raw_out rec26 row26 h hb (DataW.TrodAll.lt (trodAll_mk1 h))
/-- Four bytes. -/
structure FoO where
  c0 : Nat
  c1 : Nat
  c2 : Nat
  c3 : Nat
set_option maxRecDepth 100000 in
theorem open_tFour {H : Type} {enc : TypeId × Value → H} {W : World} {r : Reach} {base : Nat} {v : Value} {d : DataW H} {p : List MemPlace} (hv : Value.okWide Try.prog W r base 22 v) (h : DataW.Trod enc Try.prog W 0 (fun _ => true) true 22 v d p) :
    ∃ o : FoO, v = .agg #[.int .u8 (o.c0 : Nat), .int .u8 (o.c1 : Nat), .int .u8 (o.c2 : Nat), .int .u8 (o.c3 : Nat)] ∧ o.c0 < 256 ∧ o.c1 < 256 ∧ o.c2 < 256 ∧ o.c3 < 256 := by
  obtain ⟨cs, rfl, hsz⟩ := okWide_arr2 Try.underlying22 hv
  rw [cellsFour] at hsz
  obtain ⟨l⟩ := cs
  obtain ⟨fuel, hf⟩ := h
  obtain ⟨a, b, c, d, rfl, h1, h2, h3, h4⟩ := four_cells hsz hf
  exact ⟨⟨a, b, c, d⟩, rfl, h1, h2, h3, h4⟩
theorem rec22 : Try.prog.readableRec 22 = true := by kernel_rfl
theorem row22 : 22 < Try.prog.types.size := of_decide_eq_true (by kernel_rfl)
set_option maxRecDepth 100000 in
theorem back_tFour {H : Type} {enc : TypeId × Value → H} {W W' : World} {v : Value} {d : DataW H} {p : List MemPlace} (h : DataW.Trod enc Try.prog W 0 (fun _ => true) true 22 v d p) (hb : Below W.heap.size W W') :
    DataW.Trod enc Try.prog W' 0 (fun b => decide (b < W.heap.size)) true 22 v d p :=
  Below.trod raw_out rec22 row22 h hb (DataW.TrodAll.lt (trodAll_mk1 h))
/-- Two bytes. -/
structure TwO where
  c0 : Nat
  c1 : Nat
theorem cells50 : Try.prog.cellsOf 50 = 2 := by kernel_rfl
set_option maxRecDepth 100000 in
theorem open_tTwo8 {H : Type} {enc : TypeId × Value → H} {W : World} {r : Reach} {base : Nat} {v : Value} {d : DataW H} {p : List MemPlace} (hv : Value.okWide Try.prog W r base 50 v) (h : DataW.Trod enc Try.prog W 0 (fun _ => true) true 50 v d p) :
    ∃ o : TwO, v = .agg #[.int .u8 (o.c0 : Nat), .int .u8 (o.c1 : Nat)] ∧ o.c0 < 256 ∧ o.c1 < 256 := by
  obtain ⟨cs, rfl, hsz⟩ := okWide_arr2 Try.underlying50 hv
  rw [cells50] at hsz
  obtain ⟨l⟩ := cs
  obtain ⟨x0, x1, rfl⟩ : ∃ x0 x1, l = [x0, x1] := by
    clear h hv
    match l, hsz with
    | [x0, x1], _ => exact ⟨x0, x1, rfl⟩
  obtain ⟨fuel, hf⟩ := h
  obtain ⟨xs, m', -, -, -, hxl, hg⟩ := DataW.trod_array Try.underlying50 hf
  rw [cellsU8] at hg
  obtain ⟨q0, q1, rfl⟩ : ∃ q0 q1, xs = [q0, q1] := by
    clear hg hf
    match xs, hxl with
    | [q0, q1], _ => exact ⟨q0, q1, rfl⟩
  have g0 : DataW.trod enc Try.prog W 0 (fun _ => true) true m' 5 [x0] = some q0 := by simpa [Value.cells] using hg 0 (by omega)
  have g1 : DataW.trod enc Try.prog W 0 (fun _ => true) true m' 5 [x1] = some q1 := by simpa [Value.cells] using hg 1 (by omega)
  obtain ⟨y0, hy0, -, hw0⟩ := DataW.trod_int Try.underlying5 g0
  obtain ⟨y1, hy1, -, hw1⟩ := DataW.trod_int Try.underlying5 g1
  obtain rfl : x0 = .int .u8 y0 := by simpa using hy0
  obtain rfl : x1 = .int .u8 y1 := by simpa using hy1
  have b0 := bounds_u8 hw0
  have b1 := bounds_u8 hw1
  exact ⟨⟨y0.toNat, y1.toNat⟩, by rw [show ((y0.toNat : Nat) : Int) = y0 by omega, show ((y1.toNat : Nat) : Int) = y1 by omega], (show y0.toNat < 256 by omega), (show y1.toNat < 256 by omega)⟩
theorem rec50 : Try.prog.readableRec 50 = true := by kernel_rfl
theorem row50 : 50 < Try.prog.types.size := of_decide_eq_true (by kernel_rfl)
set_option maxRecDepth 100000 in
theorem back_tTwo8 {H : Type} {enc : TypeId × Value → H} {W W' : World} {v : Value} {d : DataW H} {p : List MemPlace} (h : DataW.Trod enc Try.prog W 0 (fun _ => true) true 50 v d p) (hb : Below W.heap.size W W') :
    DataW.Trod enc Try.prog W' 0 (fun b => decide (b < W.heap.size)) true 50 v d p :=
  Below.trod raw_out rec50 row50 h hb (DataW.TrodAll.lt (trodAll_mk1 h))
end Go.Proofs.Ytadaijepalhohaa
