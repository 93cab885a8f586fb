/-
  An array of five int8 as an argument.
-/
import Derived.Test.YtifpelimbjoabaaDoorUA
namespace Go.Proofs.YtifpelimbjoabaaDoor
open Go.ChangeShapes Go.WideShapes Go.ChangeAt Go.RowKit Go.ChangeMaps

theorem laid_out : laidOutB Tryd.prog = true := by kernel_rfl
theorem okWide_arr {P : Program} {w : World} {r : Reach} {base : Nat} {t : TypeId} {v : Value} {n : Nat} {e : TypeId} (ht : P.underlying t = some (.array n e)) (h : Value.okWide P w r base t v) : ∃ cs, v = .agg cs ∧ cs.size = P.cellsOf t := by
  simp only [Value.okWide, ht] at h
  obtain ⟨cs, h1, h2, _⟩ := h
  exact ⟨cs, h1, h2⟩
theorem cells51 : Tryd.prog.cellsOf 51 = 5 := by kernel_rfl
theorem cells50 : Tryd.prog.cellsOf 50 = 1 := by kernel_rfl
theorem rec51 : Tryd.prog.readableRec 51 = true := by kernel_rfl
theorem row51 : 51 < Tryd.prog.types.size := of_decide_eq_true (by kernel_rfl)
set_option maxRecDepth 100000 in
theorem open_tFive {H : Type} {enc : TypeId × Value → H} {W : World} {r : Reach} {base : Nat} {v : Value} {d : DataW H} {p : List MemPlace} (hv : Value.okWide Tryd.prog W r base 51 v) (h : DataW.Trod enc Tryd.prog W 0 (fun _ => true) true 51 v d p) :
    ∃ a : Int × Int × Int × Int × Int, v = .agg #[.int .i8 a.1, .int .i8 a.2.1, .int .i8 a.2.2.1, .int .i8 a.2.2.2.1, .int .i8 a.2.2.2.2] ∧ (-128 ≤ a.1 ∧ a.1 ≤ 127) := by
  obtain ⟨cs, rfl, hsz⟩ := okWide_arr Tryd.underlying51 hv
  rw [cells51] at hsz
  obtain ⟨l⟩ := cs
  obtain ⟨x0, x1, x2, x3, x4, rfl⟩ : ∃ x0 x1 x2 x3 x4, l = [x0, x1, x2, x3, x4] := by
    clear h hv
    match l, hsz with
    | [x0, x1, x2, x3, x4], _ => exact ⟨x0, x1, x2, x3, x4, rfl⟩
  obtain ⟨fuel, hf⟩ := h
  obtain ⟨xs, m', -, -, -, hxl, hg⟩ := DataW.trod_array Tryd.underlying51 hf
  rw [cells50] at hg
  obtain ⟨q0, q1, q2, q3, q4, rfl⟩ : ∃ q0 q1 q2 q3 q4, xs = [q0, q1, q2, q3, q4] := by
    clear hg hf
    match xs, hxl with
    | [q0, q1, q2, q3, q4], _ => exact ⟨q0, q1, q2, q3, q4, rfl⟩
  have g0 : DataW.trod enc Tryd.prog W 0 (fun _ => true) true m' 50 [x0] = some q0 := by simpa [Value.cells] using hg 0 (by omega)
  have g1 : DataW.trod enc Tryd.prog W 0 (fun _ => true) true m' 50 [x1] = some q1 := by simpa [Value.cells] using hg 1 (by omega)
  have g2 : DataW.trod enc Tryd.prog W 0 (fun _ => true) true m' 50 [x2] = some q2 := by simpa [Value.cells] using hg 2 (by omega)
  have g3 : DataW.trod enc Tryd.prog W 0 (fun _ => true) true m' 50 [x3] = some q3 := by simpa [Value.cells] using hg 3 (by omega)
  have g4 : DataW.trod enc Tryd.prog W 0 (fun _ => true) true m' 50 [x4] = some q4 := by simpa [Value.cells] using hg 4 (by omega)
  obtain ⟨y0, hy0, -, hw0⟩ := DataW.trod_int Tryd.underlying50 g0
  obtain ⟨y1, hy1, -, -⟩ := DataW.trod_int Tryd.underlying50 g1
  obtain ⟨y2, hy2, -, -⟩ := DataW.trod_int Tryd.underlying50 g2
  obtain ⟨y3, hy3, -, -⟩ := DataW.trod_int Tryd.underlying50 g3
  obtain ⟨y4, hy4, -, -⟩ := DataW.trod_int Tryd.underlying50 g4
  obtain rfl : x0 = .int .i8 y0 := by simpa using hy0
  obtain rfl : x1 = .int .i8 y1 := by simpa using hy1
  obtain rfl : x2 = .int .i8 y2 := by simpa using hy2
  obtain rfl : x3 = .int .i8 y3 := by simpa using hy3
  obtain rfl : x4 = .int .i8 y4 := by simpa using hy4
  exact ⟨(y0, y1, y2, y3, y4), rfl, bounds_i8 hw0⟩
theorem back_tFive {H : Type} {enc : TypeId × Value → H} {W W' : World} {v : Value} {d : DataW H} {p : List MemPlace} (h : DataW.Trod enc Tryd.prog W 0 (fun _ => true) true 51 v d p) (hb : Below W.heap.size W W') :
    DataW.Trod enc Tryd.prog W' 0 (fun b => decide (b < W.heap.size)) true 51 v d p :=
  Below.trod laid_out rec51 row51 h hb (DataW.TrodAll.lt (trodAll_mk1 h))
theorem limits_any (a : Int × Int × Int × Int × Int) (c m : Int) (w : World) (hT : StrTab w) (hP : PowTab w) (hm : MaxVar w m) (h0 : 0 < w.heap.size) (hg : 2 < w.heap.size) (ha : -128 ≤ a.1 ∧ a.1 ≤ 127) (hc : -32768 ≤ c ∧ c ≤ 32767) :
    Calls Tryd.prog 7 #[.agg #[.int .i8 a.1, .int .i8 a.2.1, .int .i8 a.2.2.1, .int .i8 a.2.2.2.1, .int .i8 a.2.2.2.2], .int .i16 c] w fun e w' => e = .returned (.bool true) ∧ Below w.heap.size w w' :=
  Limits_any a.1 a.2.1 a.2.2.1 a.2.2.2.1 a.2.2.2.2 c m w hT hP hm h0 hg ha hc
end Go.Proofs.YtifpelimbjoabaaDoor
