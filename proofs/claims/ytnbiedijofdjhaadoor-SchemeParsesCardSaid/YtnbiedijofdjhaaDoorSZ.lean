/-
  Facts that every row of this seat needs: what the listed tables hold, the variable that is an int.
-/
import Derived.Test.YtnbiedijofdjhaaDoorCards
import Derived.Test.YtnbiedijofdjhaaDoorTie
import Derived.Test.YtnbiedijofdjhaaDoorSY
import Derived.ProofKit
import Derived.OpenShut
import Derived.Deep.DeepHandedRow
import Derived.Lib.LaidTab
import Derived.LaidMore
import Derived.Shelf.Vars
import Derived.Deep.Strs
namespace Go.Proofs.YtnbiedijofdjhaaDoor
open Go.ChangeShapes Go.WideShapes Go.ChangeAt Go.RowKit

theorem own : ownKnob Tryd.prog.godebug = none := by kernel_rfl
theorem g1 : Tryd.prog.globalNamed "internal/strconv.uint64pow10" = some 1 := by kernel_rfl
theorem g1t : (Tryd.prog.globals[1]?).map (·.type) = some 167 := by kernel_rfl
theorem g2 : Tryd.prog.globalNamed "syllabary/scheme.stretches" = some 0 := by kernel_rfl
theorem g2t : (Tryd.prog.globals[0]?).map (·.type) = some 147 := by kernel_rfl
theorem cellsA : Tryd.prog.cellsOf 167 = 20 := by kernel_rfl
theorem cellsE : Tryd.prog.cellsOf 156 = 1 := by kernel_rfl

theorem pow_of {W : World} (h : laidMetH Tryd.prog Rows.schemeLimitsRow.laid W) : PowTab W := by
  obtain ⟨ps, ⟨_, _, _, _, _, _, _, _, _, _, ⟨_, _, _, _, _, _, _, _, _, _, ⟨g', t', cs, fuel, p, q, hg', ht', hvar, hd, _, _⟩, _⟩, _⟩, _⟩ := h
  obtain rfl := Option.some.inj (g1.symm.trans hg')
  obtain rfl := Option.some.inj (g1t.symm.trans ht')
  unfold PowTab Lib.TabIs
  have hc : cs.toList = Lib.pow10Tab.map (Value.int .u64) := Lib.cells_of_tab (k := .u64) (zs := Lib.pow10Tab) Tryd.underlying167 Tryd.underlying156 cellsE cellsA hd
  rw [hvar, ← hc]
set_option maxRecDepth 100000 in
theorem stretch_cells {H : Type} {enc : TypeId × Value → H} {w : World} {base : Nat} {sp : Nat → Bool} {held : Bool} {fuel : Nat} {cs : List Value} {a b c : Int} {p : List MemPlace}
    (h : DataW.trod enc Tryd.prog w base sp held fuel 146 cs = some (.agg [.lit (.int .u8 a), .lit (.int .u8 b), .lit (.int .i64 c)], p)) : cs = [.int .u8 a, .int .u8 b, .int .i64 c] := by
  obtain ⟨y0, y1, y2, n, hx, hl, f0, f1, f2⟩ := Go.Deep.trod_struct3 Tryd.underlying146 h
  rw [show Tryd.prog.cellsOf 146 = 3 by kernel_rfl] at hl
  obtain ⟨v0, v1, v2, rfl⟩ : ∃ v0 v1 v2, cs = [v0, v1, v2] := by
    clear h hx f0 f1 f2
    match cs, hl with
    | [v0, v1, v2], _ => exact ⟨v0, v1, v2, rfl⟩
  · have hx1 : ([.lit (.int .u8 a), .lit (.int .u8 b), .lit (.int .i64 c)] : List (DataW H)) = [y0.1, y1.1, y2.1] := by
      have := congrArg Prod.fst hx
      simpa using this
    simp only [List.cons.injEq, and_true] at hx1
    obtain ⟨e0, e1, e2⟩ := hx1
    have f0 : DataW.trod enc Tryd.prog w base sp held n 5 [v0] = some y0 := f0
    have f1 : DataW.trod enc Tryd.prog w base sp held n 5 [v1] = some y1 := f1
    have f2 : DataW.trod enc Tryd.prog w base sp held n 3 [v2] = some y2 := f2
    obtain ⟨n0, h0, g0, -⟩ := DataW.trod_int Tryd.underlying5 f0
    obtain ⟨n1, h1, g1, -⟩ := DataW.trod_int Tryd.underlying5 f1
    obtain ⟨n2, h2, g2, -⟩ := DataW.trod_int Tryd.underlying3 f2
    rw [g0] at e0
    rw [g1] at e1
    rw [g2] at e2
    simp only [DataW.lit.injEq, Lit.int.injEq, true_and] at e0 e1 e2
    rw [e0, e1, e2]
    simp only [List.cons.injEq, and_true] at h0 h1 h2
    rw [h0, h1, h2]
set_option maxRecDepth 100000 in
theorem str_of {W : World} (h : laidMetH Tryd.prog Rows.schemeLimitsRow.laid W) (hS : W.ShapedOpen Tryd.prog) : StrTab W := by
  obtain ⟨ps, ⟨_, _, _, _, _, _, _, _, _, _, ⟨_, _, _, _, _, _, _, _, _, _, ⟨_, _, _, _, _, _, _, _, _, _, ⟨_, _, _, _, _, _, _, _, _, _, ⟨g', t', cs, fuel, p, q, hg', ht', hvar, hd, _, _⟩, _⟩, _⟩, _⟩, _⟩, _⟩ := h
  obtain rfl := Option.some.inj (g2.symm.trans hg')
  obtain rfl := Option.some.inj (g2t.symm.trans ht')
  obtain ⟨cs', hc', -, -⟩ := hS.1 0 #[.int .u8 0, .int .u8 0, .int .i64 0, .int .u8 0, .int .u8 0, .int .i64 0, .int .u8 0, .int .u8 0, .int .i64 0] 147 (of_decide_eq_true (by kernel_rfl)) (by kernel_rfl)
  have he : cs' = cs := by
    unfold World.var? at hvar
    rw [g2] at hvar
    simpa [hc'] using hvar
  subst he
  unfold StrTab
  rw [hc']
  obtain ⟨xs, m, -, hx, hcl, hxl, hg⟩ := DataW.trod_array Tryd.underlying147 hd
  rw [show Tryd.prog.cellsOf 147 = 9 by kernel_rfl] at hcl
  rw [show Tryd.prog.cellsOf 146 = 3 by kernel_rfl] at hg
  have hx1 : (Rows.laid_syllabary_scheme_stretches : DataW Unit) = DataW.agg (xs.map (·.1)) := congrArg Prod.fst hx
  obtain ⟨x0, x1, x2, rfl⟩ : ∃ x0 x1 x2, xs = [x0, x1, x2] := by
    match xs, hxl with
    | [x0, x1, x2], _ => exact ⟨x0, x1, x2, rfl⟩
  · unfold Rows.laid_syllabary_scheme_stretches at hx1
    simp only [List.map_cons, List.map_nil, DataW.agg.injEq, List.cons.injEq, and_true] at hx1
    obtain ⟨e0, e1, e2⟩ := hx1
    have g0 : DataW.trod (fun _ => ()) Tryd.prog W 0 (fun _ => true) false m 146 ((cs'.toList.drop 0).take 3) = some (x0.1, x0.2) := hg 0 (by decide)
    have g1 : DataW.trod (fun _ => ()) Tryd.prog W 0 (fun _ => true) false m 146 ((cs'.toList.drop 3).take 3) = some (x1.1, x1.2) := hg 1 (by decide)
    have g2 : DataW.trod (fun _ => ()) Tryd.prog W 0 (fun _ => true) false m 146 ((cs'.toList.drop 6).take 3) = some (x2.1, x2.2) := hg 2 (by decide)
    rw [← e0] at g0
    rw [← e1] at g1
    rw [← e2] at g2
    have k0 := stretch_cells g0
    have k1 := stretch_cells g1
    have k2 := stretch_cells g2
    have key : cs' = #[.int .u8 97, .int .u8 122, .int .i64 1, .int .u8 65, .int .u8 90, .int .i64 2, .int .u8 48, .int .u8 57, .int .i64 4] := by
      apply Array.toList_inj.1
      generalize cs'.toList = l at *
      obtain ⟨c0, c1, c2, c3, c4, c5, c6, c7, c8, rfl⟩ : ∃ c0 c1 c2 c3 c4 c5 c6 c7 c8, l = [c0, c1, c2, c3, c4, c5, c6, c7, c8] := by
        match l, hcl with
        | [c0, c1, c2, c3, c4, c5, c6, c7, c8], _ => exact ⟨c0, c1, c2, c3, c4, c5, c6, c7, c8, rfl⟩
      · simp only [List.drop_zero, List.drop_succ_cons, List.take_succ_cons, List.take_zero, List.cons.injEq, and_true] at k0 k1 k2
        obtain ⟨rfl, rfl, rfl⟩ := k0
        obtain ⟨rfl, rfl, rfl⟩ := k1
        obtain ⟨rfl, rfl, rfl⟩ := k2
        rfl
    rw [key]
theorem max_of {W : World} (h : W.ShapedOpen Tryd.prog) : ∃ m, MaxVar W m :=
  cell_of_shapedOpen_int (zero := #[.int .i64 0]) (t := 3) h (of_decide_eq_true (by kernel_rfl)) (by kernel_rfl) rfl (by kernel_rfl) (by kernel_rfl) Tryd.underlying3
end Go.Proofs.YtnbiedijofdjhaaDoor
