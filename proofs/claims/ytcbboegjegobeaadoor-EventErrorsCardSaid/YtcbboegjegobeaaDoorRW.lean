/-
  Facts that every row of this seat needs: what the listed table holds, the variable that is an int.
-/
import Derived.Test.YtcbboegjegobeaaDoorCards
import Derived.Test.YtcbboegjegobeaaDoorTie
import Derived.Test.YtcbboegjegobeaaDoorZ
import Derived.ProofKit
import Derived.OpenShut
import Derived.Deep.DeepHandedRow
import Derived.Lib.LaidTab
import Derived.LaidMore
import Derived.Shelf.Vars
namespace Go.Proofs.YtcbboegjegobeaaDoor.limits
open Go.ChangeShapes Go.WideShapes Go.ChangeAt Go.RowKit

theorem own : ownKnob Tryd.prog.godebug = none := by kernel_rfl
theorem g1 : Tryd.prog.globalNamed "internal/strconv.uint64pow10" = some 1 := by kernel_rfl
theorem g1t : (Tryd.prog.globals[1]?).map (·.type) = some 111 := by kernel_rfl
theorem cellsA : Tryd.prog.cellsOf 111 = 20 := by kernel_rfl
theorem cellsE : Tryd.prog.cellsOf 105 = 1 := by kernel_rfl

theorem pow_of {W : World} (h : laidMetH Tryd.prog Rows.eventInvertsRow.laid W) : PowTab W := by
  obtain ⟨ps, ⟨_, _, _, _, _, _, _, _, _, _, ⟨_, _, _, _, _, _, _, _, _, _, ⟨g', t', cs, fuel, p, q, hg', ht', hvar, hd, _, _⟩, _⟩, _⟩, _⟩ := h
  obtain rfl := Option.some.inj (g1.symm.trans hg')
  obtain rfl := Option.some.inj (g1t.symm.trans ht')
  unfold PowTab Lib.TabIs
  have hc : cs.toList = Lib.pow10Tab.map (Value.int .u64) := Lib.cells_of_tab (k := .u64) (zs := Lib.pow10Tab) Tryd.underlying111 Tryd.underlying105 cellsE cellsA hd
  rw [hvar, ← hc]
theorem max_of {W : World} (h : W.ShapedOpen Tryd.prog) : ∃ m, MaxVar W m :=
  cell_of_shapedOpen_int (zero := #[.int .i64 0]) (t := 3) h (of_decide_eq_true (by kernel_rfl)) (by kernel_rfl) rfl (by kernel_rfl) (by kernel_rfl) Tryd.underlying3

end Go.Proofs.YtcbboegjegobeaaDoor.limits
