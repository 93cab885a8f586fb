/-
  Schemes and rules in blocks of their own: stores of a whole, results.
-/
import Derived.Test.YtadaijepalhohabDoorSG
import Derived.Handy
import Derived.StillTailTactics
namespace Go.Proofs.YtadaijepalhohabDoor
open Go.RowKit

theorem info28 : (Tryd.prog.info? 28).map (·.size) = some 3 := by kernel_rfl
theorem info31 : (Tryd.prog.info? 31).map (·.size) = some 5 := by kernel_rfl
/-- A store of a whole scheme: some world in which the block holds the new cells; nothing else has turned. -/
theorem wpList_store_sch {ops : Array Oper} {rest : List Oper} {o : Oper} {a : Act} {W : World} {Q : Exit → Act → World → Prop} (hgd : o.guard = none) (x y : Operand) (ho : o.op = .store 28 x y)
    (b : Nat) (c0 c1 c2 : Value) (hb : SchBlock W b c0 c1 c2) (hx : a.eval x = .pointer (some ⟨b, 0, none⟩)) (m n : Int) (sa : Option Addr) (sn sc : Nat) (hy : a.eval y = .agg #[.int .i64 m, .int .u8 n, .slice sa sn sc])
    (hK : ∀ W', SchBlock W' b (.int .i64 m) (.int .u8 n) (.slice sa sn sc) → W.grownBy W' (some b) → W'.heap.size = W.heap.size → wpList Tryd.prog ops Q rest (a.put o.dst undef) W') : wpList Tryd.prog ops Q (o :: rest) a W := by
  refine wpList_store_row hgd 28 x y ho b _ hx hy 28 _ hb info28 rfl (by simp [Value.oneCell']) (hK _ ?_ ?_ ?_)
  · unfold SchBlock at hb ⊢
    exact setRow_heap W b _ _ 28 _ hb
  · refine ⟨rfl, rfl, rfl, by simp, fun i hi hne => ?_⟩
    simp only [World.setRow, Array.getElem?_modify]
    rw [if_neg (fun e => hne (by rw [e]))]
  · simp
theorem wpList_store_rl {ops : Array Oper} {rest : List Oper} {o : Oper} {a : Act} {W : World} {Q : Exit → Act → World → Prop} (hgd : o.guard = none) (x y : Operand) (ho : o.op = .store 31 x y)
    (b : Nat) (old : Rl) (hb : RlBlock W b old) (hx : a.eval x = .pointer (some ⟨b, 0, none⟩)) (r : Rl) (hy : a.eval y = rlV r)
    (hK : ∀ W', RlBlock W' b r → W.grownBy W' (some b) → W'.heap.size = W.heap.size → wpList Tryd.prog ops Q rest (a.put o.dst undef) W') : wpList Tryd.prog ops Q (o :: rest) a W := by
  refine wpList_store_row hgd 31 x y ho b _ hx hy 31 _ hb info31 rfl (by simp [Value.oneCell']) (hK _ ?_ ?_ ?_)
  · unfold RlBlock at hb ⊢
    exact setRow_heap W b _ _ 31 _ hb
  · refine ⟨rfl, rfl, rfl, by simp, fun i hi hne => ?_⟩
    simp only [World.setRow, Array.getElem?_modify]
    rw [if_neg (fun e => hne (by rw [e]))]
  · simp
theorem ret_sch {fn : Func} {p : Tmp} (h : fn.results = #[.cell p 28]) {R : Ending → World → Prop} {a : Act} {W : World} {b : Nat} {c0 c1 c2 : Value}
    (hp : a.tmps.getD p undef = .pointer (some ⟨b, 0, none⟩)) (hd : a.defers = []) (hb : SchBlock W b c0 c1 c2)
    (hR : R (.returned (.agg #[c0, c1, c2])) W) : bodyPost Tryd.prog fn R .ret a W := by
  refine bodyPost_ret ?_ hd hR
  have hp' : a.tmps[p]?.getD undef = .pointer (some ⟨b, 0, none⟩) := by simpa using hp
  have hl := run_loadVar_row (P := Tryd.prog) W b 28 28 #[c0, c1, c2] (0, 0) _ hb Tryd.underlying28 rfl info28
  simp [results, h, hp', asAddr, hl]
theorem ret_rl {fn : Func} {p : Tmp} (h : fn.results = #[.cell p 31]) {R : Ending → World → Prop} {a : Act} {W : World} {b : Nat} {r : Rl}
    (hp : a.tmps.getD p undef = .pointer (some ⟨b, 0, none⟩)) (hd : a.defers = []) (hb : RlBlock W b r)
    (hR : R (.returned (rlV r)) W) : bodyPost Tryd.prog fn R .ret a W := by
  refine bodyPost_ret ?_ hd hR
  have hp' : a.tmps[p]?.getD undef = .pointer (some ⟨b, 0, none⟩) := by simpa using hp
  have hl := run_loadVar_row (P := Tryd.prog) W b 31 31 _ (0, 0) _ hb Tryd.underlying31 rfl info31
  simp [results, h, hp', asAddr, hl]

end Go.Proofs.YtadaijepalhohabDoor
