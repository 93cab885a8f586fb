/-
  event.forms: the table of the kinds, as a block of memory; what a look-up in it answers.
-/
import Derived.Test.YtmioocmjlbjfpaaDoorA
import Derived.Maps.RangeWalk
import Derived.Outline
import Derived.Handy
import Derived.Laws.EntriesVeiled
namespace Go.Proofs.YtmioocmjlbjfpaaDoor
open Go.RowKit
open Pl
open Go.ChangeMaps (setBlock heap_setBlock_same)
open Go.Maps

theorem run_insert_new {P : Program} {t k e : TypeId} (ht : P.underlying t = some (.map k e)) (hk : P.underlying k = some (.int .i64)) {w : World} {b : Nat} {es : Array MapEntry} {clock : Nat} (hb : w.heap[b]? = some (.map es clock)) (kk : Int) (val : Value)
    (hnew : Instr.findNow (.int .i64) (.int .i64 kk) es.toList 0 = some none) :
    (Instr.mapUpdate t (.map (some b)) (.int .i64 kk) val).run P w = .ok () (setBlock w b (.map (es.push ⟨.int .i64 kk, val, clock⟩) (clock + 1))) := by
  have hc : (Instr.checkKey false 10000 k (.int .i64 kk)).run P w = .ok () w := by
    rw [show (10000 : Nat) = 9999 + 1 from rfl, Instr.checkKey]
    simp [run_underlying hk]
  have hf : (Instr.findKey k (.int .i64 kk) es.toList).run P w = .ok none w := by
    simp [Instr.findKey, run_underlying hk, hnew]
  simp [Instr.mapUpdate, run_underlying ht, MapKept.run_getObj_map hb, hc, hf, MapKept.run_setObj_map _ hb, Result.andThen, setBlock]

/-- Block B, which was not there in w0, is a map with these entries; all that was there is as it was. -/
def Tab (B : Nat) (w0 : World) (es : Array MapEntry) (W : World) : Prop := W.heap[B]? = some (.map es es.size) ∧ Below B w0 W ∧ B < W.heap.size
theorem Tab.start (w : World) : Tab w.heap.size w #[] (w.alloc (.map #[] 0)) :=
  ⟨by show (w.heap.push (Obj.map #[] 0))[w.heap.size]? = _; simp, (Below.refl _ _).alloc (Nat.le_refl _) _, by simp⟩
theorem Tab.below {B : Nat} {w0 W W' : World} {es : Array MapEntry} (h : Tab B w0 es W) (hb : Below W.heap.size W W') : Tab B w0 es W' :=
  ⟨by rw [hb.block B h.2.2]; exact h.1, h.2.1.trans (hb.mono (Nat.le_of_lt h.2.2)), Nat.lt_of_lt_of_le h.2.2 hb.size⟩

theorem wpList_insert_tab {P : Program} (w : World) {ops : Array Oper} {rest : List Oper} {o : Oper} {a : Act} {Q : Exit → Act → World → Prop}
    (hg : o.guard = none) (m x v : Operand) (t : TypeId) (hop : o.op = Op.insert t m x v)
    (k e : TypeId) (ht : P.underlying t = some (.map k e)) (hk : P.underlying k = some (.int .i64)) (B : Nat) (w0 : World) (es : Array MapEntry)
    (hm : a.eval m = .map (some B)) (hb : Tab B w0 es w) (kk : Int) (val : Value) (hx : a.eval x = .int .i64 kk) (hv : a.eval v = val)
    (hnew : Instr.findNow (.int .i64) (.int .i64 kk) es.toList 0 = some none)
    (hK : ∀ w', Tab B w0 (es.push ⟨.int .i64 kk, val, es.size⟩) w' → wpList P ops Q rest (a.put o.dst undef) w') :
    wpList P ops Q (o :: rest) a w := by
  refine wpList_plain hg fun K' hK' => ?_
  have hrun := run_insert_new ht hk hb.1 kk val hnew
  unfold Oper.wp
  simp [execOp, hop, hm, hx, hv, hrun, Result.andThen]
  refine hK' _ _ (hK _ ⟨?_, ?_, ?_⟩)
  · rw [heap_setBlock_same hb.1 _, Array.size_push]
  · exact hb.2.1.trans ⟨rfl, rfl, rfl, by simp [setBlock], fun i hi => Go.ChangeMaps.heap_setBlock_other hb.1 _ (by omega)⟩
  · simp [setBlock]; exact hb.2.2

/-- The kinds' forms: a name, five spans of two numbers each, two functions. -/
def formVal (name : List UInt8) (k1 k2 p1 p2 t1 t2 n1 n2 s1 s2 : Int) (wr rd : Nat) : Value :=
  .agg #[.string ⟨name.toArray⟩, .int .i64 k1, .int .i64 k2, .int .i64 p1, .int .i64 p2, .int .i64 t1, .int .i64 t2, .int .i64 n1, .int .i64 n2, .int .i64 s1, .int .i64 s2, .func (.func wr) #[] #[], .func (.func rd) #[] #[]]
def formAt : Nat → Value
  | 0 => formVal [107, 101, 121] 1 1 0 0 0 0 0 0 0 0 28 29
  | 1 => formVal [99, 104, 111, 114, 100] 2 4 0 0 0 0 0 0 0 0 28 29
  | 2 => formVal [116, 111, 117, 99, 104] 0 0 1 1 0 0 0 0 0 0 30 31
  | 3 => formVal [115, 116, 114, 111, 107, 101] 0 0 2 12 0 0 0 0 0 0 30 31
  | 4 => formVal [112, 97, 115, 116, 101] 0 0 0 0 1 20 0 0 0 0 32 33
  | 5 => formVal [101, 114, 97, 115, 101] 0 0 0 0 0 0 0 0 0 0 50 51
  | 6 => formVal [108, 101, 102, 116] 0 0 0 0 0 0 0 0 0 0 50 51
  | 7 => formVal [114, 105, 103, 104, 116] 0 0 0 0 0 0 0 0 0 0 50 51
  | 8 => formVal [104, 111, 108, 100] 0 0 0 0 0 0 0 39 1 40 35 36
  | 9 => formVal [99, 104, 111, 111, 115, 101] 0 0 0 0 0 0 0 49 0 0 37 38
  | 10 => formVal [99, 111, 109, 109, 105, 116] 0 0 0 0 0 0 0 0 0 0 50 51
  | 11 => formVal [99, 97, 110, 99, 101, 108] 0 0 0 0 0 0 0 0 0 0 50 51
  | _ => .agg #[.string ⟨#[]⟩, .int .i64 0, .int .i64 0, .int .i64 0, .int .i64 0, .int .i64 0, .int .i64 0, .int .i64 0, .int .i64 0, .int .i64 0, .int .i64 0, .nilFunc, .nilFunc]
def entryAt (i : Nat) : MapEntry := ⟨.int .i64 ((i + 1 : Nat) : Int), formAt i, i⟩
def tableEs : Array MapEntry := #[entryAt 0, entryAt 1, entryAt 2, entryAt 3, entryAt 4, entryAt 5, entryAt 6, entryAt 7, entryAt 8, entryAt 9, entryAt 10, entryAt 11]

set_option maxHeartbeats 400000 in
theorem bare_any (s : ByteArray) (w : World) :
    Calls Tryd.prog 34 #[.string s] w fun e w' => e = .returned (.agg #[.string s, .int .i64 0, .int .i64 0, .int .i64 0, .int .i64 0, .int .i64 0, .int .i64 0, .int .i64 0, .int .i64 0, .int .i64 0, .int .i64 0, .func (.func 50) #[] #[], .func (.func 51) #[] #[]]) ∧ Below w.heap.size w w' := by
  go_enter Tryd.func34, Tryd.ntmps34
  go_wp2
  go_returns
  exact ⟨rfl, by go_grown⟩

set_option maxHeartbeats 4000000 in
set_option maxRecDepth 100000 in
theorem forms_any (w : World) :
    Calls Tryd.prog 19 #[] w fun e w' => e = .returned (.map (some w.heap.size)) ∧ Tab w.heap.size w tableEs w' := by
  have hmm := @run_makeMap Tryd.prog
  have hb := Tab.start w
  go_enter Tryd.func19, Tryd.ntmps19
  go_wp2_with (first
    | (refine wpList_insert_tab _ rfl _ _ _ 52 rfl 3 62 Tryd.underlying52 Tryd.underlying3 _ _ _ rfl hb _ _ rfl rfl rfl ?_; clear hb; intro w1 hb)
    | (go_at_call 34; refine (bare_any _ _).mono ?_; rintro e w1 ⟨rfl, hbel⟩; have hb' := hb.below hbel; clear hb hbel; rename _ => hb)
    | fail)
  have hb' : Hid (Tab w.heap.size w tableEs _) := hb
  clear hb
  go_ret
  exact ⟨rfl, hb'.out⟩
end Go.Proofs.YtmioocmjlbjfpaaDoor
