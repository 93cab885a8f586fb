/-
  The law EventLimits holds for every input: for all numbers n, points and letters it answers true, and its arguments read as before. The package-level tables that its row lists are tied to the program's text by the given tie.
-/
import Derived.Test.YtmccbkhagdklgaaDoorCards
import Derived.Test.YtmccbkhagdklgaaDoorTie
import Derived.Test.YtmccbkhagdklgaaDoorCC
import Derived.ProofKit
import Derived.OpenShut
import Derived.Deep.DeepHandedRow
import Derived.Lib.LaidTab
import Derived.LaidMore
import Derived.Shelf.Vars
namespace Go.Proofs.YtmccbkhagdklgaaDoor.limits
open Go.ChangeShapes Go.WideShapes Go.ChangeAt Go.RowKit

theorem own : ownKnob Tryd.prog.godebug = none := by kernel_rfl
theorem g1 : Tryd.prog.globalNamed "internal/strconv.uint64pow10" = some 1 := by kernel_rfl
theorem g1t : (Tryd.prog.globals[1]?).map (·.type) = some 113 := by kernel_rfl
theorem cellsA : Tryd.prog.cellsOf 113 = 20 := by kernel_rfl
theorem cellsE : Tryd.prog.cellsOf 107 = 1 := by kernel_rfl

theorem pow_of {W : World} (h : laidMetH Tryd.prog Rows.eventLimitsRow.laid W) : PowTab W := by
  obtain ⟨ps, ⟨_, _, _, _, _, _, _, _, _, _, ⟨_, _, _, _, _, _, _, _, _, _, ⟨g', t', cs, fuel, p, q, hg', ht', hvar, hd, _, _⟩, _⟩, _⟩, _⟩ := h
  obtain rfl := Option.some.inj (g1.symm.trans hg')
  obtain rfl := Option.some.inj (g1t.symm.trans ht')
  unfold PowTab Lib.TabIs
  have hc : cs.toList = Lib.pow10Tab.map (Value.int .u64) := Lib.cells_of_tab (k := .u64) (zs := Lib.pow10Tab) Tryd.underlying113 Tryd.underlying107 cellsE cellsA hd
  rw [hvar, ← hc]
theorem max_of {W : World} (h : W.ShapedOpen Tryd.prog) : ∃ m, MaxVar W m :=
  cell_of_shapedOpen_int (zero := #[.int .i64 0]) (t := 3) h (of_decide_eq_true (by kernel_rfl)) (by kernel_rfl) rfl (by kernel_rfl) (by kernel_rfl) Tryd.underlying3

theorem limits_any (m n p q : Int) (w : World) (hT : PowTab w) (hm : MaxVar w m) (hw0 : 0 < w.heap.size) (hn0 : 0 ≤ n) (hn1 : n ≤ 65535) (hp0 : 0 ≤ p) (hp1 : p ≤ 255) (hq0 : 0 ≤ q) (hq1 : q ≤ 255) :
    Calls Tryd.prog 9 #[.int .u16 n, .int .u8 p, .int .u8 q] w fun e w' => e = .returned (.bool true) ∧ Below w.heap.size w w' := by
  obtain ⟨v, hv⟩ : ∃ v : Nat, n % 1101 = (v : Int) := ⟨(n % 1101).toNat, by omega⟩
  obtain ⟨k1, hk1⟩ : ∃ k : Nat, p % 15 = (k : Int) := ⟨(p % 15).toNat, by omega⟩
  obtain ⟨k2, hk2⟩ : ∃ k : Nat, q % 24 = (k : Int) := ⟨(q % 24).toNat, by omega⟩
  by_cases h1 : 1 ≤ (v : Int) <;> by_cases h2 : 2 ≤ (k1 : Int) <;> by_cases h3 : 1 ≤ (k2 : Int)
  · exact limits_case7 m n p q v k1 k2 w hT hm hw0 hn0 hn1 hp0 hp1 hq0 hq1 hv hk1 hk2 h1 h2 h3
  · exact limits_case3 m n p q v k1 k2 w hT hm hw0 hn0 hn1 hp0 hp1 hq0 hq1 hv hk1 hk2 h1 h2 h3
  · exact limits_case5 m n p q v k1 k2 w hT hm hw0 hn0 hn1 hp0 hp1 hq0 hq1 hv hk1 hk2 h1 h2 h3
  · exact limits_case1 m n p q v k1 k2 w hT hm hw0 hn0 hn1 hp0 hp1 hq0 hq1 hv hk1 hk2 h1 h2 h3
  · exact limits_case6 m n p q v k1 k2 w hT hm hw0 hn0 hn1 hp0 hp1 hq0 hq1 hv hk1 hk2 h1 h2 h3
  · exact limits_case2 m n p q v k1 k2 w hT hm hw0 hn0 hn1 hp0 hp1 hq0 hq1 hv hk1 hk2 h1 h2 h3
  · exact limits_case4 m n p q v k1 k2 w hT hm hw0 hn0 hn1 hp0 hp1 hq0 hq1 hv hk1 hk2 h1 h2 h3
  · exact limits_case0 m n p q v k1 k2 w hT hm hw0 hn0 hn1 hp0 hp1 hq0 hq1 hv hk1 hk2 h1 h2 h3
set_option maxRecDepth 100000 in
theorem contract (H : Type) (enc : TypeId × Value → H) (W : World) (base : Nat) (args : Array Value) (ds gs : List (DataW H)) (before : List MemPlace)
    (hval : ∀ (j : Nat) t v, Tryd.f9.params[j]? = some t → args[j]? = some v → Value.okWide Tryd.prog W .any base t v)
    (hW : DataW.Whole enc Tryd.prog Tryd.f9.params.toList Rows.eventLimitsSpec.vars false W args.toList ds gs before) (hL : laidMetH Tryd.prog Rows.eventLimitsRow.laid W) (hS : W.ShapedOpen Tryd.prog) :
    Calls Tryd.prog 9 args W fun e W' => ∃ v, e = .returned v ∧ Rows.eventLimitsSpec.post enc Tryd.prog Tryd.f9 false true false false W args v W' := by
  have hW' := hW
  obtain ⟨p, q, hA0, hV, rfl, hfz, hnd⟩ := hW
  have hA : DataW.TrodAll enc Tryd.prog W 0 (fun _ => true) true Tryd.f9.params.toList args.toList ds p := hA0
  rw [Tryd.params9] at hA hval
  obtain ⟨v0, v1, v2, d0, d1, d2, p0, p1, p2, rfl, rfl, rfl, h0, h1, h2⟩ := trodAll_three hA
  obtain ⟨rfl, rfl⟩ := trodVars_none hV
  obtain ⟨n, rfl, rfl, rfl, wn⟩ := open_int Tryd.underlying57 (hval 0 57 v0 rfl rfl) h0
  obtain ⟨p, rfl, rfl, rfl, wp⟩ := open_int Tryd.underlying5 (hval 1 5 v1 rfl rfl) h1
  obtain ⟨q, rfl, rfl, rfl, wq⟩ := open_int Tryd.underlying5 (hval 2 5 v2 rfl rfl) h2
  clear hA0
  simp only [List.append_nil] at hW'
  obtain ⟨m, hm⟩ := max_of hS
  have hw0 : 0 < W.heap.size := by
    unfold MaxVar at hm
    have := World.block_lt_of_cell? W _ hm
    exact this
  have bn := bounds_u16 wn
  have bp := bounds_u8 wp
  have bq := bounds_u8 wq
  refine (limits_any m n p q W (pow_of hL) hm hw0 bn.1 bn.2 bp.1 bp.2 bq.1 bq.2).mono fun e W' ⟨he, hb⟩ => ?_
  subst he
  refine ⟨_, rfl, _, _, _, [], [], [], hW', ?_, ?_, ?_, hb.frame _, fun h => by cases h⟩
  · exact trodAll_cons_mk (shut_bool Tryd.underlying4 _) trodAll_mk0
  · exact trodAll_cons_mk (shut_int Tryd.underlying57 wn) (trodAll_cons_mk (shut_int Tryd.underlying5 wp) (trodAll_cons_mk (shut_int Tryd.underlying5 wq) trodAll_mk0))
  · rfl

theorem laid_met (os : Os) : laidMet Tryd.prog Rows.eventLimitsRow.laid ((World.doorLaid Tryd.prog 400 os).forCall (fun _ _ => 0) ⟨#[], #[.int .u16 0, .int .u8 0, .int .u8 0], []⟩).memory :=
  laidMet_of_run' 8 (by kernel_rfl) (by kernel_rfl)
theorem reads (os : Os) {H : Type} (enc : TypeId × Value → H) : ∃ places, DataW.whole enc Tryd.prog ((World.doorLaid Tryd.prog 400 os).forCall (fun _ _ => 0) ⟨#[], #[.int .u16 0, .int .u8 0, .int .u8 0], []⟩).memory Tryd.f9.params.toList Rows.eventLimitsSpec.vars false #[Value.int .u16 0, .int .u8 0, .int .u8 0].toList 8 = some ([.lit (.int .u16 0), .lit (.int .u8 0), .lit (.int .u8 0)], [], places) :=
  ⟨[], by kernel_rfl⟩

set_option maxRecDepth 100000 in
theorem lifted (os : Os) (started : os.Started) (H : Type) (enc : TypeId × Value → H) (F : Stop.Interp) :
    ReturnsInHanded {} Tryd.checked os 9 .any ((OpenSpec.ofChange Rows.eventLimitsSpec).preRow enc Tryd.prog Tryd.f9 Rows.eventLimitsRow.domain false Rows.eventLimitsRow.laid) (((OpenSpec.ofChange Rows.eventLimitsSpec).at F).post enc Tryd.prog Tryd.f9 false true false false) := by
  obtain ⟨places, hx⟩ := reads os enc
  refine returnsInHanded_of_row (C := Tryd.checked) (s := OpenSpec.ofChange Rows.eventLimitsSpec) own started (by kernel_rfl) Tryd.func9
    (witness_row_at (enc := enc) (C := Tryd.checked) false (World.doorLaid Tryd.prog 400 os) #[.int .u16 0, .int .u8 0, .int .u8 0] rfl (by kernel_rfl) (by kernel_rfl) (by kernel_rfl)
      (OpenSpec.preRow_of_cond 8 hx (by kernel_rfl) (fun k hk => by cases hk) (by kernel_rfl) (laid_met os))) ?_
  intro W base args ds gs before hval hW _ _ _ hL hS _
  exact contract H enc W base args ds gs before hval hW hL hS

theorem said : Rows.EventLimitsSaid :=
  OpenClaim.holds_of_cond 9 Tryd.f9 rfl rfl rfl rfl rfl rfl rfl ⟨rfl, rfl, rfl, rfl, rfl⟩ rfl rfl rfl rfl rfl (by kernel_rfl) Tryd.func9 (by kernel_rfl)
    (of_decide_eq_true (by kernel_rfl)) (by unfold Func.isWrapper; first | (rw [if_pos (by decide +kernel)]; kernel_rfl) | (rw [if_neg (by decide +kernel)]; exact ⟨rfl, rfl⟩))
    (fun os started H enc _ F => by rw [OpenClaim.pre_eq_preRow]; exact lifted os started H enc F)

theorem plain (f : FuncId) (fn : Func) (hf : Tryd.pinned.checked.prog.funcNamed "syllabary/syllabarylaw01.EventLimits" = some f) (hfn : Tryd.pinned.checked.prog.funcs[f]? = some fn) :
    false = Tryd.pinned.checked.prog.looks [] ∧ ∀ (j : Nat) t, fn.params[j]? = some t → Tryd.pinned.checked.prog.wantsStandIn t = false := by
  obtain rfl : f = 9 := Option.some.inj ((show Tryd.prog.funcNamed "syllabary/syllabarylaw01.EventLimits" = some 9 by kernel_rfl).symm.trans hf) |>.symm
  obtain rfl : fn = Tryd.f9 := (Option.some.inj (Tryd.func9.symm.trans hfn)).symm
  refine ⟨by kernel_rfl, fun j t ht => ?_⟩
  rw [Tryd.params9] at ht
  have hm : t ∈ [57, 5, 5] := by simpa using Array.mem_of_getElem? ht
  have hall : ([57, 5, 5].all fun u => !Tryd.prog.wantsStandIn u) = true := by kernel_rfl
  exact (show Tryd.prog.wantsStandIn t = false by simpa using List.all_eq_true.1 hall t hm)

theorem card : Rows.EventLimitsCardSaid :=
  Claim7.holds_tied_plain_at .later [] _ _ _ _ said (fun _ h => by cases h) (by kernel_rfl) (fun _ h => by cases h) eventLimits_row_tie rfl ⟨rfl, rfl⟩ (by kernel_rfl) rfl plain (by kernel_rfl)
#print axioms card
end Go.Proofs.YtmccbkhagdklgaaDoor.limits
