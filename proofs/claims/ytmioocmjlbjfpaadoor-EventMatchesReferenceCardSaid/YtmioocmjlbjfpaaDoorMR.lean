/-
  The law EventMatchesReference holds for every input: for all raw events x, texts s and pairs w of bytes it answers true, and its arguments read as before. The package-level tables that its row lists are tied to the program's text by the given tie.
-/
import Derived.Test.YtmioocmjlbjfpaaDoorCards
import Derived.Test.YtmioocmjlbjfpaaDoorTie
import Derived.Test.YtmioocmjlbjfpaaDoorMW
import Derived.Test.YtmioocmjlbjfpaaDoorKK
import Derived.ProofKit
import Derived.OpenShut
import Derived.Deep.DeepHandedRow
import Derived.Lib.LaidTab
import Derived.LaidMore
import Derived.Shelf.Vars
namespace Go.Proofs.YtmioocmjlbjfpaaDoor.matches
open Go.ChangeShapes Go.WideShapes Go.ChangeAt Go.RowKit Go.ChangeMaps

theorem own : ownKnob Tryd.prog.godebug = none := by kernel_rfl
theorem g1 : Tryd.prog.globalNamed "internal/strconv.uint64pow10" = some 1 := by kernel_rfl
theorem g1t : (Tryd.prog.globals[1]?).map (·.type) = some 101 := by kernel_rfl
theorem cellsA : Tryd.prog.cellsOf 101 = 20 := by kernel_rfl
theorem cellsE : Tryd.prog.cellsOf 95 = 1 := by kernel_rfl

theorem pow_of {W : World} (h : laidMetH Tryd.prog Rows.eventMatchesReferenceRow.laid W) : PowTab W := by
  obtain ⟨ps, ⟨_, _, _, _, _, _, _, _, _, _, ⟨_, _, _, _, _, _, _, _, _, _, ⟨g', t', cs, fuel, p, q, hg', ht', hvar, hd, _, _⟩, _⟩, _⟩, _⟩ := h
  obtain rfl := Option.some.inj (g1.symm.trans hg')
  obtain rfl := Option.some.inj (g1t.symm.trans ht')
  unfold PowTab Lib.TabIs
  have hc : cs.toList = Lib.pow10Tab.map (Value.int .u64) := Lib.cells_of_tab (k := .u64) (zs := Lib.pow10Tab) Tryd.underlying101 Tryd.underlying95 cellsE cellsA hd
  rw [hvar, ← hc]
theorem max_of {W : World} (h : W.ShapedOpen Tryd.prog) : ∃ m, MaxVar W m :=
  cell_of_shapedOpen_int (zero := #[.int .i64 0]) (t := 3) h (of_decide_eq_true (by kernel_rfl)) (by kernel_rfl) rfl (by kernel_rfl) (by kernel_rfl) Tryd.underlying3

def zraw : Value := .agg #[.int .u8 0, .slice none 0 0, .slice none 0 0, .int .u8 0, .int .u8 0]
def draw (H : Type) : DataW H := .agg [.lit (.int .u8 0), .nil, .nil, .lit (.int .u8 0), .lit (.int .u8 0)]
theorem cells26 : Tryd.prog.cellsOf 26 = 2 := by kernel_rfl
theorem rec26 : Tryd.prog.readableRec 26 = true := by kernel_rfl
theorem row26 : 26 < Tryd.prog.types.size := of_decide_eq_true (by kernel_rfl)
theorem okWide_arr {P : Program} {w : World} {r : Reach} {base : Nat} {t : TypeId} {v : Value} {n : Nat} {e : TypeId} (ht : P.underlying t = some (.array n e)) (h : Value.okWide P w r base t v) : ∃ cs, v = .agg cs ∧ cs.size = P.cellsOf t := by
  simp only [Value.okWide, ht] at h
  obtain ⟨cs, h1, h2, _⟩ := h
  exact ⟨cs, h1, h2⟩
set_option maxRecDepth 100000 in
theorem two_open {H : Type} {enc : TypeId × Value → H} {W : World} {r : Reach} {base : Nat} {v : Value} {d : DataW H} {p : List MemPlace} (hv : Value.okWide Tryd.prog W r base 26 v) (h : DataW.Trod enc Tryd.prog W 0 (fun _ => true) true 26 v d p) :
    ∃ (a b : Int), v = .agg #[.int .u8 a, .int .u8 b] ∧ (0 ≤ a ∧ a ≤ 255) ∧ (0 ≤ b ∧ b ≤ 255) := by
  obtain ⟨cs, rfl, hsz⟩ := okWide_arr Tryd.underlying26 hv
  rw [cells26] at hsz
  obtain ⟨l⟩ := cs
  match l, hsz with
  | [x0, x1], _ =>
    obtain ⟨fuel, hf⟩ := h
    obtain ⟨xs, m', _, _, _, hxl, hg⟩ := DataW.trod_array Tryd.underlying26 hf
    rw [cells5] at hg
    match xs, hxl with
    | [q0, q1], _ =>
      have g0 : DataW.trod enc Tryd.prog W 0 (fun _ => true) true m' 5 [x0] = some q0 := by simpa [Value.cells] using hg 0 (by omega)
      have g1 : DataW.trod enc Tryd.prog W 0 (fun _ => true) true m' 5 [x1] = some q1 := by simpa [Value.cells] using hg 1 (by omega)
      obtain ⟨y0, hy0, -, hw0⟩ := DataW.trod_int Tryd.underlying5 g0
      obtain ⟨y1, hy1, -, hw1⟩ := DataW.trod_int Tryd.underlying5 g1
      obtain rfl : x0 = .int .u8 y0 := by simpa using hy0
      obtain rfl : x1 = .int .u8 y1 := by simpa using hy1
      exact ⟨y0, y1, rfl, bounds_u8 hw0, bounds_u8 hw1⟩
theorem two_back {H : Type} {enc : TypeId × Value → H} {W W' : World} {v : Value} {d : DataW H} {p : List MemPlace} (h : DataW.Trod enc Tryd.prog W 0 (fun _ => true) true 26 v d p) (hb : Below W.heap.size W W') :
    DataW.Trod enc Tryd.prog W' 0 (fun b => decide (b < W.heap.size)) true 26 v d p :=
  Below.trod laid_out rec26 row26 h hb (DataW.TrodAll.lt (trodAll_mk1 h))
theorem contract_any (mx k n m a b : Int) (la pa : Option Addr) (ln lc pn pc : Nat) (s : ByteArray) (w : World) (hT : PowTab w) (hm : MaxVar w mx) (hw0 : 0 < w.heap.size)
    (hx : RawAt w w.heap.size (.agg #[.int .u8 k, .slice la ln lc, .slice pa pn pc, .int .u8 n, .int .u8 m])) (ha : 0 ≤ a ∧ a ≤ 255) (hb : 0 ≤ b ∧ b ≤ 255) :
    Calls Tryd.prog 3 #[.agg #[.int .u8 k, .slice la ln lc, .slice pa pn pc, .int .u8 n, .int .u8 m], .string s, .agg #[.int .u8 a, .int .u8 b]] w fun e w' => e = .returned (.bool true) ∧ Below w.heap.size w w' := by
  by_cases hs : s.size ≤ 60
  · obtain ⟨l, rfl⟩ : ∃ l : List UInt8, s = Pl.B l := ⟨s.data.toList, (Pl.B_toList s).symm⟩
    obtain ⟨u, rfl⟩ : ∃ u : Nat, b = (u : Int) := ⟨b.toNat, by omega⟩
    exact Matches_any mx k n m a u la pa ln lc pn pc l w hT hm hw0 hx ha (by omega) (by rwa [Pl.size_B] at hs)
  · exact Matches_long mx k n m a b la pa ln lc pn pc s w hT hm hw0 (by omega)
set_option maxRecDepth 100000 in
theorem contract (H : Type) (enc : TypeId × Value → H) (W : World) (base : Nat) (args : Array Value) (ds gs : List (DataW H)) (before : List MemPlace)
    (hval : ∀ (j : Nat) t v, Tryd.f3.params[j]? = some t → args[j]? = some v → Value.okWide Tryd.prog W .any base t v)
    (hW : DataW.Whole enc Tryd.prog Tryd.f3.params.toList Rows.eventMatchesReferenceSpec.vars false W args.toList ds gs before) (hL : laidMetH Tryd.prog Rows.eventMatchesReferenceRow.laid W) (hS : W.ShapedOpen Tryd.prog) :
    Calls Tryd.prog 3 args W fun e W' => ∃ v, e = .returned v ∧ Rows.eventMatchesReferenceSpec.post enc Tryd.prog Tryd.f3 false true false false W args v W' := by
  have hW' := hW
  obtain ⟨p, q, hA0, hV, rfl, hfz, hnd⟩ := hW
  have hA : DataW.TrodAll enc Tryd.prog W 0 (fun _ => true) true Tryd.f3.params.toList args.toList ds p := hA0
  rw [Tryd.params3] at hA hval
  obtain ⟨v0, v1, v2, d0, d1, d2, p0, p1, p2, rfl, rfl, rfl, h0, h1, h2⟩ := trodAll_three hA
  obtain ⟨rfl, rfl⟩ := trodVars_none hV
  obtain ⟨k, n, m, la, pa, ln, lc, pn, pc, rfl, hx⟩ := raw_open (hval 0 25 v0 rfl rfl) h0
  obtain ⟨s, rfl, rfl, rfl, hsl⟩ := open_string Tryd.underlying9 (hval 1 9 v1 rfl rfl) h1
  obtain ⟨a, b, rfl, ha, hbb⟩ := two_open (hval 2 26 v2 rfl rfl) h2
  clear hA0
  simp only [List.append_nil] at hW'
  obtain ⟨mx, hm⟩ := max_of hS
  have hw0 : 0 < W.heap.size := by
    unfold MaxVar at hm
    have := World.block_lt_of_cell? W _ hm
    exact this
  refine (contract_any mx k n m a b la pa ln lc pn pc s W (pow_of hL) hm hw0 hx ha hbb).mono fun e W' ⟨he, hb⟩ => ?_
  subst he
  refine ⟨_, rfl, _, _, _, [], p0 ++ ([] ++ (p2 ++ [])), [], hW', ?_, ?_, ?_, hb.frame _, fun h => by cases h⟩
  · exact trodAll_cons_mk (shut_bool Tryd.underlying4 _) trodAll_mk0
  · exact trodAll_cons_mk (raw_back h0 hb) (trodAll_cons_mk (shut_string Tryd.underlying9 hsl) (trodAll_cons_mk (two_back h2 hb) trodAll_mk0))
  · rfl

theorem laid_met (os : Os) : laidMet Tryd.prog Rows.eventMatchesReferenceRow.laid ((World.doorLaid Tryd.prog 400 os).forCall (fun _ _ => 0) ⟨#[], #[zraw, .string ⟨#[]⟩, .agg #[.int .u8 0, .int .u8 0]], []⟩).memory :=
  laidMet_of_run' 8 (by kernel_rfl) (by kernel_rfl)
theorem reads (os : Os) {H : Type} (enc : TypeId × Value → H) : ∃ places, DataW.whole enc Tryd.prog ((World.doorLaid Tryd.prog 400 os).forCall (fun _ _ => 0) ⟨#[], #[zraw, .string ⟨#[]⟩, .agg #[.int .u8 0, .int .u8 0]], []⟩).memory Tryd.f3.params.toList Rows.eventMatchesReferenceSpec.vars false #[zraw, .string ⟨#[]⟩, .agg #[.int .u8 0, .int .u8 0]].toList 8 = some ([draw H, .lit (.string []), .agg [.lit (.int .u8 0), .lit (.int .u8 0)]], [], places) :=
  ⟨[], by kernel_rfl⟩

set_option maxRecDepth 100000 in
theorem lifted (os : Os) (started : os.Started) (H : Type) (enc : TypeId × Value → H) (F : Stop.Interp) :
    ReturnsInHanded {} Tryd.checked os 3 .any ((OpenSpec.ofChange Rows.eventMatchesReferenceSpec).preRow enc Tryd.prog Tryd.f3 Rows.eventMatchesReferenceRow.domain false Rows.eventMatchesReferenceRow.laid) (((OpenSpec.ofChange Rows.eventMatchesReferenceSpec).at F).post enc Tryd.prog Tryd.f3 false true false false) := by
  obtain ⟨places, hx⟩ := reads os enc
  refine returnsInHanded_of_row (C := Tryd.checked) (s := OpenSpec.ofChange Rows.eventMatchesReferenceSpec) own started (by kernel_rfl) Tryd.func3
    (witness_row_at (enc := enc) (C := Tryd.checked) false (World.doorLaid Tryd.prog 400 os) #[zraw, .string ⟨#[]⟩, .agg #[.int .u8 0, .int .u8 0]] rfl (by kernel_rfl) (by kernel_rfl) (by kernel_rfl)
      (OpenSpec.preRow_of_cond 8 hx (by kernel_rfl) (fun k hk => by cases hk) (by kernel_rfl) (laid_met os))) ?_
  intro W base args ds gs before hval hW _ _ _ hL hS _
  exact contract H enc W base args ds gs before hval hW hL hS

theorem said : Rows.EventMatchesReferenceSaid :=
  OpenClaim.holds_of_cond 3 Tryd.f3 rfl rfl rfl rfl rfl rfl rfl ⟨rfl, rfl, rfl, rfl, rfl⟩ rfl rfl rfl rfl rfl (by kernel_rfl) Tryd.func3 (by kernel_rfl)
    (of_decide_eq_true (by kernel_rfl)) (by unfold Func.isWrapper; first | (rw [if_pos (by decide +kernel)]; kernel_rfl) | (rw [if_neg (by decide +kernel)]; exact ⟨rfl, rfl⟩))
    (fun os started H enc _ F => by rw [OpenClaim.pre_eq_preRow]; exact lifted os started H enc F)

theorem plain (f : FuncId) (fn : Func) (hf : Tryd.pinned.checked.prog.funcNamed "syllabary/syllabarylaw01.EventMatchesReference" = some f) (hfn : Tryd.pinned.checked.prog.funcs[f]? = some fn) :
    false = Tryd.pinned.checked.prog.looks [] ∧ ∀ (j : Nat) t, fn.params[j]? = some t → Tryd.pinned.checked.prog.wantsStandIn t = false := by
  obtain rfl : f = 3 := Option.some.inj ((show Tryd.prog.funcNamed "syllabary/syllabarylaw01.EventMatchesReference" = some 3 by kernel_rfl).symm.trans hf) |>.symm
  obtain rfl : fn = Tryd.f3 := (Option.some.inj (Tryd.func3.symm.trans hfn)).symm
  refine ⟨by kernel_rfl, fun j t ht => ?_⟩
  rw [Tryd.params3] at ht
  have hm : t ∈ [25, 9, 26] := by simpa using Array.mem_of_getElem? ht
  have hall : ([25, 9, 26].all fun u => !Tryd.prog.wantsStandIn u) = true := by kernel_rfl
  exact (show Tryd.prog.wantsStandIn t = false by simpa using List.all_eq_true.1 hall t hm)

theorem card : Rows.EventMatchesReferenceCardSaid :=
  Claim7.holds_tied_plain_at .later [] _ _ _ _ said (fun _ h => by cases h) (by kernel_rfl) (fun _ h => by cases h) eventMatchesReference_row_tie rfl ⟨rfl, rfl⟩ (by kernel_rfl) rfl plain (by kernel_rfl)
#print axioms card
end Go.Proofs.YtmioocmjlbjfpaaDoor.matches
