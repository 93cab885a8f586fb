/-
  The law EventValid holds for every input: for all raw events x, events y and pairs w of numbers it answers true, and its arguments read as before. The package-level tables that its row lists are tied to the program's text by the given tie.
-/
import Derived.Test.YtcbboegjegobeaaDoorRW
import Derived.Test.YtcbboegjegobeaaDoorQV
namespace Go.Proofs.YtcbboegjegobeaaDoor.valid
open Go.ChangeShapes Go.WideShapes Go.ChangeAt Go.RowKit Go.ChangeMaps

theorem pow_of {W : World} (h : laidMetH Tryd.prog Rows.eventValidRow.laid W) : PowTab W := limits.pow_of h
theorem cells40 : Tryd.prog.cellsOf 40 = 2 := by kernel_rfl
theorem cells39 : Tryd.prog.cellsOf 39 = 1 := by kernel_rfl
theorem rec40 : Tryd.prog.readableRec 40 = true := by kernel_rfl
theorem row40 : 40 < Tryd.prog.types.size := of_decide_eq_true (by kernel_rfl)
theorem okWide_arr {P : Program} {w : World} {r : Reach} {base : Nat} {t : TypeId} {v : Value} {n : Nat} {e : TypeId} (ht : P.underlying t = some (.array n e)) (h : Value.okWide P w r base t v) : ∃ cs, v = .agg cs ∧ cs.size = P.cellsOf t := by
  simp only [Value.okWide, ht] at h
  obtain ⟨cs, h1, h2, _⟩ := h
  exact ⟨cs, h1, h2⟩
set_option maxRecDepth 100000 in
theorem two_open {H : Type} {enc : TypeId × Value → H} {W : World} {r : Reach} {base : Nat} {v : Value} {d : DataW H} {p : List MemPlace} (hv : Value.okWide Tryd.prog W r base 40 v) (h : DataW.Trod enc Tryd.prog W 0 (fun _ => true) true 40 v d p) :
    ∃ (a b : Int), v = .agg #[.int .i8 a, .int .i8 b] ∧ (-128 ≤ b ∧ b ≤ 127) := by
  obtain ⟨cs, rfl, hsz⟩ := okWide_arr Tryd.underlying40 hv
  rw [cells40] at hsz
  obtain ⟨l⟩ := cs
  match l, hsz with
  | [x0, x1], _ =>
    obtain ⟨fuel, hf⟩ := h
    obtain ⟨xs, m', _, _, _, hxl, hg⟩ := DataW.trod_array Tryd.underlying40 hf
    rw [cells39] at hg
    match xs, hxl with
    | [q0, q1], _ =>
      have g0 : DataW.trod enc Tryd.prog W 0 (fun _ => true) true m' 39 [x0] = some q0 := by simpa [Value.cells] using hg 0 (by omega)
      have g1 : DataW.trod enc Tryd.prog W 0 (fun _ => true) true m' 39 [x1] = some q1 := by simpa [Value.cells] using hg 1 (by omega)
      obtain ⟨y0, hy0, -, hw0⟩ := DataW.trod_int Tryd.underlying39 g0
      obtain ⟨y1, hy1, -, hw1⟩ := DataW.trod_int Tryd.underlying39 g1
      obtain rfl : x0 = .int .i8 y0 := by simpa using hy0
      obtain rfl : x1 = .int .i8 y1 := by simpa using hy1
      exact ⟨y0, y1, rfl, bounds_i8 hw1⟩
theorem two_back {H : Type} {enc : TypeId × Value → H} {W W' : World} {v : Value} {d : DataW H} {p : List MemPlace} (h : DataW.Trod enc Tryd.prog W 0 (fun _ => true) true 40 v d p) (hb : Below W.heap.size W W') :
    DataW.Trod enc Tryd.prog W' 0 (fun b => decide (b < W.heap.size)) true 40 v d p :=
  Below.trod laid_out rec40 row40 h hb (DataW.TrodAll.lt (trodAll_mk1 h))
set_option maxRecDepth 100000 in
theorem contract (H : Type) (enc : TypeId × Value → H) (W : World) (base : Nat) (args : Array Value) (ds gs : List (DataW H)) (before : List MemPlace)
    (hval : ∀ (j : Nat) t v, Tryd.f4.params[j]? = some t → args[j]? = some v → Value.okWide Tryd.prog W .any base t v)
    (hW : DataW.Whole enc Tryd.prog Tryd.f4.params.toList Rows.eventValidSpec.vars false W args.toList ds gs before) (hL : laidMetH Tryd.prog Rows.eventValidRow.laid W) (hS : W.ShapedOpen Tryd.prog) :
    Calls Tryd.prog 4 args W fun e W' => ∃ v, e = .returned v ∧ Rows.eventValidSpec.post enc Tryd.prog Tryd.f4 false true false false W args v W' := by
  have hW' := hW
  obtain ⟨p, q, hA0, hV, rfl, hfz, hnd⟩ := hW
  have hA : DataW.TrodAll enc Tryd.prog W 0 (fun _ => true) true Tryd.f4.params.toList args.toList ds p := hA0
  rw [Tryd.params4] at hA hval
  obtain ⟨v0, v1, v2, d0, d1, d2, p0, p1, p2, rfl, rfl, rfl, h0, h1, h2⟩ := trodAll_three hA
  obtain ⟨rfl, rfl⟩ := trodVars_none hV
  obtain ⟨k1, n1, m1, la1, pa1, ln1, lc1, pn1, pc1, rfl, hx⟩ := raw_open (hval 0 25 v0 rfl rfl) h0
  obtain ⟨yk, ys, yt, yp, ya, yc, yn, yl, rfl, hypl, hy⟩ := event_open (hval 1 31 v1 rfl rfl) h1
  obtain ⟨a, b, rfl, hb⟩ := two_open (hval 2 40 v2 rfl rfl) h2
  obtain ⟨ks, rfl⟩ : ∃ l : List UInt8, ys = Pl.B l := ⟨ys.data.toList, (Pl.B_toList ys).symm⟩
  obtain ⟨ts, rfl⟩ : ∃ l : List UInt8, yt = Pl.B l := ⟨yt.data.toList, (Pl.B_toList yt).symm⟩
  clear hA0
  simp only [List.append_nil] at hW'
  obtain ⟨mx, hm⟩ := limits.max_of hS
  have hw0 : 0 < W.heap.size := by
    unfold MaxVar at hm
    have := World.block_lt_of_cell? W _ hm
    exact this
  refine (valid_any mx k1 n1 m1 la1 pa1 ln1 lc1 pn1 pc1 yk ks ts yp ya yc yn yl a b W (pow_of hL) hm hw0 hx hy hypl hb.1 hb.2).mono fun e W' ⟨he, hb⟩ => ?_
  subst he
  refine ⟨_, rfl, _, _, _, [], p0 ++ (p1 ++ (p2 ++ [])), [], hW', ?_, ?_, ?_, hb.frame _, fun h => by cases h⟩
  · exact trodAll_cons_mk (shut_bool Tryd.underlying4 _) trodAll_mk0
  · exact trodAll_cons_mk (raw_back h0 hb) (trodAll_cons_mk (event_back h1 hb) (trodAll_cons_mk (two_back h2 hb) trodAll_mk0))
  · rfl

def zraw : Value := .agg #[.int .u8 0, .slice none 0 0, .slice none 0 0, .int .u8 0, .int .u8 0]
def zev : Value := .agg #[.int .i64 0, .string ⟨#[]⟩, .slice none 0 0, .string ⟨#[]⟩, .int .i64 0, .int .i64 0]
def dev (H : Type) : DataW H := .agg [.lit (.int .i64 0), .lit (.string []), .nil, .lit (.string []), .lit (.int .i64 0), .lit (.int .i64 0)]
def ztwo : Value := .agg #[.int .i8 0, .int .i8 0]
def dtwo (H : Type) : DataW H := .agg [.lit (.int .i8 0), .lit (.int .i8 0)]
def draw (H : Type) : DataW H := .agg [.lit (.int .u8 0), .nil, .nil, .lit (.int .u8 0), .lit (.int .u8 0)]
theorem laid_met (os : Os) : laidMet Tryd.prog Rows.eventValidRow.laid ((World.doorLaid Tryd.prog 400 os).forCall (fun _ _ => 0) ⟨#[], #[zraw, zev, ztwo], []⟩).memory :=
  laidMet_of_run' 8 (by kernel_rfl) (by kernel_rfl)
theorem reads (os : Os) {H : Type} (enc : TypeId × Value → H) : ∃ places, DataW.whole enc Tryd.prog ((World.doorLaid Tryd.prog 400 os).forCall (fun _ _ => 0) ⟨#[], #[zraw, zev, ztwo], []⟩).memory Tryd.f4.params.toList Rows.eventValidSpec.vars false #[zraw, zev, ztwo].toList 8 = some ([draw H, dev H, dtwo H], [], places) :=
  ⟨[], by kernel_rfl⟩

set_option maxRecDepth 100000 in
theorem lifted (os : Os) (started : os.Started) (H : Type) (enc : TypeId × Value → H) (F : Stop.Interp) :
    ReturnsInHanded {} Tryd.checked os 4 .any ((OpenSpec.ofChange Rows.eventValidSpec).preRow enc Tryd.prog Tryd.f4 Rows.eventValidRow.domain false Rows.eventValidRow.laid) (((OpenSpec.ofChange Rows.eventValidSpec).at F).post enc Tryd.prog Tryd.f4 false true false false) := by
  obtain ⟨places, hx⟩ := reads os enc
  refine returnsInHanded_of_row (C := Tryd.checked) (s := OpenSpec.ofChange Rows.eventValidSpec) limits.own started (by kernel_rfl) Tryd.func4
    (witness_row_at (enc := enc) (C := Tryd.checked) false (World.doorLaid Tryd.prog 400 os) #[zraw, zev, ztwo] rfl (by kernel_rfl) (by kernel_rfl) (by kernel_rfl)
      (OpenSpec.preRow_of_cond 8 hx (by kernel_rfl) (fun k hk => by cases hk) (by kernel_rfl) (laid_met os))) ?_
  intro W base args ds gs before hval hW _ _ _ hL hS _
  exact contract H enc W base args ds gs before hval hW hL hS

theorem said : Rows.EventValidSaid :=
  OpenClaim.holds_of_cond 4 Tryd.f4 rfl rfl rfl rfl rfl rfl rfl ⟨rfl, rfl, rfl, rfl, rfl⟩ rfl rfl rfl rfl rfl (by kernel_rfl) Tryd.func4 (by kernel_rfl)
    (of_decide_eq_true (by kernel_rfl)) (by unfold Func.isWrapper; first | (rw [if_pos (by decide +kernel)]; kernel_rfl) | (rw [if_neg (by decide +kernel)]; exact ⟨rfl, rfl⟩))
    (fun os started H enc _ F => by rw [OpenClaim.pre_eq_preRow]; exact lifted os started H enc F)

theorem plain (f : FuncId) (fn : Func) (hf : Tryd.pinned.checked.prog.funcNamed "syllabary/syllabarylaw01.EventValid" = some f) (hfn : Tryd.pinned.checked.prog.funcs[f]? = some fn) :
    false = Tryd.pinned.checked.prog.looks [] ∧ ∀ (j : Nat) t, fn.params[j]? = some t → Tryd.pinned.checked.prog.wantsStandIn t = false := by
  obtain rfl : f = 4 := Option.some.inj ((show Tryd.prog.funcNamed "syllabary/syllabarylaw01.EventValid" = some 4 by kernel_rfl).symm.trans hf) |>.symm
  obtain rfl : fn = Tryd.f4 := (Option.some.inj (Tryd.func4.symm.trans hfn)).symm
  refine ⟨by kernel_rfl, fun j t ht => ?_⟩
  rw [Tryd.params4] at ht
  have hm : t ∈ [25, 31, 40] := by simpa using Array.mem_of_getElem? ht
  have hall : ([25, 31, 40].all fun u => !Tryd.prog.wantsStandIn u) = true := by kernel_rfl
  exact (show Tryd.prog.wantsStandIn t = false by simpa using List.all_eq_true.1 hall t hm)

theorem card : Rows.EventValidCardSaid :=
  Claim7.holds_tied_plain_at .later [] _ _ _ _ said (fun _ h => by cases h) (by kernel_rfl) (fun _ h => by cases h) eventValid_row_tie rfl ⟨rfl, rfl⟩ (by kernel_rfl) rfl plain (by kernel_rfl)
#print axioms card
end Go.Proofs.YtcbboegjegobeaaDoor.valid
