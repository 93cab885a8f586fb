/-
  The law EventErrors holds for every input: for all lists l of raw events, texts s and pairs w of bytes it answers true, and its arguments read as before. The package-level tables that its row lists are tied to the program's text by the given tie.
-/
import Derived.Test.YtcbboegjegobeaaDoorRW
import Derived.Test.YtcbboegjegobeaaDoorER
namespace Go.Proofs.YtcbboegjegobeaaDoor.errors
open Go.ChangeShapes Go.WideShapes Go.ChangeAt Go.RowKit Go.ChangeMaps

theorem pow_of {W : World} (h : laidMetH Tryd.prog Rows.eventErrorsRow.laid W) : PowTab W := limits.pow_of h
theorem cells47 : Tryd.prog.cellsOf 47 = 1 := by kernel_rfl
theorem rec47 : Tryd.prog.readableRec 47 = true := by kernel_rfl
theorem row47 : 47 < Tryd.prog.types.size := of_decide_eq_true (by kernel_rfl)
set_option maxRecDepth 100000 in
theorem raw_cells {H : Type} {enc : TypeId × Value → H} {W : World} {cs : List Value} {x : DataW H × List MemPlace} {fuel : Nat} (hlen : cs.length = 5) (hf : DataW.trod enc Tryd.prog W 0 (fun _ => true) true fuel 25 cs = some x) :
    ∃ (k1 n1 m1 : Int) (la pa : Option Addr) (ln lc pn pc : Nat), cs = [.int .u8 k1, .slice la ln lc, .slice pa pn pc, .int .u8 n1, .int .u8 m1] ∧ RawAt W W.heap.size (.agg #[.int .u8 k1, .slice la ln lc, .slice pa pn pc, .int .u8 n1, .int .u8 m1]) := by
  match cs, hlen with
  | [x0, x1, x2, x3, x4], _ =>
    obtain ⟨xs, f', _, _, _, hlen, hg⟩ := DataW.trod_struct Tryd.underlying25 hf
    match xs, hlen with
    | [y0, y1, y2, y3, y4], _ =>
      have g0 : DataW.trod enc Tryd.prog W 0 (fun _ => true) true f' 5 [x0] = some y0 := by simpa [Value.cells, cells5] using hg 0 _ rfl
      have g1 : DataW.trod enc Tryd.prog W 0 (fun _ => true) true f' 22 [x1] = some y1 := by simpa [Value.cells, cells22] using hg 1 _ rfl
      have g2 : DataW.trod enc Tryd.prog W 0 (fun _ => true) true f' 23 [x2] = some y2 := by simpa [Value.cells, cells23] using hg 2 _ rfl
      have g3 : DataW.trod enc Tryd.prog W 0 (fun _ => true) true f' 5 [x3] = some y3 := by simpa [Value.cells, cells5] using hg 3 _ rfl
      have g4 : DataW.trod enc Tryd.prog W 0 (fun _ => true) true f' 5 [x4] = some y4 := by simpa [Value.cells, cells5] using hg 4 _ rfl
      obtain ⟨k, hk, -, wk⟩ := DataW.trod_int Tryd.underlying5 g0
      obtain ⟨n, hn, -, wn⟩ := DataW.trod_int Tryd.underlying5 g3
      obtain ⟨m, hm, -, wm⟩ := DataW.trod_int Tryd.underlying5 g4
      obtain rfl : x0 = .int .u8 k := by simpa using hk
      obtain rfl : x3 = .int .u8 n := by simpa using hn
      obtain rfl : x4 = .int .u8 m := by simpa using hm
      obtain ⟨la, ln, lc, rfl, hln, hL⟩ := bytes_open g1
      obtain ⟨pa, pn, pc, rfl, hpn, hP⟩ := pairs_open g2
      have bk := bounds_u8 wk
      have bn := bounds_u8 wn
      have bm := bounds_u8 wm
      exact ⟨k, n, m, la, pa, ln, lc, pn, pc, rfl, k, n, m, _, _, ln, pn, rfl, bk, bn, bm, ⟨hL, hln⟩, hP, hpn⟩
set_option maxRecDepth 100000 in
theorem raws_open {H : Type} {enc : TypeId × Value → H} {W : World} {r : Reach} {base : Nat} {v : Value} {d : DataW H} {p : List MemPlace} (hv : Value.okWide Tryd.prog W r base 47 v) (h : DataW.Trod enc Tryd.prog W 0 (fun _ => true) true 47 v d p) :
    ∃ (a : Option Addr) (n c : Nat), v = .slice a n c ∧ n ≤ maxLen ∧ RawsAt W W.heap.size v n := by
  obtain ⟨a0, n0, c0, rfl⟩ := okWide_slice Tryd.underlying47 hv
  obtain ⟨fuel, hf⟩ := h
  have hf' : DataW.trod enc Tryd.prog W 0 (fun _ => true) true fuel 47 [.slice a0 n0 c0] = some (d, p) := hf
  rcases Deep.open_slice Tryd.underlying47 hf' with ⟨h0, _⟩ | ⟨a, len, cap, m, n, D, Pl, hcs, _, hl, hc, hm, _, hx⟩
  · obtain ⟨rfl, rfl, rfl⟩ : a0 = none ∧ n0 = 0 ∧ c0 = 0 := by simpa using h0
    exact ⟨none, 0, 0, rfl, Nat.zero_le _, none, 0, rfl, fun h => absurd h (Nat.lt_irrefl _)⟩
  · obtain ⟨rfl, rfl, rfl⟩ : a0 = some a ∧ n0 = len ∧ c0 = cap := by simpa using hcs
    simp only [if_true] at hm
    subst hm
    rw [cells25] at hx
    have each : ∀ i, i < m → ∃ (k1 n1 m1 : Int) (la pa : Option Addr) (ln lc pn pc : Nat), W.cell? ((a.add (i * 5)).add 0) = some (.int .u8 k1) ∧ W.cell? ((a.add (i * 5)).add 1) = some (.slice la ln lc) ∧ W.cell? ((a.add (i * 5)).add 2) = some (.slice pa pn pc) ∧ W.cell? ((a.add (i * 5)).add 3) = some (.int .u8 n1) ∧ W.cell? ((a.add (i * 5)).add 4) = some (.int .u8 m1) ∧ RawAt W W.heap.size (.agg #[.int .u8 k1, .slice la ln lc, .slice pa pn pc, .int .u8 n1, .int .u8 m1]) := fun i hi => by
      obtain ⟨cs, h1, h2⟩ := hx i hi
      obtain ⟨_, hlen, hat⟩ := World.cells?_some h1
      obtain ⟨k1, n1, m1, la, pa, ln, lc, pn, pc, rfl, hR⟩ := raw_cells hlen h2
      exact ⟨k1, n1, m1, la, pa, ln, lc, pn, pc, by simpa using hat 0 (by omega), by simpa using hat 1 (by omega), by simpa using hat 2 (by omega), by simpa using hat 3 (by omega), by simpa using hat 4 (by omega), hR⟩
    refine ⟨some a, n0, m, rfl, Nat.le_trans hl hc, some a, m, rfl, fun hp => ?_⟩
    obtain ⟨_, _, _, _, _, _, _, _, _, h1, -⟩ := each 0 (by omega)
    have hs : a.spot = none := by simpa [Addr.add] using World.cell?_spot h1
    obtain ⟨b, off, spot⟩ := a
    obtain rfl : spot = none := hs
    rw [add_none, add_none] at h1
    refine ⟨b, off, rfl, World.block_lt_of_cell? W _ h1, fun i hi => ?_⟩
    obtain ⟨k1, n1, m1, la, pa, ln, lc, pn, pc, h2, h3, h4, h5, h6, hR⟩ := each i (by omega)
    rw [add_none, add_none] at h2 h3 h4 h5 h6
    exact ⟨k1, n1, m1, la, pa, ln, lc, pn, pc, h2, h3, h4, h5, h6, hR⟩
theorem raws_back {H : Type} {enc : TypeId × Value → H} {W W' : World} {v : Value} {d : DataW H} {p : List MemPlace} (h : DataW.Trod enc Tryd.prog W 0 (fun _ => true) true 47 v d p) (hb : Below W.heap.size W W') :
    DataW.Trod enc Tryd.prog W' 0 (fun b => decide (b < W.heap.size)) true 47 v d p :=
  Below.trod laid_out rec47 row47 h hb (DataW.TrodAll.lt (trodAll_mk1 h))
theorem cells26 : Tryd.prog.cellsOf 26 = 2 := by kernel_rfl
theorem rec26 : Tryd.prog.readableRec 26 = true := by kernel_rfl
theorem row26 : 26 < Tryd.prog.types.size := of_decide_eq_true (by kernel_rfl)
theorem okWide_arr {P : Program} {w : World} {r : Reach} {base : Nat} {t : TypeId} {v : Value} {n : Nat} {e : TypeId} (ht : P.underlying t = some (.array n e)) (h : Value.okWide P w r base t v) : ∃ cs, v = .agg cs ∧ cs.size = P.cellsOf t := by
  simp only [Value.okWide, ht] at h
  obtain ⟨cs, h1, h2, _⟩ := h
  exact ⟨cs, h1, h2⟩
set_option maxRecDepth 100000 in
theorem two_open {H : Type} {enc : TypeId × Value → H} {W : World} {r : Reach} {base : Nat} {v : Value} {d : DataW H} {p : List MemPlace} (hv : Value.okWide Tryd.prog W r base 26 v) (h : DataW.Trod enc Tryd.prog W 0 (fun _ => true) true 26 v d p) :
    ∃ (a b : Int), v = .agg #[.int .u8 a, .int .u8 b] ∧ (0 ≤ a ∧ a ≤ 255) ∧ (0 ≤ b ∧ b ≤ 255) := by
  obtain ⟨cs, rfl, hsz⟩ := okWide_arr Tryd.underlying26 hv
  rw [cells26] at hsz
  obtain ⟨l⟩ := cs
  match l, hsz with
  | [x0, x1], _ =>
    obtain ⟨fuel, hf⟩ := h
    obtain ⟨xs, m', _, _, _, hxl, hg⟩ := DataW.trod_array Tryd.underlying26 hf
    rw [cells5] at hg
    match xs, hxl with
    | [q0, q1], _ =>
      have g0 : DataW.trod enc Tryd.prog W 0 (fun _ => true) true m' 5 [x0] = some q0 := by simpa [Value.cells] using hg 0 (by omega)
      have g1 : DataW.trod enc Tryd.prog W 0 (fun _ => true) true m' 5 [x1] = some q1 := by simpa [Value.cells] using hg 1 (by omega)
      obtain ⟨y0, hy0, -, hw0⟩ := DataW.trod_int Tryd.underlying5 g0
      obtain ⟨y1, hy1, -, hw1⟩ := DataW.trod_int Tryd.underlying5 g1
      obtain rfl : x0 = .int .u8 y0 := by simpa using hy0
      obtain rfl : x1 = .int .u8 y1 := by simpa using hy1
      exact ⟨y0, y1, rfl, bounds_u8 hw0, bounds_u8 hw1⟩
theorem two_back {H : Type} {enc : TypeId × Value → H} {W W' : World} {v : Value} {d : DataW H} {p : List MemPlace} (h : DataW.Trod enc Tryd.prog W 0 (fun _ => true) true 26 v d p) (hb : Below W.heap.size W W') :
    DataW.Trod enc Tryd.prog W' 0 (fun b => decide (b < W.heap.size)) true 26 v d p :=
  Below.trod laid_out rec26 row26 h hb (DataW.TrodAll.lt (trodAll_mk1 h))
open Pl in
set_option maxHeartbeats 2000000 in
set_option maxRecDepth 100000 in
theorem errors_long (mx : Int) (la : Option Addr) (ln lc : Nat) (s : ByteArray) (w0 w1 : Int) (w : World) (hT : PowTab w) (hm : MaxVar w mx) (hw0 : 0 < w.heap.size) (hs : 30 < s.size) :
    Calls Tryd.prog 8 #[.slice la ln lc, .string s, .agg #[.int .u8 w0, .int .u8 w1]] w fun e w' => e = .returned (.bool true) ∧ Below w.heap.size w w' := by
  have hA : Below w.heap.size w (w.alloc (.cells #[.int .u8 w0, .int .u8 w1] 26)) := (Below.refl _ _).alloc (Nat.le_refl _) _
  have C0 := Lib.hid (sanity_any mx (w.alloc (.cells #[.int .u8 w0, .int .u8 w1] 26)) (hT.below hA) (hm.below hA hw0) (Nat.lt_of_lt_of_le hw0 hA.size))
  have HA := Lib.hid hA
  have hs' : (30 : Int) < (s.size : Int) := by omega
  clear hA hT hm hw0 hs
  go_enter Tryd.func8, Tryd.ntmps8
  go_wp2_with fail
  refine (C0.out).mono ?_
  rintro e x0 ⟨rfl, hb⟩
  have H0 := Lib.hid (HA.out.trans (hb.mono HA.out.size))
  clear hb C0 HA
  go_wp2_with fail
  go_ret
  exact ⟨rfl, H0.out⟩
theorem contract_any (mx : Int) (la : Option Addr) (ln lc : Nat) (s : ByteArray) (w0 w1 : Int) (w : World) (hT : PowTab w) (hm : MaxVar w mx) (hw0 : 0 < w.heap.size)
    (hx : RawsAt w w.heap.size (.slice la ln lc) ln) (hln : ln ≤ maxLen) (h0 : 0 ≤ w0 ∧ w0 ≤ 255) (h1 : 0 ≤ w1 ∧ w1 ≤ 255) :
    Calls Tryd.prog 8 #[.slice la ln lc, .string s, .agg #[.int .u8 w0, .int .u8 w1]] w fun e w' => e = .returned (.bool true) ∧ Below w.heap.size w w' := by
  by_cases hs : s.size ≤ 30
  · obtain ⟨l, rfl⟩ : ∃ l : List UInt8, s = Pl.B l := ⟨s.data.toList, (Pl.B_toList s).symm⟩
    exact errors_any mx la ln lc l w0 w1 w hT hm hw0 hx hln h0 h1 (by rwa [Pl.size_B] at hs)
  · exact errors_long mx la ln lc s w0 w1 w hT hm hw0 (by omega)
set_option maxRecDepth 100000 in
theorem contract (H : Type) (enc : TypeId × Value → H) (W : World) (base : Nat) (args : Array Value) (ds gs : List (DataW H)) (before : List MemPlace)
    (hval : ∀ (j : Nat) t v, Tryd.f8.params[j]? = some t → args[j]? = some v → Value.okWide Tryd.prog W .any base t v)
    (hW : DataW.Whole enc Tryd.prog Tryd.f8.params.toList Rows.eventErrorsSpec.vars false W args.toList ds gs before) (hL : laidMetH Tryd.prog Rows.eventErrorsRow.laid W) (hS : W.ShapedOpen Tryd.prog) :
    Calls Tryd.prog 8 args W fun e W' => ∃ v, e = .returned v ∧ Rows.eventErrorsSpec.post enc Tryd.prog Tryd.f8 false true false false W args v W' := by
  have hW' := hW
  obtain ⟨p, q, hA0, hV, rfl, hfz, hnd⟩ := hW
  have hA : DataW.TrodAll enc Tryd.prog W 0 (fun _ => true) true Tryd.f8.params.toList args.toList ds p := hA0
  rw [Tryd.params8] at hA hval
  obtain ⟨v0, v1, v2, d0, d1, d2, p0, p1, p2, rfl, rfl, rfl, h0, h1, h2⟩ := trodAll_three hA
  obtain ⟨rfl, rfl⟩ := trodVars_none hV
  obtain ⟨la, ln, lc, rfl, hln, hx⟩ := raws_open (hval 0 47 v0 rfl rfl) h0
  obtain ⟨s, rfl, rfl, rfl, hsl⟩ := open_string Tryd.underlying9 (hval 1 9 v1 rfl rfl) h1
  obtain ⟨a, b, rfl, ha, hbb⟩ := two_open (hval 2 26 v2 rfl rfl) h2
  clear hA0
  simp only [List.append_nil] at hW'
  obtain ⟨mx, hm⟩ := limits.max_of hS
  have hw0 : 0 < W.heap.size := by
    unfold MaxVar at hm
    have := World.block_lt_of_cell? W _ hm
    exact this
  refine (contract_any mx la ln lc s a b W (pow_of hL) hm hw0 hx hln ha hbb).mono fun e W' ⟨he, hb⟩ => ?_
  subst he
  refine ⟨_, rfl, _, _, _, [], p0 ++ ([] ++ (p2 ++ [])), [], hW', ?_, ?_, ?_, hb.frame _, fun h => by cases h⟩
  · exact trodAll_cons_mk (shut_bool Tryd.underlying4 _) trodAll_mk0
  · exact trodAll_cons_mk (raws_back h0 hb) (trodAll_cons_mk (shut_string Tryd.underlying9 hsl) (trodAll_cons_mk (two_back h2 hb) trodAll_mk0))
  · rfl

theorem laid_met (os : Os) : laidMet Tryd.prog Rows.eventErrorsRow.laid ((World.doorLaid Tryd.prog 400 os).forCall (fun _ _ => 0) ⟨#[], #[.slice none 0 0, .string ⟨#[]⟩, .agg #[.int .u8 0, .int .u8 0]], []⟩).memory :=
  laidMet_of_run' 8 (by kernel_rfl) (by kernel_rfl)
theorem reads (os : Os) {H : Type} (enc : TypeId × Value → H) : ∃ places, DataW.whole enc Tryd.prog ((World.doorLaid Tryd.prog 400 os).forCall (fun _ _ => 0) ⟨#[], #[.slice none 0 0, .string ⟨#[]⟩, .agg #[.int .u8 0, .int .u8 0]], []⟩).memory Tryd.f8.params.toList Rows.eventErrorsSpec.vars false #[.slice none 0 0, .string ⟨#[]⟩, .agg #[.int .u8 0, .int .u8 0]].toList 8 = some ([.nil, .lit (.string []), .agg [.lit (.int .u8 0), .lit (.int .u8 0)]], [], places) :=
  ⟨[], by kernel_rfl⟩

set_option maxRecDepth 100000 in
theorem lifted (os : Os) (started : os.Started) (H : Type) (enc : TypeId × Value → H) (F : Stop.Interp) :
    ReturnsInHanded {} Tryd.checked os 8 .any ((OpenSpec.ofChange Rows.eventErrorsSpec).preRow enc Tryd.prog Tryd.f8 Rows.eventErrorsRow.domain false Rows.eventErrorsRow.laid) (((OpenSpec.ofChange Rows.eventErrorsSpec).at F).post enc Tryd.prog Tryd.f8 false true false false) := by
  obtain ⟨places, hx⟩ := reads os enc
  refine returnsInHanded_of_row (C := Tryd.checked) (s := OpenSpec.ofChange Rows.eventErrorsSpec) limits.own started (by kernel_rfl) Tryd.func8
    (witness_row_at (enc := enc) (C := Tryd.checked) false (World.doorLaid Tryd.prog 400 os) #[.slice none 0 0, .string ⟨#[]⟩, .agg #[.int .u8 0, .int .u8 0]] rfl (by kernel_rfl) (by kernel_rfl) (by kernel_rfl)
      (OpenSpec.preRow_of_cond 8 hx (by kernel_rfl) (fun k hk => by cases hk) (by kernel_rfl) (laid_met os))) ?_
  intro W base args ds gs before hval hW _ _ _ hL hS _
  exact contract H enc W base args ds gs before hval hW hL hS

theorem said : Rows.EventErrorsSaid :=
  OpenClaim.holds_of_cond 8 Tryd.f8 rfl rfl rfl rfl rfl rfl rfl ⟨rfl, rfl, rfl, rfl, rfl⟩ rfl rfl rfl rfl rfl (by kernel_rfl) Tryd.func8 (by kernel_rfl)
    (of_decide_eq_true (by kernel_rfl)) (by unfold Func.isWrapper; first | (rw [if_pos (by decide +kernel)]; kernel_rfl) | (rw [if_neg (by decide +kernel)]; exact ⟨rfl, rfl⟩))
    (fun os started H enc _ F => by rw [OpenClaim.pre_eq_preRow]; exact lifted os started H enc F)

theorem plain (f : FuncId) (fn : Func) (hf : Tryd.pinned.checked.prog.funcNamed "syllabary/syllabarylaw01.EventErrors" = some f) (hfn : Tryd.pinned.checked.prog.funcs[f]? = some fn) :
    false = Tryd.pinned.checked.prog.looks [] ∧ ∀ (j : Nat) t, fn.params[j]? = some t → Tryd.pinned.checked.prog.wantsStandIn t = false := by
  obtain rfl : f = 8 := Option.some.inj ((show Tryd.prog.funcNamed "syllabary/syllabarylaw01.EventErrors" = some 8 by kernel_rfl).symm.trans hf) |>.symm
  obtain rfl : fn = Tryd.f8 := (Option.some.inj (Tryd.func8.symm.trans hfn)).symm
  refine ⟨by kernel_rfl, fun j t ht => ?_⟩
  rw [Tryd.params8] at ht
  have hm : t ∈ [47, 9, 26] := by simpa using Array.mem_of_getElem? ht
  have hall : ([47, 9, 26].all fun u => !Tryd.prog.wantsStandIn u) = true := by kernel_rfl
  exact (show Tryd.prog.wantsStandIn t = false by simpa using List.all_eq_true.1 hall t hm)

theorem card : Rows.EventErrorsCardSaid :=
  Claim7.holds_tied_plain_at .later [] _ _ _ _ said (fun _ h => by cases h) (by kernel_rfl) (fun _ h => by cases h) eventErrors_row_tie rfl ⟨rfl, rfl⟩ (by kernel_rfl) rfl plain (by kernel_rfl)
#print axioms card
end Go.Proofs.YtcbboegjegobeaaDoor.errors
