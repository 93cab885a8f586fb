/-
  The law EventParses holds for every input: for all raw events x, texts s and bytes c it answers true, and its arguments read as before. The package-level tables that its row lists are tied to the program's text by the given tie.
-/
import Derived.Test.YtcbboegjegobeaaDoorRW
import Derived.Test.YtcbboegjegobeaaDoorQQ
namespace Go.Proofs.YtcbboegjegobeaaDoor.parses
open Go.ChangeShapes Go.WideShapes Go.ChangeAt Go.RowKit Go.ChangeMaps

theorem pow_of {W : World} (h : laidMetH Tryd.prog Rows.eventParsesRow.laid W) : PowTab W := limits.pow_of h
open Pl in
set_option maxHeartbeats 2000000 in
set_option maxRecDepth 100000 in
theorem parses_long (mx k1 n1 m1 : Int) (la1 pa1 : Option Addr) (ln1 lc1 pn1 pc1 : Nat) (s : ByteArray) (n : Int) (w : World) (hT : PowTab w) (hm : MaxVar w mx) (hw0 : 0 < w.heap.size) (hs : 60 < s.size) :
    Calls Tryd.prog 6 #[.agg #[.int .u8 k1, .slice la1 ln1 lc1, .slice pa1 pn1 pc1, .int .u8 n1, .int .u8 m1], .string s, .int .u8 n] w fun e w' => e = .returned (.bool true) ∧ Below w.heap.size w w' := by
  have hA : Below w.heap.size w (w.alloc (.cells #[.int .u8 k1, .slice la1 ln1 lc1, .slice pa1 pn1 pc1, .int .u8 n1, .int .u8 m1] 25)) := (Below.refl _ _).alloc (Nat.le_refl _) _
  have C0 := Lib.hid (sanity_any mx (w.alloc (.cells #[.int .u8 k1, .slice la1 ln1 lc1, .slice pa1 pn1 pc1, .int .u8 n1, .int .u8 m1] 25)) (hT.below hA) (hm.below hA hw0) (Nat.lt_of_lt_of_le hw0 hA.size))
  have HA := Lib.hid hA
  have hs' : (60 : Int) < (s.size : Int) := by omega
  clear hA hT hm hw0 hs
  go_enter Tryd.func6, Tryd.ntmps6
  go_wp2_with fail
  refine (C0.out).mono ?_
  rintro e x0 ⟨rfl, hb⟩
  have H0 := Lib.hid (HA.out.trans (hb.mono HA.out.size))
  clear hb C0 HA
  go_wp2_with fail
  go_ret
  exact ⟨rfl, H0.out⟩
theorem contract_any (mx k1 n1 m1 : Int) (la1 pa1 : Option Addr) (ln1 lc1 pn1 pc1 : Nat) (s : ByteArray) (n : Int) (w : World) (hT : PowTab w) (hm : MaxVar w mx) (hw0 : 0 < w.heap.size)
    (hx : RawAt w w.heap.size (.agg #[.int .u8 k1, .slice la1 ln1 lc1, .slice pa1 pn1 pc1, .int .u8 n1, .int .u8 m1])) (hn : 0 ≤ n ∧ n ≤ 255) :
    Calls Tryd.prog 6 #[.agg #[.int .u8 k1, .slice la1 ln1 lc1, .slice pa1 pn1 pc1, .int .u8 n1, .int .u8 m1], .string s, .int .u8 n] w fun e w' => e = .returned (.bool true) ∧ Below w.heap.size w w' := by
  obtain ⟨u, rfl⟩ : ∃ u : UInt8, n = (u.toNat : Int) := ⟨UInt8.ofNat n.toNat, by simp; omega⟩
  by_cases hs : s.size ≤ 60
  · obtain ⟨l, rfl⟩ : ∃ l : List UInt8, s = Pl.B l := ⟨s.data.toList, (Pl.B_toList s).symm⟩
    exact parses_any mx k1 n1 m1 la1 pa1 ln1 lc1 pn1 pc1 l u w hT hm hw0 hx (by rwa [Pl.size_B] at hs)
  · exact parses_long mx k1 n1 m1 la1 pa1 ln1 lc1 pn1 pc1 s _ w hT hm hw0 (by omega)
set_option maxRecDepth 100000 in
theorem contract (H : Type) (enc : TypeId × Value → H) (W : World) (base : Nat) (args : Array Value) (ds gs : List (DataW H)) (before : List MemPlace)
    (hval : ∀ (j : Nat) t v, Tryd.f6.params[j]? = some t → args[j]? = some v → Value.okWide Tryd.prog W .any base t v)
    (hW : DataW.Whole enc Tryd.prog Tryd.f6.params.toList Rows.eventParsesSpec.vars false W args.toList ds gs before) (hL : laidMetH Tryd.prog Rows.eventParsesRow.laid W) (hS : W.ShapedOpen Tryd.prog) :
    Calls Tryd.prog 6 args W fun e W' => ∃ v, e = .returned v ∧ Rows.eventParsesSpec.post enc Tryd.prog Tryd.f6 false true false false W args v W' := by
  have hW' := hW
  obtain ⟨p, q, hA0, hV, rfl, hfz, hnd⟩ := hW
  have hA : DataW.TrodAll enc Tryd.prog W 0 (fun _ => true) true Tryd.f6.params.toList args.toList ds p := hA0
  rw [Tryd.params6] at hA hval
  obtain ⟨v0, v1, v2, d0, d1, d2, p0, p1, p2, rfl, rfl, rfl, h0, h1, h2⟩ := trodAll_three hA
  obtain ⟨rfl, rfl⟩ := trodVars_none hV
  obtain ⟨k1, n1, m1, la1, pa1, ln1, lc1, pn1, pc1, rfl, hx⟩ := raw_open (hval 0 25 v0 rfl rfl) h0
  obtain ⟨s, rfl, rfl, rfl, hsl⟩ := open_string Tryd.underlying9 (hval 1 9 v1 rfl rfl) h1
  obtain ⟨n, rfl, rfl, rfl, wn⟩ := open_int Tryd.underlying5 (hval 2 5 v2 rfl rfl) h2
  clear hA0
  simp only [List.append_nil] at hW'
  obtain ⟨mx, hm⟩ := limits.max_of hS
  have hw0 : 0 < W.heap.size := by
    unfold MaxVar at hm
    have := World.block_lt_of_cell? W _ hm
    exact this
  refine (contract_any mx k1 n1 m1 la1 pa1 ln1 lc1 pn1 pc1 s n W (pow_of hL) hm hw0 hx (bounds_u8 wn)).mono fun e W' ⟨he, hb⟩ => ?_
  subst he
  refine ⟨_, rfl, _, _, _, [], p0, [], hW', ?_, ?_, ?_, hb.frame _, fun h => by cases h⟩
  · exact trodAll_cons_mk (shut_bool Tryd.underlying4 _) trodAll_mk0
  · have hz := trodAll_cons_mk (raw_back h0 hb) (trodAll_cons_mk (shut_string Tryd.underlying9 hsl) (trodAll_cons_mk (shut_int Tryd.underlying5 wn) trodAll_mk0))
    simp only [List.append_nil] at hz
    exact hz
  · rfl

def zraw : Value := .agg #[.int .u8 0, .slice none 0 0, .slice none 0 0, .int .u8 0, .int .u8 0]
def draw (H : Type) : DataW H := .agg [.lit (.int .u8 0), .nil, .nil, .lit (.int .u8 0), .lit (.int .u8 0)]
theorem laid_met (os : Os) : laidMet Tryd.prog Rows.eventParsesRow.laid ((World.doorLaid Tryd.prog 400 os).forCall (fun _ _ => 0) ⟨#[], #[zraw, .string ⟨#[]⟩, .int .u8 0], []⟩).memory :=
  laidMet_of_run' 8 (by kernel_rfl) (by kernel_rfl)
theorem reads (os : Os) {H : Type} (enc : TypeId × Value → H) : ∃ places, DataW.whole enc Tryd.prog ((World.doorLaid Tryd.prog 400 os).forCall (fun _ _ => 0) ⟨#[], #[zraw, .string ⟨#[]⟩, .int .u8 0], []⟩).memory Tryd.f6.params.toList Rows.eventParsesSpec.vars false #[zraw, .string ⟨#[]⟩, .int .u8 0].toList 8 = some ([draw H, .lit (.string []), .lit (.int .u8 0)], [], places) :=
  ⟨[], by kernel_rfl⟩

set_option maxRecDepth 100000 in
theorem lifted (os : Os) (started : os.Started) (H : Type) (enc : TypeId × Value → H) (F : Stop.Interp) :
    ReturnsInHanded {} Tryd.checked os 6 .any ((OpenSpec.ofChange Rows.eventParsesSpec).preRow enc Tryd.prog Tryd.f6 Rows.eventParsesRow.domain false Rows.eventParsesRow.laid) (((OpenSpec.ofChange Rows.eventParsesSpec).at F).post enc Tryd.prog Tryd.f6 false true false false) := by
  obtain ⟨places, hx⟩ := reads os enc
  refine returnsInHanded_of_row (C := Tryd.checked) (s := OpenSpec.ofChange Rows.eventParsesSpec) limits.own started (by kernel_rfl) Tryd.func6
    (witness_row_at (enc := enc) (C := Tryd.checked) false (World.doorLaid Tryd.prog 400 os) #[zraw, .string ⟨#[]⟩, .int .u8 0] rfl (by kernel_rfl) (by kernel_rfl) (by kernel_rfl)
      (OpenSpec.preRow_of_cond 8 hx (by kernel_rfl) (fun k hk => by cases hk) (by kernel_rfl) (laid_met os))) ?_
  intro W base args ds gs before hval hW _ _ _ hL hS _
  exact contract H enc W base args ds gs before hval hW hL hS

theorem said : Rows.EventParsesSaid :=
  OpenClaim.holds_of_cond 6 Tryd.f6 rfl rfl rfl rfl rfl rfl rfl ⟨rfl, rfl, rfl, rfl, rfl⟩ rfl rfl rfl rfl rfl (by kernel_rfl) Tryd.func6 (by kernel_rfl)
    (of_decide_eq_true (by kernel_rfl)) (by unfold Func.isWrapper; first | (rw [if_pos (by decide +kernel)]; kernel_rfl) | (rw [if_neg (by decide +kernel)]; exact ⟨rfl, rfl⟩))
    (fun os started H enc _ F => by rw [OpenClaim.pre_eq_preRow]; exact lifted os started H enc F)

theorem plain (f : FuncId) (fn : Func) (hf : Tryd.pinned.checked.prog.funcNamed "syllabary/syllabarylaw01.EventParses" = some f) (hfn : Tryd.pinned.checked.prog.funcs[f]? = some fn) :
    false = Tryd.pinned.checked.prog.looks [] ∧ ∀ (j : Nat) t, fn.params[j]? = some t → Tryd.pinned.checked.prog.wantsStandIn t = false := by
  obtain rfl : f = 6 := Option.some.inj ((show Tryd.prog.funcNamed "syllabary/syllabarylaw01.EventParses" = some 6 by kernel_rfl).symm.trans hf) |>.symm
  obtain rfl : fn = Tryd.f6 := (Option.some.inj (Tryd.func6.symm.trans hfn)).symm
  refine ⟨by kernel_rfl, fun j t ht => ?_⟩
  rw [Tryd.params6] at ht
  have hm : t ∈ [25, 9, 5] := by simpa using Array.mem_of_getElem? ht
  have hall : ([25, 9, 5].all fun u => !Tryd.prog.wantsStandIn u) = true := by kernel_rfl
  exact (show Tryd.prog.wantsStandIn t = false by simpa using List.all_eq_true.1 hall t hm)

theorem card : Rows.EventParsesCardSaid :=
  Claim7.holds_tied_plain_at .later [] _ _ _ _ said (fun _ h => by cases h) (by kernel_rfl) (fun _ h => by cases h) eventParses_row_tie rfl ⟨rfl, rfl⟩ (by kernel_rfl) rfl plain (by kernel_rfl)
#print axioms card
end Go.Proofs.YtcbboegjegobeaaDoor.parses
