/-
  A rule as an argument; SchemeOrders for any raw scheme, rule and byte.
-/
import Derived.Test.YtnbiedijofdjhaaDoorVV
import Derived.Test.YtnbiedijofdjhaaDoorVM
namespace Go.Proofs.YtnbiedijofdjhaaDoor
open Go.ChangeShapes Go.WideShapes Go.ChangeAt Go.RowKit Go.ChangeMaps
open Pl

theorem cellsInt : Tryd.prog.cellsOf 3 = 1 := by kernel_rfl
theorem cellsStr : Tryd.prog.cellsOf 9 = 1 := by kernel_rfl
theorem cellsRule : Tryd.prog.cellsOf 29 = 5 := by kernel_rfl
theorem rec29 : Tryd.prog.readableRec 29 = true := by kernel_rfl
theorem row29 : 29 < Tryd.prog.types.size := of_decide_eq_true (by kernel_rfl)
set_option maxRecDepth 100000 in
theorem rule_cells {H : Type} {enc : TypeId × Value → H} {W : World} {cs : List Value} {x : DataW H × List MemPlace} {fuel : Nat} (hlen : cs.length = 5) (hf : DataW.trod enc Tryd.prog W 0 (fun _ => true) true fuel 29 cs = some x) :
    ∃ r : Rl, cs = [.int .i64 r.src, .int .i64 r.dst, .string (B r.inp), .string (B r.out), .int .i64 r.cost] ∧ r.inp.length ≤ maxLen ∧ r.out.length ≤ maxLen := by
  match cs, hlen with
  | [x0, x1, x2, x3, x4], _ =>
    obtain ⟨zs, f', _, _, _, hlen, hg⟩ := DataW.trod_struct Tryd.underlying29 hf
    match zs, hlen with
    | [y0, y1, y2, y3, y4], _ =>
      have g0 : DataW.trod enc Tryd.prog W 0 (fun _ => true) true f' 3 [x0] = some y0 := by simpa [Value.cells, cellsInt] using hg 0 _ rfl
      have g1 : DataW.trod enc Tryd.prog W 0 (fun _ => true) true f' 3 [x1] = some y1 := by simpa [Value.cells, cellsInt] using hg 1 _ rfl
      have g2 : DataW.trod enc Tryd.prog W 0 (fun _ => true) true f' 9 [x2] = some y2 := by simpa [Value.cells, cellsStr] using hg 2 _ rfl
      have g3 : DataW.trod enc Tryd.prog W 0 (fun _ => true) true f' 9 [x3] = some y3 := by simpa [Value.cells, cellsStr] using hg 3 _ rfl
      have g4 : DataW.trod enc Tryd.prog W 0 (fun _ => true) true f' 3 [x4] = some y4 := by simpa [Value.cells, cellsInt] using hg 4 _ rfl
      obtain ⟨a, ha, -, -⟩ := DataW.trod_int Tryd.underlying3 g0
      obtain ⟨b, hb, -, -⟩ := DataW.trod_int Tryd.underlying3 g1
      obtain ⟨s, hs, -, ls⟩ := DataW.trod_string Tryd.underlying9 g2
      obtain ⟨t, ht, -, lt⟩ := DataW.trod_string Tryd.underlying9 g3
      obtain ⟨c, hc, -, -⟩ := DataW.trod_int Tryd.underlying3 g4
      obtain rfl : x0 = .int .i64 a := by simpa using ha
      obtain rfl : x1 = .int .i64 b := by simpa using hb
      obtain rfl : x2 = .string s := by simpa using hs
      obtain rfl : x3 = .string t := by simpa using ht
      obtain rfl : x4 = .int .i64 c := by simpa using hc
      exact ⟨⟨a, b, s.data.toList, t.data.toList, c⟩, by dsimp only; rw [B_toList, B_toList], by dsimp only; rw [length_toList]; exact ls, by dsimp only; rw [length_toList]; exact lt⟩
set_option maxRecDepth 100000 in
theorem open_tRule {H : Type} {enc : TypeId × Value → H} {W : World} {r : Reach} {base : Nat} {v : Value} {d : DataW H} {p : List MemPlace} (hv : Value.okWide Tryd.prog W r base 29 v) (h : DataW.Trod enc Tryd.prog W 0 (fun _ => true) true 29 v d p) :
    ∃ o : Rl, v = rlV o ∧ o.inp.length ≤ maxLen ∧ o.out.length ≤ maxLen := by
  obtain ⟨cs, rfl, hsz⟩ := okWide_struct Tryd.underlying29 hv
  rw [cellsRule] at hsz
  obtain ⟨l⟩ := cs
  obtain ⟨fuel, hf⟩ := h
  obtain ⟨r, hr, h1, h2⟩ := rule_cells (by simpa using hsz) (by simpa [Value.cells] using hf)
  exact ⟨r, by rw [show l = _ from by simpa using hr], h1, h2⟩
set_option maxRecDepth 100000 in
theorem back_tRule {H : Type} {enc : TypeId × Value → H} {W W' : World} {v : Value} {d : DataW H} {p : List MemPlace} (h : DataW.Trod enc Tryd.prog W 0 (fun _ => true) true 29 v d p) (hb : Below W.heap.size W W') :
    DataW.Trod enc Tryd.prog W' 0 (fun b => decide (b < W.heap.size)) true 29 v d p :=
  Below.trod raw_out rec29 row29 h hb (DataW.TrodAll.lt (trodAll_mk1 h))
set_option maxHeartbeats 1000000 in
set_option maxRecDepth 100000 in
theorem Orders_long (k d kk m : Int) (y : Rl) (ma : Option Addr) (mn mc : Nat) (w : World) (hT : StrTab w) (hP : PowTab w) (hm : MaxVar w m) (h0 : 0 < w.heap.size) (hg : 2 < w.heap.size)
    (hk : 0 ≤ k ∧ k ≤ 255) (hd : 0 ≤ d ∧ d ≤ 255) (hx : RawsAt w w.heap.size (.slice ma mn mc) mn) (hl : mn ≤ maxLen) (hy : 10 < y.inp.length ∨ (y.inp.length ≤ 10 ∧ 10 < y.out.length)) :
    Calls Tryd.prog 8 #[.agg #[.int .u8 k, .int .u8 d, .slice ma mn mc], .agg #[.int .i64 y.src, .int .i64 y.dst, .string (B y.inp), .string (B y.out), .int .i64 y.cost], .int .u8 kk] w fun e w' => e = .returned (.bool true) ∧ Below w.heap.size w w' := by
  obtain ⟨k0, k1, hb⟩ := layO w k d (.slice ma mn mc) y
  have H0 := Lib.hid h0
  have HX := Lib.hid hx
  have HL := Lib.hid hl
  have HB1 := Lib.hid hb
  have RW1 := Lib.hid k0
  have RY1 := Lib.hid k1
  have CS := fun W (hb : Below w.heap.size w W) => Lib.hid (sanity_any m W (hT.below hb h0) (hP.below hb) (hm.below hg hb) (Nat.lt_of_lt_of_le h0 hb.size) (Nat.lt_of_lt_of_le hg hb.size))
  have HY := Lib.hid hy
  clear hT hP hm h0 hg hx hl hb k0 k1 hy
  go_enter Tryd.func8, Tryd.ntmps8
  go_wp2_with fail
  generalize (w.alloc _).alloc _ = x1 at *
  refine ((CS x1 HB1.out).out).mono ?_
  rintro e x2 ⟨rfl, hb⟩
  have HB2 := Lib.hid (HB1.out.trans (hb.mono HB1.out.size))
  have RY2 := Lib.hid (RY1.out.below hb)
  obtain ⟨r0, r1, r2⟩ := (RW1.out.below hb).cells
  clear hb HB1 RW1 RY1 CS
  go_wp2_with fail
  refine (Made_any k d ma mn mc x2 hk hd (HX.out.on HB2.out) HL.out).mono ?_
  rintro e x3 ⟨⟨mm, b0, off, c, rs, rfl, -⟩, hb⟩
  have HB3 := Lib.hid (HB2.out.trans (hb.mono HB2.out.size))
  have RY3 := Lib.hid (RY2.out.below hb)
  clear hb HB2 RY2 r0 r1 r2 HX HL
  have NB := SchBlock.new x3 (.int .i64 0) (.int .u8 0) (.slice none 0 0)
  have al := (Below.refl x3.heap.size x3).alloc (Nat.le_refl _) (.cells #[.int .i64 0, .int .u8 0, .slice none 0 0] 24)
  have HB4 := Lib.hid (HB3.out.trans (al.mono HB3.out.size))
  have RY4 := Lib.hid (RY3.out.below al)
  have hw3 := HB3.out.size
  have hr3 := lt_of_heap RY3.out
  clear al HB3 RY3
  go_upto_region 3 with (first | (refine wpList_store_sch rfl _ _ rfl _ _ _ _ NB rfl _ _ _ _ _ rfl ?_; intro x4 S6 hg' hs'; clear NB))
  obtain ⟨p0, p1, p2, p3, p4⟩ := (RY4.out.keptBy hg' (by simp; omega)).cells
  have HB5 := Lib.hid (HB4.out.grown hg' HB4.out.size (by simp; omega))
  clear HB4 RY4
  rcases HY.out with hy | ⟨hy1, hy2⟩
  · have y1 : (10 : Int) < ((B y.inp).size : Int) := by rw [size_B]; omega
    go_wp2_with fail
    go_ret
    exact ⟨rfl, HB5.out⟩
  · have y1 : ¬ (10 : Int) < ((B y.inp).size : Int) := by rw [size_B]; omega
    have y2 : (10 : Int) < ((B y.out).size : Int) := by rw [size_B]; omega
    go_wp2_with fail
    go_ret
    exact ⟨rfl, HB5.out⟩
theorem orders_any (o : Int × Int × Option Addr × Nat × Nat) (y : Rl) (kk m : Int) (w : World) (hT : StrTab w) (hP : PowTab w) (hm : MaxVar w m) (h0 : 0 < w.heap.size) (hg : 2 < w.heap.size)
    (ho : (0 ≤ o.1 ∧ o.1 ≤ 255) ∧ (0 ≤ o.2.1 ∧ o.2.1 ≤ 255) ∧ o.2.2.2.1 ≤ maxLen ∧ RawsAt w w.heap.size (.slice o.2.2.1 o.2.2.2.1 o.2.2.2.2) o.2.2.2.1) (_ : y.inp.length ≤ maxLen ∧ y.out.length ≤ maxLen) (hkk : 0 ≤ kk ∧ kk ≤ 255) :
    Calls Tryd.prog 8 #[.agg #[.int .u8 o.1, .int .u8 o.2.1, .slice o.2.2.1 o.2.2.2.1 o.2.2.2.2], rlV y, .int .u8 kk] w fun e w' => e = .returned (.bool true) ∧ Below w.heap.size w w' := by
  rcases Nat.lt_or_ge 10 y.inp.length with h1 | h1
  · exact Orders_long o.1 o.2.1 kk m y o.2.2.1 o.2.2.2.1 o.2.2.2.2 w hT hP hm h0 hg ho.1 ho.2.1 ho.2.2.2 ho.2.2.1 (Or.inl h1)
  · rcases Nat.lt_or_ge 10 y.out.length with h2 | h2
    · exact Orders_long o.1 o.2.1 kk m y o.2.2.1 o.2.2.2.1 o.2.2.2.2 w hT hP hm h0 hg ho.1 ho.2.1 ho.2.2.2 ho.2.2.1 (Or.inr ⟨h1, h2⟩)
    · exact Orders_any o.1 o.2.1 kk m y o.2.2.1 o.2.2.2.1 o.2.2.2.2 w hT hP hm h0 hg ho.1 ho.2.1 hkk ho.2.2.2 ho.2.2.1 ⟨h1, h2⟩
end Go.Proofs.YtnbiedijofdjhaaDoor
