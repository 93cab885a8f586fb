/-
  EventMatchesReference: the walk. Print and Parse answer as the reference's do, on a printed event, on the line with one byte changed, on its beginning, on any text, and on the line with a text behind it.
-/
import Derived.Test.YtmioocmjlbjfpaaDoorRA
import Derived.Test.YtmioocmjlbjfpaaDoorHH
import Derived.BigRegion
import Derived.Laws.IdiomStrings
namespace Go.Proofs.YtmioocmjlbjfpaaDoor
open Go.RowKit
open Pl

/-- What both Parse functions answer: this event and code. -/
def BothE (ev : Ev) (r : Int) (w : World) (e : Ending) (w' : World) : Prop :=
  (∃ a c, e = .returned (.tuple #[evV ev a c, .int .i64 r]) ∧ PtsAt w' w'.heap.size (.slice a ev.p.length c) ev.p) ∧ Below w.heap.size w w'
theorem both_ev (l : List UInt8) (hl : l.length ≤ 100000) : ∃ ev r, ev.p.length ≤ 1000 ∧ (r = 0 ∨ r = 3) ∧
    (∀ w : World, Calls Tryd.prog 7 #[.string (B l)] w (BothE ev r w)) ∧ (∀ w : World, Calls Tryd.prog 8 #[.string (B l)] w (BothE ev r w)) := by
  cases hp : parseS l with
  | none =>
    refine ⟨Ev.zero, 3, Nat.zero_le _, Or.inr rfl, fun w => ?_, fun w => ?_⟩
    · refine (Parse_any l w (by unfold maxLen; omega)).mono ?_
      rintro e w' ⟨h, hb⟩
      rw [hp] at h
      exact ⟨⟨none, 0, h, pts_nil _ _⟩, hb⟩
    · refine (RParse_any l w hl).mono ?_
      intro e w' h
      unfold RpPost at h
      rw [hp] at h
      obtain ⟨a, c, he, ho, hb⟩ := h
      exact ⟨⟨a, c, he, ho.pts⟩, hb⟩
  | some ev =>
    have hv := (parse_back hp).1
    have h12 : ev.p.length ≤ 1000 := by have := valid_pts hv; omega
    refine ⟨ev, 0, h12, Or.inl rfl, fun w => ?_, fun w => ?_⟩
    · refine (Parse_any l w (by unfold maxLen; omega)).mono ?_
      rintro e w' ⟨h, hb⟩
      rw [hp] at h
      obtain ⟨v, he, ho⟩ := h
      obtain ⟨a, c, rfl⟩ := own_form ho
      exact ⟨⟨a, c, he, ho.pts⟩, hb⟩
    · refine (RParse_any l w hl).mono ?_
      intro e w' h
      unfold RpPost at h
      rw [hp] at h
      obtain ⟨a, c, he, ho, hb⟩ := h
      exact ⟨⟨a, c, he, ho.pts⟩, hb⟩
/-- The block of two bytes. -/
def TuBlock (W : World) (b : Nat) (a0 a1 : Int) : Prop := W.heap[b]? = some (.cells #[.int .u8 a0, .int .u8 a1] 26 (0, 0))
theorem TuBlock.below {W W' : World} {b : Nat} {a0 a1 : Int} (h : TuBlock W b a0 a1) (hb : Below W.heap.size W W') : TuBlock W' b a0 a1 := by
  have hlt := lt_of_heap h
  unfold TuBlock at h ⊢; rw [hb.block b hlt]; exact h
theorem TuBlock.cells {W : World} {b : Nat} {a0 a1 : Int} (h : TuBlock W b a0 a1) : W.cell? ⟨b, 0, none⟩ = some (.int .u8 a0) ∧ W.cell? ⟨b, 1, none⟩ = some (.int .u8 a1) := by
  unfold TuBlock at h
  exact ⟨by simp [World.cell?, h], by simp [World.cell?, h]⟩
theorem layM (w : World) (k n m : Int) (lv pv : Value) (a0 a1 : Int) :
    RwBlock ((w.alloc (.cells #[.int .u8 k, lv, pv, .int .u8 n, .int .u8 m] 25)).alloc (.cells #[.int .u8 a0, .int .u8 a1] 26)) w.heap.size k lv pv n m ∧
    TuBlock ((w.alloc (.cells #[.int .u8 k, lv, pv, .int .u8 n, .int .u8 m] 25)).alloc (.cells #[.int .u8 a0, .int .u8 a1] 26)) (w.heap.size + 1) a0 a1 ∧
    Below w.heap.size w ((w.alloc (.cells #[.int .u8 k, lv, pv, .int .u8 n, .int .u8 m] 25)).alloc (.cells #[.int .u8 a0, .int .u8 a1] 26)) := by
  refine ⟨(RwBlock.new w k lv pv n m).alloc _, ?_, ((Below.refl _ _).alloc (Nat.le_refl _) _).alloc (by simp) _⟩
  have := heap_alloc_new (w.alloc (.cells #[.int .u8 k, lv, pv, .int .u8 n, .int .u8 m] 25)) (.cells #[.int .u8 a0, .int .u8 a1] 26)
  rw [World.size_alloc] at this
  exact this
theorem RawAt.is {W : World} {v : Value} (h : RawAt W W.heap.size v) : ∃ ev, RawIs W W.heap.size v ev := by
  obtain ⟨k, n, m, lv, pv, ln, pn, rfl, h1, h2, h3, ⟨h4, h5⟩, h6, h7⟩ := h
  obtain ⟨X, hX⟩ := h4.fn
  obtain ⟨XP, YP, hXY⟩ := h6.fn
  exact ⟨_, k, n, m, lv, pv, ln, pn, X, XP, YP, rfl, h1, h2, h3, ⟨hX, h5⟩, hXY, h7, rfl⟩
theorem name_pos : ∀ i, i < 12 → 1 ≤ (nameTab i).length := under12 (by decide) (by decide) (by decide) (by decide) (by decide) (by decide) (by decide) (by decide) (by decide) (by decide) (by decide) (by decide)
theorem conv_one (x : Nat) (hx : x ≤ 255) (g : Nat) (W : World) (h : W.cell? ⟨g, 0, none⟩ = some (.int .u8 (x : Int))) : (convert 22 9 (.slice (some ⟨g, 0, none⟩) 1 1)).run Tryd.prog W = .ok (.string (B [UInt8.ofNat x])) W :=
  run_convert_bytes_back W 22 9 5 ⟨g, 0, none⟩ 1 [UInt8.ofNat x] Tryd.underlying22 Tryd.underlying5 Tryd.underlying9 (fun j hj => by
    obtain rfl : j = 0 := by simpa using hj
    rw [add_none]
    rw [Nat.add_zero, h]
    have : (UInt8.ofNat x).toNat = x := by simp; omega
    simp [this])
theorem made_v (v : Value) (ev : Ev) (w : World) (h : RawIs w w.heap.size v ev) :
    Calls Tryd.prog 6 #[v, .int .i64 26] w fun e w' => (∃ a c, e = .returned (evV ev a c) ∧ PtsAt w' w'.heap.size (.slice a ev.p.length c) ev.p ∧ validB ev = true) ∧ Below w.heap.size w w' := by
  refine (made_is v ev w h).mono ?_
  rintro e w' ⟨⟨ev', a, c, he, hv, ho, hq⟩, hb⟩
  rw [hq] at he hv ho
  exact ⟨⟨a, c, he, ho.pts, hv⟩, hb⟩
theorem printS_pos {ev : Ev} (h : validB ev = true) : 1 ≤ (printS ev).length := by
  obtain ⟨i, hi, _, hk, hf⟩ := validB_kind h
  have h1 := name_pos i hi
  unfold printS
  rw [hk, List.length_append]
  omega
set_option maxHeartbeats 4000000 in
set_option maxRecDepth 100000 in
theorem Matches_any (mx k n m a0 : Int) (u : Nat) (la pa : Option Addr) (ln lc pn pc : Nat) (pt : List UInt8) (w : World) (hT : PowTab w) (hm : MaxVar w mx) (hw0 : 0 < w.heap.size)
    (hx : RawAt w w.heap.size (.agg #[.int .u8 k, .slice la ln lc, .slice pa pn pc, .int .u8 n, .int .u8 m])) (ha0 : 0 ≤ a0 ∧ a0 ≤ 255) (hu : u ≤ 255) (hpt : pt.length ≤ 60) :
    Calls Tryd.prog 3 #[.agg #[.int .u8 k, .slice la ln lc, .slice pa pn pc, .int .u8 n, .int .u8 m], .string (B pt), .agg #[.int .u8 a0, .int .u8 (u : Nat)]] w fun e w' => e = .returned (.bool true) ∧ Below w.heap.size w w' := by
  obtain ⟨k0, k1, hb⟩ := layM w k n m (.slice la ln lc) (.slice pa pn pc) a0 u
  obtain ⟨ev, hri⟩ := hx.is
  have HT := Lib.hid hT
  have H0 := Lib.hid hw0
  have HX := Lib.hid hri
  have HB1 := Lib.hid hb
  have RW1 := Lib.hid k0
  have TU1 := Lib.hid k1
  have CS := fun W (hb : Below w.heap.size w W) => Lib.hid (sanity_any mx W (hT.below hb) (hm.below hb hw0) (Nat.lt_of_lt_of_le hw0 hb.size))
  have hp3 : ¬ (60 : Int) < ((B pt).size : Int) := by rw [size_B]; omega
  clear hT hm hw0 hx hri hb k0 k1
  go_enter Tryd.func3, Tryd.ntmps3
  go_wp2_with fail
  generalize (w.alloc _).alloc _ = x1 at *
  refine ((CS x1 HB1.out).out).mono ?_
  rintro e x2 ⟨rfl, hb⟩
  have HB2 := Lib.hid (HB1.out.trans (hb.mono HB1.out.size))
  have RW2 := Lib.hid (RW1.out.below hb)
  have TU2 := Lib.hid (TU1.out.below hb)
  obtain ⟨r0, r1, r2, r3, r4⟩ := RW2.out.cells
  clear hb HB1 RW1 TU1 CS
  go_wp2_with fail
  refine (made_v _ ev x2 (HX.out.into HB2.out)).mono ?_
  rintro e x3 ⟨⟨va, vc, rfl, hpts, hv⟩, hb⟩
  have HB3 := Lib.hid (HB2.out.trans (hb.mono HB2.out.size))
  have RW3 := Lib.hid (RW2.out.below hb)
  have TU3 := Lib.hid (TU2.out.below hb)
  have CP := Lib.hid (rprint_ev ev hv va vc x3 hpts)
  have CE := fun a c W hp hT => Lib.hid (print_ev ev hv a c W hp hT)
  have hl1 := printS_pos hv
  have hl2 := printS_len hv
  clear hb HB2 RW2 TU2 r0 r1 r2 r3 r4 hv hpts
  go_wp2_with fail
  refine (CP.out).mono ?_
  rintro e x4 ⟨rfl, hb⟩
  have HB4 := Lib.hid (HB3.out.trans (hb.mono HB3.out.size))
  have RW4 := Lib.hid (RW3.out.below hb)
  have TU4 := Lib.hid (TU3.out.below hb)
  clear hb HB3 RW3 TU3 CP
  generalize printS ev = pl at *
  obtain ⟨q0, q1⟩ := TU4.out.cells
  have hsz := size_B pl
  have hszp := size_B pt
  have hwa0 : IntKind.i64.wrap a0 = a0 := IntWalk.i64_in _ (by omega)
  have hnz : ¬ (((B pl).size : Int) = 0) := by omega
  obtain ⟨i, hi⟩ : ∃ i : Nat, (i : Int) = a0 % ((B pl).size : Int) := ⟨(a0 % ((B pl).size : Int)).toNat, by have := Int.emod_nonneg a0 (show ((B pl).size : Int) ≠ 0 by omega); omega⟩
  have hil : (i : Int) < ((B pl).size : Int) := by rw [hi]; exact Int.emod_lt_of_pos _ (by omega)
  have htm : a0.tmod ((B pl).size : Int) = (i : Int) := by rw [Int.tmod_eq_emod_of_nonneg ha0.1, hi]
  have hwi : IntKind.i64.wrap (i : Int) = (i : Int) := IntWalk.i64_in _ (by omega)
  have hwi1 : IntKind.i64.wrap ((i : Int) + 1) = (i : Int) + 1 := IntWalk.i64_in _ (by omega)
  have hi0 : (0 : Int) ≤ (i : Int) := by omega
  have hi1 : (0 : Int) ≤ (i : Int) + 1 := by omega
  have hil2 : (i : Int) ≤ ((B pl).size : Int) := by omega
  have hil3 : (i : Int) + 1 ≤ ((B pl).size : Int) := by omega
  have HSZ := Lib.hid hsz
  have HSP := Lib.hid hszp
  have HIL := Lib.hid hil
  clear hi hsz hszp
  go_upto_region 6 with fail
  have q1' : ∀ ob, (x4.alloc ob).cell? ⟨w.heap.size + 1, 1, none⟩ = some (.int .u8 (u : Nat)) := fun ob => (World.cell?_alloc_past _ _ _ (World.block_lt_of_cell? _ _ q1)).trans q1
  have HC := conv_one u hu
  have hsu : (B [UInt8.ofNat u]).size = 1 := by rw [size_B]; rfl
  have z0 : (B pl).size ≤ 206 := by have := HSZ.out; omega
  have z3 : (B pt).size ≤ 60 := by rw [HSP.out]; exact hpt
  have z1 : ((B pl).extract 0 i).size ≤ 206 := by rw [ByteArray.size_extract]; have := HSZ.out; omega
  have z4 : ¬ 9223372036854775807 < min i (B pl).size + 1 := by omega
  have z5 : ¬ 9223372036854775807 < min i (B pl).size + 1 + ((B pl).size - (i + 1)) := by omega
  have z6 : ¬ 9223372036854775807 < (B pl).size + (B pt).size := by omega
  generalize w.heap.size + 1 = gp at *
  go_region
  obtain ⟨xl, hxl, hxl2⟩ : ∃ xl : List UInt8, (B pl).extract 0 i ++ B [UInt8.ofNat u] ++ (B pl).extract (i + 1) (B pl).size = B xl ∧ xl.length ≤ 3000 := ⟨((B pl).extract 0 i ++ B [UInt8.ofNat u] ++ (B pl).extract (i + 1) (B pl).size).data.toList, (B_toList _).symm, by rw [length_toList]; simp [ByteArray.size_append, ByteArray.size_extract, hsu]; omega⟩
  obtain ⟨yl, hyl, hyl2⟩ : ∃ yl : List UInt8, (B pl).extract 0 i = B yl ∧ yl.length ≤ 3000 := ⟨((B pl).extract 0 i).data.toList, (B_toList _).symm, by rw [length_toList]; omega⟩
  rw [hxl, hyl, B_app pl pt]
  have al : Below x4.heap.size x4 ((x4.alloc (.cells #[.int .u8 (u : Nat)] 5)).alloc (.cells #[.string (B pl), .string (B xl), .string (B yl), .string (B pt), .string (B (pl ++ pt))] 9)).drew := (((Below.refl _ _).alloc (Nat.le_refl _) _).alloc (by simp) _).drew
  have HB6 := Lib.hid (HB4.out.trans (al.mono HB4.out.size))
  have RW6 := Lib.hid (RW4.out.below al)
  have hbk := heap_alloc_new (x4.alloc (.cells #[.int .u8 (u : Nat)] 5)) (.cells #[.string (B pl), .string (B xl), .string (B yl), .string (B pt), .string (B (pl ++ pt))] 9)
  rw [World.size_alloc] at hbk
  have hbk2 : ((x4.alloc (.cells #[.int .u8 (u : Nat)] 5)).alloc (.cells #[.string (B pl), .string (B xl), .string (B yl), .string (B pt), .string (B (pl ++ pt))] 9)).drew.heap[x4.heap.size + 1]? = some (.cells #[.string (B pl), .string (B xl), .string (B yl), .string (B pt), .string (B (pl ++ pt))] 9 (0, 0)) := hbk
  have hll : pl.length ≤ 206 := hl2
  have TX := Lib.hid (show ∀ q, q < 5 → ∃ tl : List UInt8, tl.length ≤ 3000 ∧ ((x4.alloc (.cells #[.int .u8 (u : Nat)] 5)).alloc (.cells #[.string (B pl), .string (B xl), .string (B yl), .string (B pt), .string (B (pl ++ pt))] 9)).drew.cell? ⟨x4.heap.size + 1, q, none⟩ = some (.string (B tl)) from fun q hq => by
    rcases (show q = 0 ∨ q = 1 ∨ q = 2 ∨ q = 3 ∨ q = 4 by omega) with rfl | rfl | rfl | rfl | rfl
    · exact ⟨pl, by omega, by simp only [World.cell?, hbk2]; rfl⟩
    · exact ⟨xl, hxl2, by simp only [World.cell?, hbk2]; rfl⟩
    · exact ⟨yl, hyl2, by simp only [World.cell?, hbk2]; rfl⟩
    · exact ⟨pt, by omega, by simp only [World.cell?, hbk2]; rfl⟩
    · exact ⟨pl ++ pt, by rw [List.length_append]; omega, by simp only [World.cell?, hbk2]; rfl⟩)
  have hG0 := lt_of_heap hbk2
  clear al hbk hbk2 HB4 RW4 TU4 q0 q1 q1' z0 z1 z3 z4 z5 z6 hxl hyl hxl2 hyl2 HSZ HSP HIL hwa0 hnz htm hwi hwi1 hi0 hi1 hil hil2 hil3 hsu HC hll
  generalize ((x4.alloc _).alloc _).drew = x6 at *
  generalize x4.heap.size + 1 = G at *
  go_wp2_with fail
  go_loopw [11] (fun iv wr => ∃ q : Nat, iv = .int .i64 (q : Nat) ∧ q ≤ 5 ∧ Below x6.heap.size x6 wr) (fun iv _ => 5 - (intOf iv).toNat)
  case atStart => exact ⟨0, rfl, Nat.zero_le _, Below.refl _ _⟩
  case round =>
    obtain ⟨q, rfl, hq, hb⟩ := hrel
    have HBR := Lib.hid hb
    clear hb
    by_cases hlt : q < 5
    · have hq0 : (0 : Int) ≤ (q : Int) := by omega
      have hq2 : (q : Int) < 5 := by omega
      obtain ⟨tl, htl, htc⟩ := TX.out q hlt
      obtain ⟨e1, r, hpl, hr, CPs, CRs⟩ := both_ev tl (by omega)
      have CPS := Lib.hid CPs
      have CRS := Lib.hid CRs
      have HPL := Lib.hid hpl
      have tcr := (HBR.out.cell (p := ⟨G, q, none⟩) hG0).trans htc
      have hGr := Nat.lt_of_lt_of_le hG0 HBR.out.size
      have HTC := Lib.hid htc
      clear CPs CRs htc TX hpl
      go_wp2_with fail
      refine (CPS.out wr).mono ?_
      rintro e x7 ⟨⟨aa, ca, rfl, hxa⟩, hb7⟩
      have HB7 := Lib.hid hb7
      have HXA := Lib.hid hxa
      clear hb7 hxa tcr CPS
      have NB := EvBlock.new x7 (.int .i64 0) (.string ⟨#[]⟩) (.slice none 0 0) (.string ⟨#[]⟩) (.int .i64 0) (.int .i64 0)
      have AL := Lib.hid ((Below.refl x7.heap.size x7).alloc (Nat.le_refl _) (.cells #[.int .i64 0, .string ⟨#[]⟩, .slice none 0 0, .string ⟨#[]⟩, .int .i64 0, .int .i64 0] 31))
      go_upto_region 11 with (first | (refine wpList_store_ev rfl _ _ rfl _ _ _ _ _ _ _ NB rfl _ _ _ _ _ _ _ _ rfl ?_; intro x9 S13 hg' hs'; clear NB))
      have hbb := AL.out.grown hg' AL.out.size (by simp)
      have HB9 := Lib.hid (HB7.out.trans (hbb.mono HB7.out.size))
      have HXA9 := Lib.hid (HXA.out.on hbb)
      have S13 := Lib.hid S13
      clear hbb hg' hs' AL HB7 HXA
      generalize x7.heap.size = g13 at *
      have tcr := (HB9.out.cell (p := ⟨G, q, none⟩) hGr).trans ((HBR.out.cell (p := ⟨G, q, none⟩) hG0).trans HTC.out)
      go_wp2_with fail
      refine (CRS.out x9).mono ?_
      rintro e x10 ⟨⟨ab, cb, rfl, hxb⟩, hb10⟩
      have HB10 := Lib.hid (HB9.out.trans (hb10.mono HB9.out.size))
      have HXA10 := Lib.hid (HXA9.out.on hb10)
      have S13b := Lib.hid (S13.out.below hb10)
      have HXB := Lib.hid hxb
      clear hb10 hxb tcr CRS HB9 HXA9 S13
      have NB := EvBlock.new x10 (.int .i64 0) (.string ⟨#[]⟩) (.slice none 0 0) (.string ⟨#[]⟩) (.int .i64 0) (.int .i64 0)
      have AL := Lib.hid ((Below.refl x10.heap.size x10).alloc (Nat.le_refl _) (.cells #[.int .i64 0, .string ⟨#[]⟩, .slice none 0 0, .string ⟨#[]⟩, .int .i64 0, .int .i64 0] 31))
      go_upto_region 12 with (first | (refine wpList_store_ev rfl _ _ rfl _ _ _ _ _ _ _ NB rfl _ _ _ _ _ _ _ _ rfl ?_; intro x12 S16 hg' hs'; clear NB))
      have hbb := AL.out.grown hg' AL.out.size (by simp)
      have HB12 := Lib.hid (HB10.out.trans (hbb.mono HB10.out.size))
      have HXA12 := Lib.hid (HXA10.out.on hbb)
      have HXB12 := Lib.hid (HXB.out.on hbb)
      obtain ⟨f0, f1, f2, f3, f4, f5⟩ := (S13b.out.below hbb).cells
      obtain ⟨g0, g1, g2, g3, g4, g5⟩ := S16.cells
      have hsm := same_evs e1 e1 aa ab ca cb x12 HXA12.out HXB12.out HPL.out
      rw [sameB_self] at hsm
      have CSM := Lib.hid hsm
      clear hbb hg' hs' AL HB10 HXA10 HXB S13b S16 hsm HXA12 HXB12
      generalize x10.heap.size = g16 at *
      go_wp2_with fail
      refine (CSM.out).mono ?_
      rintro e x13 ⟨rfl, hb13⟩
      have HB13 := Lib.hid (HBR.out.trans ((HB12.out.trans (hb13.mono HB12.out.size)).mono HBR.out.size))
      clear hb13 CSM HB12 f0 f1 f2 f3 f4 f5 g0 g1 g2 g3 g4 g5
      rcases hr with rfl | rfl
      all_goals
        go_wp2_with fail
        go_roundw
        case rel => exact ⟨q + 1, by go_num, by omega, HB13.out⟩
        case measure => simp [intOf]; omega
    · have hq2 : ¬ (q : Int) < 5 := by omega
      have HBW := Lib.hid (HB6.out.trans (HBR.out.mono HB6.out.size))
      obtain ⟨r0, r1, r2, r3, r4⟩ := (RW6.out.below HBR.out).cells
      clear TX hG0 RW6
      go_wp2_with fail
      refine (made_v _ ev wr (HX.out.into HBW.out)).mono ?_
      rintro e x13 ⟨⟨vb, vd, rfl, hpts, hv⟩, hb⟩
      have HB13 := Lib.hid (HBW.out.trans (hb.mono HBW.out.size))
      have CQ := Lib.hid ((CE vb vd x13 hpts (HT.out.below HB13.out)).out)
      clear hb hpts hv r0 r1 r2 r3 r4 CE
      go_wp2_with fail
      refine (CQ.out).mono ?_
      rintro e x14 ⟨rfl, hb⟩
      have HB14 := Lib.hid (HB13.out.trans (hb.mono HB13.out.size))
      have hee : ((B pl).toList == (B pl).toList) = true := beq_self_eq_true _
      clear hb CQ
      go_wp2_with fail
      go_ret
      exact ⟨rfl, HB14.out⟩
set_option maxHeartbeats 1000000 in
set_option maxRecDepth 100000 in
theorem Matches_long (mx k n m a0 a1 : Int) (la pa : Option Addr) (ln lc pn pc : Nat) (s : ByteArray) (w : World) (hT : PowTab w) (hm : MaxVar w mx) (hw0 : 0 < w.heap.size) (hs : 60 < s.size) :
    Calls Tryd.prog 3 #[.agg #[.int .u8 k, .slice la ln lc, .slice pa pn pc, .int .u8 n, .int .u8 m], .string s, .agg #[.int .u8 a0, .int .u8 a1]] w fun e w' => e = .returned (.bool true) ∧ Below w.heap.size w w' := by
  obtain ⟨-, -, hb⟩ := layM w k n m (.slice la ln lc) (.slice pa pn pc) a0 a1
  have HB1 := Lib.hid hb
  have CS := fun W (hb : Below w.heap.size w W) => Lib.hid (sanity_any mx W (hT.below hb) (hm.below hb hw0) (Nat.lt_of_lt_of_le hw0 hb.size))
  have hp3 : (60 : Int) < (s.size : Int) := by omega
  clear hT hm hw0 hb hs
  go_enter Tryd.func3, Tryd.ntmps3
  go_wp2_with fail
  generalize (w.alloc _).alloc _ = x1 at *
  refine ((CS x1 HB1.out).out).mono ?_
  rintro e x2 ⟨rfl, hb⟩
  have HB2 := Lib.hid (HB1.out.trans (hb.mono HB1.out.size))
  clear hb HB1 CS
  go_wp2_with fail
  go_ret
  exact ⟨rfl, HB2.out⟩
end Go.Proofs.YtmioocmjlbjfpaaDoor
