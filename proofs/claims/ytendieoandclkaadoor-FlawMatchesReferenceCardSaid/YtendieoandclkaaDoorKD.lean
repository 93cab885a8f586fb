/-
  FlawMatchesReference's walk. FlawMatchesReference's walk. A raw scheme of layer 2 and a rule as arguments; FlawMatchesReference for any arguments.
-/
import Derived.Test.YtendieoandclkaaDoorKC
import Derived.Test.YtendieoandclkaaDoorKB
import Derived.Test.YtendieoandclkaaDoorGO
import Derived.Test.YtendieoandclkaaDoorGK
import Derived.Test.YtendieoandclkaaDoorGZ
import Derived.Deep.Strs
import Derived.Deep.Slices

namespace Go.Proofs.YtendieoandclkaaDoor
open Go.RowKit
open Pl

theorem RlsFit.at {W : World} {base b0 off c : Nat} {rs : List Rl} (h : RlsFit W base b0 off c rs) : rs.length ≤ c ∧ RlsAt W W.heap.size (.slice (some ⟨b0, off, none⟩) rs.length c) rs := by
  obtain ⟨h1, h2, h3⟩ := h
  rcases h3 with ⟨rfl, h⟩ | ⟨rfl, h⟩
  · obtain ⟨a, c', hv, hc, h⟩ := h.at
    have e : c = c' := by simp at hv; exact hv.2
    exact ⟨by omega, h⟩
  · refine ⟨Nat.le_refl _, _, _, rfl, fun _ => ⟨b0, off, rfl, h2, fun i hi => ?_⟩⟩
    obtain ⟨k0, k1, k2, k3, k4⟩ := rlCells_get rs i hi
    exact ⟨h _ _ k0, h _ _ k1, h _ _ k2, h _ _ k3, h _ _ k4⟩
/-- One rule more. -/
theorem wpList_append_rls {ops : Array Oper} {rest : List Oper} {o : Oper} {a : Act} {W : World} {Q : Exit → Act → World → Prop} (hgd : o.guard = none) (s x : Operand)
    (ho : o.op = .call { callee := .builtin .append, args := #[s, x], argTypes := #[31, 31] }) (base : Nat) (v : Value) (rs : List Rl) (hs : a.eval s = v) (hown : RlsOwn W base v rs) (r : Rl) (nb : Nat) (hx : a.eval x = .slice (some ⟨nb, 0, none⟩) 1 1) (hn : W.heap[nb]? = some (.cells (rlCells r).toArray 29 (0, 0)))
    (hlen : rs.length + 1 ≤ 10000) (hbase : base ≤ W.heap.size) (h : ∀ g cap W', RlsOwn W' base (.slice (some ⟨g, 0, none⟩) (rs.length + 1) cap) (rs ++ [r]) → W.grownBy W' v.ownBlock → wpList Tryd.prog ops Q rest (a.put o.dst (.slice (some ⟨g, 0, none⟩) (rs.length + 1) cap)) W') : wpList Tryd.prog ops Q (o :: rest) a W := by
  obtain ⟨i0, hi0, hz0, hz1, hz2⟩ := info_parts infoRl
  refine wpList_append_own W hgd s x 31 ho base 29 i0 _ 5 56 Tryd.underlying31 hi0 hz0 hz1 hz2 rfl (by decide) v rs.length (rs.flatMap rlCells) hs hown ⟨nb, 0, none⟩ 1 1 (rlCells r) hx rfl (World.news_of_block (cs := (rlCells r).toArray) (t := 29) (fr := (0, 0)) hn) (fun u hu => by
    simp only [rlCells, List.mem_cons, List.not_mem_nil, or_false] at hu
    rcases hu with rfl | rfl | rfl | rfl | rfl <;> rfl) (by unfold maxLen; omega) (by omega) hbase fun v' w' hown2 hgrow2 _ => ?_
  obtain ⟨g2b, cap2, rfl, hgb, hgl⟩ := hown2.form (by omega)
  refine h g2b cap2 w' ?_ hgrow2
  unfold RlsOwn
  rw [List.length_append, List.length_singleton, List.flatMap_append]
  simpa using hown2
/-- A scheme in a list of schemes. -/
def LsAt (W : World) (lb i : Nat) : Prop := ∃ (m acc : Nat) (a : Option Addr) (c : Nat) (rs : List Rl), W.cell? ⟨lb, i * 3, none⟩ = some (.int .i64 (m : Nat)) ∧ W.cell? ⟨lb, i * 3 + 1, none⟩ = some (.int .u8 (acc : Nat)) ∧ W.cell? ⟨lb, i * 3 + 2, none⟩ = some (.slice a rs.length c) ∧
  RlsAt W W.heap.size (.slice a rs.length c) rs ∧ rs.length ≤ c ∧ rs.length ≤ 13 ∧ (∀ x ∈ rs, x.inp.length ≤ maxLen ∧ x.out.length ≤ maxLen) ∧ acc < 256 ∧ m ≤ 1000
theorem LsAt.on {W W' : World} {lb i : Nat} (h : LsAt W lb i) (hlb : lb < W.heap.size) (hb : Below W.heap.size W W') : LsAt W' lb i := by
  obtain ⟨m, acc, a, c, rs, h0, h1, h2, h3, h4⟩ := h
  exact ⟨m, acc, a, c, rs, (hb.cell (p := ⟨lb, _, none⟩) hlb).trans h0, (hb.cell (p := ⟨lb, _, none⟩) hlb).trans h1, (hb.cell (p := ⟨lb, _, none⟩) hlb).trans h2, h3.on hb, h4⟩
theorem ok_lens {m : Int} {acc : Int} {rs : List Rl} (hv : validB m acc rs = true) : ∀ x ∈ rs, x.inp.length ≤ maxLen ∧ x.out.length ≤ maxLen := fun x hx => by
  obtain ⟨kk, hkk, rfl⟩ := List.getElem_of_mem hx
  have h := ((valid_ok hv).2.2.2.2 kk hkk).1
  have h1 := h.i
  have h2 := h.o
  unfold maxLen
  omega
theorem rep_lens {m acc : Nat} {rs : List Rl} (hl : rs.length ≤ 13) (hm : m ≤ 1000) : (repC m acc rs).dead.length ≤ maxLen ∧ (repC m acc rs).stuck.length ≤ maxLen ∧ (repC m acc rs).endless.length ≤ maxLen := by
  unfold repC
  split
  · rename_i hv
    obtain ⟨⟨hm1, hm8⟩, hr, -, -⟩ := valid_in hv
    have h1 := pickN_len (deadK (rMs m rs) (lMs m acc rs)) rs rs.length
    have h2 := stuckC_short (acc := acc) hr hm1
    have h3 := endC_short (u := rMs m rs &&& lMs m acc rs) hr m (Nat.le_refl _)
    refine ⟨by unfold maxLen; show (pickN _ rs rs.length).length ≤ _; omega, ?_, ?_⟩
    · show (ints (stuckC m acc rs)).length ≤ _
      rw [ints_len]; unfold maxLen; omega
    · show (ints (endlessC m acc rs)).length ≤ _
      rw [ints_len]; unfold endlessC maxLen; omega
  · exact ⟨Nat.zero_le _, Nat.zero_le _, Nat.zero_le _⟩
theorem held_done_as {P : Program} {ops : Array Oper} {md : Region.Mode} {S : World → Prop} {Q : Exit → Act → World → Prop} {fuel : Nat} {listed : Array Bool} {a : Act} {w : World} {b : Act} (hr : Region.ready md ops listed = []) (hab : a = b) (h : Q .normal b w) : wpAnyH P md ops Q S fuel listed a w :=
  held_done hr (by rw [hab]; exact h)
end Go.Proofs.YtendieoandclkaaDoor

namespace Go.Proofs.YtendieoandclkaaDoor
open Go.RowKit
open Pl

theorem RlsOwn.lt {W : World} {b : Nat} {v : Value} {rs : List Rl} (h : RlsOwn W b v rs) : ∀ q, v.ownBlock = some q → b ≤ q ∧ q < W.heap.size := by
  intro q hq
  rcases h.2 with ⟨rfl, _⟩ | ⟨g, cap, cur, rfl, hg, hh, _⟩
  · cases hq
  · cases hq; exact ⟨hg, lt_of_heap hh⟩
set_option maxHeartbeats 2000000 in
set_option maxRecDepth 100000 in
theorem FlawMatches_any (M A : Nat) (ma : Option Addr) (mn mc : Nat) (k d : Int) (ya : Option Addr) (yn yc : Nat) (o : Rl) (w : World) (hT : StrTab w) (h0 : 0 < w.heap.size) (hM : M < 256) (hA : A < 256) (hx : TrisAt w w.heap.size (.slice ma mn mc) mn) (hl : mn ≤ maxLen) (hk : 0 ≤ k ∧ k ≤ 255) (hd : 0 ≤ d ∧ d ≤ 255) (hy : RawsAt w w.heap.size (.slice ya yn yc) yn) (hyl : yn ≤ maxLen) (hol : o.inp.length ≤ maxLen ∧ o.out.length ≤ maxLen) :
    Calls Tryd.prog 3 #[.agg #[.int .u8 (M : Nat), .int .u8 (A : Nat), .slice ma mn mc], .agg #[.int .u8 k, .int .u8 d, .slice ya yn yc], rlV o] w fun e w' => e = .returned (.bool true) ∧ Below w.heap.size w w' := by
  have b1 := (Below.refl w.heap.size w).alloc (Nat.le_refl _) (.cells #[.int .u8 (M : Nat), .int .u8 (A : Nat), .slice ma mn mc] 24)
  have b2 := b1.alloc b1.size (.cells #[.int .u8 k, .int .u8 d, .slice ya yn yc] 27)
  have b3 := b2.alloc b2.size (.cells #[.int .i64 o.src, .int .i64 o.dst, .string (B o.inp), .string (B o.out), .int .i64 o.cost] 29)
  have e1 : (w.alloc (.cells #[.int .u8 (M : Nat), .int .u8 (A : Nat), .slice ma mn mc] 24)).heap.size = w.heap.size + 1 := World.size_alloc _ _
  have e2 : ((w.alloc (.cells #[.int .u8 (M : Nat), .int .u8 (A : Nat), .slice ma mn mc] 24)).alloc (.cells #[.int .u8 k, .int .u8 d, .slice ya yn yc] 27)).heap.size = w.heap.size + 1 + 1 := by rw [World.size_alloc, e1]
  have al2 := ((Below.refl (w.alloc (.cells #[.int .u8 (M : Nat), .int .u8 (A : Nat), .slice ma mn mc] 24)).heap.size _).alloc (Nat.le_refl _) (.cells #[.int .u8 k, .int .u8 d, .slice ya yn yc] 27))
  have al3 := ((Below.refl ((w.alloc (.cells #[.int .u8 (M : Nat), .int .u8 (A : Nat), .slice ma mn mc] 24)).alloc (.cells #[.int .u8 k, .int .u8 d, .slice ya yn yc] 27)).heap.size _).alloc (Nat.le_refl _) (.cells #[.int .i64 o.src, .int .i64 o.dst, .string (B o.inp), .string (B o.out), .int .i64 o.cost] 29))
  have R1 := Lib.hid (((FRBlock.new w (.int .u8 (M : Nat)) (.int .u8 (A : Nat)) (.slice ma mn mc)).below al2).below al3)
  have hrw : RwBlock ((w.alloc (.cells #[.int .u8 (M : Nat), .int .u8 (A : Nat), .slice ma mn mc] 24)).alloc (.cells #[.int .u8 k, .int .u8 d, .slice ya yn yc] 27)) (w.heap.size + 1) k d (.slice ya yn yc) := by rw [← e1]; exact heap_alloc_new _ _
  have Y1 := Lib.hid (hrw.below al3)
  have hro : RlBlock (((w.alloc (.cells #[.int .u8 (M : Nat), .int .u8 (A : Nat), .slice ma mn mc] 24)).alloc (.cells #[.int .u8 k, .int .u8 d, .slice ya yn yc] 27)).alloc (.cells #[.int .i64 o.src, .int .i64 o.dst, .string (B o.inp), .string (B o.out), .int .i64 o.cost] 29)) (w.heap.size + 1 + 1) o := by rw [← e2]; exact heap_alloc_new _ _
  have O1 := Lib.hid hro
  have B1 := Lib.hid b3
  have HX := Lib.hid hx
  have HY := Lib.hid hy
  have HT := Lib.hid hT
  have H0 := Lib.hid h0
  have HOL := Lib.hid hol
  clear hx hy hT h0 b1 b2 b3 e1 e2 al2 al3 hrw hro hol
  go_enter Tryd.func3, Tryd.ntmps3
  go_upto_region 1 with fail
  generalize ((w.alloc _).alloc _).alloc _ = x1 at *
  go_wp2_with fail
  refine (San_any x1 (HT.out.below B1.out H0.out) (Nat.lt_of_lt_of_le H0.out B1.out.size)).mono ?_
  rintro e x2 ⟨rfl, hb⟩
  have R2 := Lib.hid (R1.out.below hb)
  have Y2 := Lib.hid (Y1.out.below hb)
  have O2 := Lib.hid (O1.out.below hb)
  have B2 := Lib.hid (B1.out.trans (hb.mono B1.out.size))
  clear hb R1 Y1 O1 B1
  obtain ⟨o0, o1, o2, o3, o4⟩ := O2.out.cells
  by_cases g1 : (20 : Int) < ((B o.inp).size : Int)
  · go_wp2_with fail
    go_ret
    exact ⟨rfl, B2.out⟩
  · by_cases g2 : (20 : Int) < ((B o.out).size : Int)
    · go_wp2_with fail
      go_ret
      exact ⟨rfl, B2.out⟩
    · obtain ⟨r0, r1, r2⟩ := R2.out.cells
      go_wp2_with fail
      refine (FMade_any M A ma mn mc x2 hM hA (HX.out.on B2.out) hl).mono ?_
      rintro e x3 ⟨m1, acc1, rs1, va, vc, rfl, hm1, h2561, hv1, hl1, hown1, hb⟩
      have HV1 := Lib.hid hv1
      have HM1 := Lib.hid hm1
      have R3 := Lib.hid (R2.out.below hb)
      have Y3 := Lib.hid (Y2.out.below hb)
      have O3 := Lib.hid (O2.out.below hb)
      have B3 := Lib.hid (B2.out.trans (hb.mono B2.out.size))
      obtain ⟨aa, cc, hvv, hcap1, hat⟩ := hown1.at
      obtain ⟨rfl, rfl⟩ : va = aa ∧ vc = cc := by simpa using hvv
      have XS3 := Lib.hid hat
      clear hvv hat hown1 hb R2 Y2 O2 B2 r0 r1 r2 o0 o1 o2 o3 o4 hv1 hm1 g1 g2
      obtain ⟨gs, hgs⟩ : ∃ g, g = x3.heap.size := ⟨_, rfl⟩
      have NB := SchBlock.new x3 (.int .i64 0) (.int .u8 0) (.slice none 0 0)
      have AL := Lib.hid ((Below.refl x3.heap.size x3).alloc (Nat.le_refl _) (.cells #[.int .i64 0, .int .u8 0, .slice none 0 0] 33))
      go_upto_region 5 with (first | (refine wpList_store_sch rfl _ _ rfl _ _ _ _ NB rfl (m1 : Int) (acc1 : Int) va rs1.length vc rfl ?_; intro W4 SB hg' hs'; clear NB))
      have hbb := AL.out.grown hg' AL.out.size (by simp)
      have XS4 := Lib.hid ((show RlsAt x3 x3.heap.size (.slice va rs1.length vc) rs1 from XS3.out).on hbb)
      have R4 := Lib.hid (R3.out.below hbb)
      have Y4 := Lib.hid (Y3.out.below hbb)
      have O4 := Lib.hid (O3.out.below hbb)
      have B4 := Lib.hid (B3.out.trans (hbb.mono B3.out.size))
      have S4 := Lib.hid SB
      clear hbb hg' hs' SB AL XS3 R3 Y3 O3 B3
      rw [← hgs] at S4
      rw [← hgs]
      clear hgs
      obtain ⟨r0, r1, r2⟩ := R4.out.cells
      go_wp2_with fail
      refine (FMade_any M A ma mn mc W4 hM hA (HX.out.on B4.out) hl).mono ?_
      rintro e x5 ⟨m2, acc2, rs2, wa, wc, rfl, hm2, h2562, hv2, hl2, hown2, hb⟩
      have HV2 := Lib.hid hv2
      have HM2 := Lib.hid hm2
      have D5 := Lib.hid hb
      have O5 := Lib.hid (O4.out.below hb)
      have OW5 := Lib.hid hown2
      have hw4 : w.heap.size + 2 ≤ W4.heap.size := by have := lt_of_heap Y4.out; omega
      have hgs4 : gs < W4.heap.size := lt_of_heap S4.out
      have hsz5 : W4.heap.size ≤ x5.heap.size := hb.size
      clear hown2 hb r0 r1 r2 hv2 hm2
      obtain ⟨gt, hgt⟩ : ∃ g, g = x5.heap.size := ⟨_, rfl⟩
      have HLT := Lib.hid (show ∀ q, (Value.slice wa rs2.length wc).ownBlock = some q → W4.heap.size ≤ q ∧ q < gt from fun q hq => by rw [hgt]; exact OW5.out.lt q hq)
      have NB := SchBlock.new x5 (.int .i64 0) (.int .u8 0) (.slice none 0 0)
      have AL := Lib.hid ((Below.refl x5.heap.size x5).alloc (Nat.le_refl _) (.cells #[.int .i64 0, .int .u8 0, .slice none 0 0] 33))
      go_upto_region 6 with (first | (refine wpList_store_sch rfl _ _ rfl _ _ _ _ NB rfl (m2 : Int) (acc2 : Int) wa rs2.length wc rfl ?_; intro W6 SB hg' hs'; clear NB))
      have hbb := AL.out.grown hg' AL.out.size (by simp)
      have O6 := Lib.hid (O5.out.below hbb)
      have T6 := Lib.hid SB
      have D6 := Lib.hid (D5.out.trans (hbb.mono D5.out.size))
      have OW6 := Lib.hid (OW5.out.later hbb)
      clear hbb hg' hs' SB AL O5 D5 OW5
      rw [← hgt] at T6
      have hgb : W4.heap.size ≤ gt := by omega
      rw [← hgt]
      clear hgt
      obtain ⟨o0, o1, o2, o3, o4⟩ := O6.out.cells
      obtain ⟨t0, t1, t2⟩ := T6.out.cells
      have al := (Below.refl W6.heap.size W6).alloc (Nat.le_refl _) (.cells (rlCells o).toArray 29)
      have T7 := Lib.hid (T6.out.below al)
      have D7 := Lib.hid (D6.out.trans (al.mono D6.out.size))
      have OW7 := Lib.hid (OW6.out.later al)
      have NW := heap_alloc_new W6 (.cells (rlCells o).toArray 29)
      have hgt6 : gt < W6.heap.size := lt_of_heap T6.out
      go_upto_region 7 with (first | (at_builtin; refine wpList_append_rls rfl _ _ rfl W4.heap.size (.slice wa rs2.length wc) rs2 rfl OW7.out o W6.heap.size rfl NW (by omega) (by simp only [World.size_alloc]; omega) ?_; intro g8 c8 W8 own8 grow8; clear t0 t1 t2; have T8 := Lib.hid (T7.out.keptBy grow8 (fun e => by have := HLT.out _ e; omega)); obtain ⟨t0, t1, t2⟩ := T8.out.cells; have tf := T8.out.free) | fail)
      have D8 := Lib.hid (D7.out.grown grow8 D7.out.size (fun q hq => (HLT.out q hq).1))
      have hg8 : g8 ≠ gt := by
        rintro rfl
        rcases own8.2 with ⟨h, _⟩ | ⟨g, cap, cur, h, _, hh, _⟩
        · cases h
        · obtain rfl : g8 = g := by simp at h; exact h.1
          have h2 := T8.out
          unfold SchBlock at h2
          rw [h2] at hh
          have h3 := Option.some.inj hh
          injection h3 with _ h4 _
          exact absurd h4 (by decide)
      have D9 := Lib.hid (D8.out.setCell (p := ⟨gt, 2, none⟩) hgb (.slice (some ⟨g8, 0, none⟩) (rs2.length + 1) c8))
      have T9 := Lib.hid (T8.out.put2 (v := .slice (some ⟨g8, 0, none⟩) (rs2.length + 1) c8))
      have OW9 := Lib.hid (own8.keep1 (W' := W8.setCell ⟨gt, 2, none⟩ (.slice (some ⟨g8, 0, none⟩) (rs2.length + 1) c8)) (heap_setCell_other _ _ _ _ hg8))
      clear o0 o1 o2 o3 o4 t0 t1 t2 tf al T7 D7 OW7 NW own8 grow8 D8 T8 O6 T6 D6 OW6 HLT hg8
      generalize W8.setCell _ _ = W9 at *
      have S9 := Lib.hid (S4.out.below D9.out)
      have Y9 := Lib.hid (Y4.out.below D9.out)
      have X9 := Lib.hid (XS4.out.on D9.out)
      have B9 := Lib.hid (B4.out.trans (D9.out.mono B4.out.size))
      obtain ⟨rb, hrb⟩ : ∃ rb, rb = rs2 ++ [o] := ⟨_, rfl⟩
      have hrl : rb.length = rs2.length + 1 := by rw [hrb]; simp
      have HRB := Lib.hid hrb
      rw [← hrb, ← hrl] at OW9
      rw [← hrl] at T9
      rw [← hrl]
      obtain ⟨ba, bc, hbv, hbcap, hbat⟩ := OW9.out.at
      obtain ⟨rfl, rfl⟩ : some ⟨g8, 0, none⟩ = ba ∧ c8 = bc := by simpa using hbv
      have XB9 := Lib.hid hbat
      clear hbv hbat hrb D9 OW9 S4 Y4 XS4 B4 R4 O4
      have FS := Lib.hid (show ∀ W, Below W9.heap.size W9 W → (W.cell? ⟨gs, 0, none⟩ = some (.int .i64 (m1 : Nat)) ∧ W.cell? ⟨gs, 1, none⟩ = some (.int .u8 (acc1 : Nat)) ∧ W.cell? ⟨gs, 2, none⟩ = some (.slice va rs1.length vc)) ∧ (W.cell? ⟨gt, 0, none⟩ = some (.int .i64 (m2 : Nat)) ∧ W.cell? ⟨gt, 1, none⟩ = some (.int .u8 (acc2 : Nat)) ∧ W.cell? ⟨gt, 2, none⟩ = some (.slice (some ⟨g8, 0, none⟩) rb.length c8)) ∧ (W.cell? ⟨w.heap.size + 1, 0, none⟩ = some (.int .u8 k) ∧ W.cell? ⟨w.heap.size + 1, 1, none⟩ = some (.int .u8 d) ∧ W.cell? ⟨w.heap.size + 1, 2, none⟩ = some (.slice ya yn yc)) from
        fun W h => ⟨(S9.out.below h).cells, (T9.out.below h).cells, (Y9.out.below h).cells⟩)
      refine wp_normal ?_
      refine wp_region_pick (C := fun W => Below W9.heap.size W9 W) [0, 1, 2] [3, 4, 5] (fun j => decide (4 ≤ j)) (by kernel_rfl) (by kernel_rfl) (by kernel_rfl) rfl (by kernel_rfl) (Below.refl _ _).drew (fun c d v a w h => by cases h.1) ?_
      refine hoistI_step (.agg #[.int .i64 (m1 : Nat), .int .u8 (acc1 : Nat), .slice va rs1.length vc]) rfl (fun W hW => by obtain ⟨⟨f0, f1, f2⟩, -, -⟩ := FS.out W hW; go_simp) ?_
      refine hoistI_step (.agg #[.int .i64 (m2 : Nat), .int .u8 (acc2 : Nat), .slice (some ⟨g8, 0, none⟩) rb.length c8]) rfl (fun W hW => by obtain ⟨-, ⟨f0, f1, f2⟩, -⟩ := FS.out W hW; go_simp) ?_
      refine hoistI_step (.agg #[.int .u8 k, .int .u8 d, .slice ya yn yc]) rfl (fun W hW => by obtain ⟨-, -, f0, f1, f2⟩ := FS.out W hW; go_simp) ?_
      refine hoistI_done (seqI_step ?_)
      refine wpOp_call 9 #[.agg #[.int .u8 k, .int .u8 d, .slice ya yn yc]] rfl rfl (by go_simp) (Made_any k d ya yn yc W9.drew hk hd ((HY.out.on B9.out).on (Below.refl _ _).drew) hyl) ?_
      rintro e W10 ⟨⟨m3, b0, off, c3, rs3, rfl, hfit, hv3, -, hl9, hm31, hm32⟩, hb10⟩
      have D10 := Lib.hid ((Below.refl W9.heap.size W9).drew.trans hb10)
      obtain ⟨hc3, hat3⟩ := hfit.at
      have X10 := Lib.hid hat3
      have HV3 := Lib.hid hv3
      clear hb10 hfit hat3 hv3 FS S9 T9 Y9
      obtain ⟨m3, rfl⟩ : ∃ n : Nat, m3 = (n : Int) := ⟨m3.toNat, by omega⟩
      refine ⟨_, rfl, fun _ => D10.out, seqI_step ?_⟩
      have LBK := heap_alloc_new W10 (.cells #[.int .i64 (m1 : Nat), .int .u8 (acc1 : Nat), .slice va rs1.length vc, .int .i64 (m2 : Nat), .int .u8 (acc2 : Nat), .slice (some ⟨g8, 0, none⟩) rb.length c8, .int .i64 (m3 : Nat), .int .u8 1, .slice (some ⟨b0, off, none⟩) rs3.length c3] 33)
      have AL := (Below.refl W10.heap.size W10).alloc (Nat.le_refl _) (.cells #[.int .i64 (m1 : Nat), .int .u8 (acc1 : Nat), .slice va rs1.length vc, .int .i64 (m2 : Nat), .int .u8 (acc2 : Nat), .slice (some ⟨g8, 0, none⟩) rb.length c8, .int .i64 (m3 : Nat), .int .u8 1, .slice (some ⟨b0, off, none⟩) rs3.length c3] 33)
      refine wpOp_value (w' := W10.alloc (.cells #[.int .i64 (m1 : Nat), .int .u8 (acc1 : Nat), .slice va rs1.length vc, .int .i64 (m2 : Nat), .int .u8 (acc2 : Nat), .slice (some ⟨g8, 0, none⟩) rb.length c8, .int .i64 (m3 : Nat), .int .u8 1, .slice (some ⟨b0, off, none⟩) rs3.length c3] 33)) (.slice (some ⟨W10.heap.size, 0, none⟩) 3 3) rfl rfl (by go_simp) ⟨fun hh => absurd hh (by decide), ?_⟩
      have hlb : W10.heap.size < (W10.alloc (.cells #[.int .i64 (m1 : Nat), .int .u8 (acc1 : Nat), .slice va rs1.length vc, .int .i64 (m2 : Nat), .int .u8 (acc2 : Nat), .slice (some ⟨g8, 0, none⟩) rb.length c8, .int .i64 (m3 : Nat), .int .u8 1, .slice (some ⟨b0, off, none⟩) rs3.length c3] 33)).heap.size := by simp
      generalize W10.alloc _ = W11 at *
      have X1 := Lib.hid ((X9.out.on D10.out).on AL)
      have XB := Lib.hid ((XB9.out.on D10.out).on AL)
      have X3 := Lib.hid (X10.out.on AL)
      have BF := Lib.hid (B9.out.trans ((D10.out.trans (AL.mono D10.out.size)).mono B9.out.size))
      generalize W10.heap.size = lb at *
      have HLS := Lib.hid (show ∀ i, i < 3 → LsAt W11 lb i from fun i hi => by
        have hc : ∀ j, W11.cell? ⟨lb, j, none⟩ = _ := fun j => by simp only [World.cell?, LBK]; rfl
        rcases (show i = 0 ∨ i = 1 ∨ i = 2 by omega) with rfl | rfl | rfl
        · exact ⟨m1, acc1, va, vc, rs1, by rw [hc]; rfl, by rw [hc]; rfl, by rw [hc]; rfl, X1.out, hcap1, by omega, ok_lens HV1.out, h2561, by have := HM1.out; omega⟩
        · exact ⟨m2, acc2, _, c8, rb, by rw [hc]; rfl, by rw [hc]; rfl, by rw [hc]; rfl, XB.out, hbcap, by omega, fun x hx => by
            rw [HRB.out] at hx
            rcases List.mem_append.1 hx with h | h
            · exact ok_lens HV2.out x h
            · obtain rfl := List.mem_singleton.1 h
              exact HOL.out, h2562, by have := HM2.out; omega⟩
        · exact ⟨m3, 1, _, c3, rs3, by rw [hc]; rfl, by rw [hc]; rfl, by rw [hc]; rfl, X3.out, hc3, by omega, ok_lens HV3.out, by omega, by omega⟩)
      clear LBK AL X9 XB9 X10 D10 B9 X1 XB X3
      refine seqI_step ?_
      refine wpOp_value (w' := W11) (.slice (some ⟨lb, 0, none⟩) 3 3) rfl rfl (by go_simp) ⟨fun hh => absurd hh (by decide), ?_⟩
      refine seqI_done ⟨rfl, ?_⟩
      go_wp2_with fail
      have LS0 := Lib.hid (show ∀ i, i < 3 → LsAt W11 lb i from HLS.out)
      clear HLS
      go_loopw [11] (fun iv wr => ∃ n : Nat, iv = .int .i64 (n : Nat) ∧ n ≤ 3 ∧ Below W11.heap.size W11 wr) (fun iv _ => 3 - (intOf iv).toNat)
      case atStart => exact ⟨0, rfl, Nat.zero_le _, Below.refl _ _⟩
      case round =>
        obtain ⟨n, rfl, hn, hb⟩ := hrel
        have HB := Lib.hid hb
        have BR := Lib.hid (BF.out.trans (hb.mono BF.out.size))
        have n0 : (0 : Int) ≤ (n : Int) := by omega
        clear hb
        by_cases h1 : (n : Int) < 3
        · have hn3 : n < 3 := by omega
          obtain ⟨m, acc, a, c, rs, c0, c1, c2, hat, hcap, hl13, hz, hacc, hm⟩ := (LS0.out n hn3).on hlb HB.out
          have hlw : lb < wr.heap.size := Nat.lt_of_lt_of_le hlb HB.out.size
          have FW := Lib.hid (show ∀ W, Below wr.heap.size wr W → W.cell? ⟨lb, n * 3, none⟩ = some (.int .i64 (m : Nat)) ∧ W.cell? ⟨lb, n * 3 + 1, none⟩ = some (.int .u8 (acc : Nat)) ∧ W.cell? ⟨lb, n * 3 + 2, none⟩ = some (.slice a rs.length c) from
            fun W h => ⟨(h.cell (p := ⟨lb, _, none⟩) hlw).trans c0, (h.cell (p := ⟨lb, _, none⟩) hlw).trans c1, (h.cell (p := ⟨lb, _, none⟩) hlw).trans c2⟩)
          have CF := fun W (h : Below wr.heap.size wr W) => Lib.hid (Find_any m acc a c rs W (HT.out.below (BR.out.trans (h.mono BR.out.size)) H0.out) (Nat.lt_of_lt_of_le H0.out (BR.out.trans (h.mono BR.out.size)).size) hm hacc (hat.on h) hcap (by omega) hz)
          have CG := fun W (h : Below wr.heap.size wr W) => Lib.hid (RFind_any m acc a c rs W hacc (hat.on h) (by omega) hz)
          have CS := fun W (h : Below wr.heap.size wr W) => Lib.hid (Sound_any m acc a c rs W (HT.out.below (BR.out.trans (h.mono BR.out.size)) H0.out) (Nat.lt_of_lt_of_le H0.out (BR.out.trans (h.mono BR.out.size)).size) hm hacc (hat.on h) hcap (by omega) hz)
          have CT := fun W (h : Below wr.heap.size wr W) => Lib.hid (RSound_any m acc a c rs W hacc (hat.on h) (by omega) hz)
          obtain ⟨rp, hrp⟩ : ∃ rp, rp = repC m acc rs := ⟨_, rfl⟩
          have LN := Lib.hid (show (repC m acc rs).dead.length ≤ maxLen ∧ (repC m acc rs).stuck.length ≤ maxLen ∧ (repC m acc rs).endless.length ≤ maxLen from rep_lens (by omega) hm)
          simp only [← hrp] at CF CG LN
          have HSM := Lib.hid (show sameR rp rp = true from (sameR_iff rp rp).2 rfl)
          obtain ⟨Z, hZ⟩ : ∃ Z, Z = soundC m acc rs := ⟨_, rfl⟩
          simp only [← hZ] at CS CT
          clear c0 c1 c2 hat hrp hZ hz hcap
          go_upto_region 11 with fail
          refine wp_normal ?_
          refine held_start (S := fun W => Below wr.heap.size wr W) 25 (by kernel_rfl) rfl ?_
          have S0 := (Below.refl wr.heap.size wr).drew
          refine held_take 0 (.slice (some ⟨lb, 0, none⟩) 3 3) rfl (by kernel_rfl) (by kernel_rfl) (by kernel_rfl) (fun c a w h => by cases h.1) (by kernel_rfl) (fun W hW => by go_simp) S0 ?_
          refine held_take 1 (.int .i64 (n : Nat)) rfl (by kernel_rfl) (by kernel_rfl) (by kernel_rfl) (fun c a w h => by cases h.1) (by kernel_rfl) (fun W hW => by go_simp) S0 ?_
          refine held_take 2 (.pointer (some ⟨lb, n * 3, none⟩)) rfl (by kernel_rfl) (by kernel_rfl) (by kernel_rfl) (fun c a w h => by cases h.1) (by kernel_rfl) (fun W hW => by go_simp) S0 ?_
          refine held_take 3 (.agg #[.int .i64 (m : Nat), .int .u8 (acc : Nat), .slice a rs.length c]) rfl (by kernel_rfl) (by kernel_rfl) (by kernel_rfl) (fun c a w h => by cases h.1) (by kernel_rfl) (fun W hW => by obtain ⟨f0, f1, f2⟩ := FW.out W hW; go_simp) S0 ?_
          refine held_take 5 (.slice (some ⟨lb, 0, none⟩) 3 3) rfl (by kernel_rfl) (by kernel_rfl) (by kernel_rfl) (fun c a w h => by cases h.1) (by kernel_rfl) (fun W hW => by go_simp) S0 ?_
          refine held_take 6 (.int .i64 (n : Nat)) rfl (by kernel_rfl) (by kernel_rfl) (by kernel_rfl) (fun c a w h => by cases h.1) (by kernel_rfl) (fun W hW => by go_simp) S0 ?_
          refine held_take 7 (.pointer (some ⟨lb, n * 3, none⟩)) rfl (by kernel_rfl) (by kernel_rfl) (by kernel_rfl) (fun c a w h => by cases h.1) (by kernel_rfl) (fun W hW => by go_simp) S0 ?_
          refine held_take 8 (.agg #[.int .i64 (m : Nat), .int .u8 (acc : Nat), .slice a rs.length c]) rfl (by kernel_rfl) (by kernel_rfl) (by kernel_rfl) (fun c a w h => by cases h.1) (by kernel_rfl) (fun W hW => by obtain ⟨f0, f1, f2⟩ := FW.out W hW; go_simp) S0 ?_
          refine held_call 4 11 #[.agg #[.int .i64 (m : Nat), .int .u8 (acc : Nat), .slice a rs.length c]] rfl (by kernel_rfl) (by kernel_rfl) (by go_simp) (CF _ S0).out ?_
          rintro e Wa ⟨v1, rfl, hr1, hb1⟩
          have S1 : Below wr.heap.size wr Wa := S0.trans (hb1.mono S0.size)
          have R1 := Lib.hid hr1
          clear hr1 hb1
          refine ⟨_, rfl, S1, ?_⟩
          refine held_call 9 12 #[.agg #[.int .i64 (m : Nat), .int .u8 (acc : Nat), .slice a rs.length c]] rfl (by kernel_rfl) (by kernel_rfl) (by go_simp) (CG _ S1).out ?_
          rintro e Wb ⟨v2, rfl, hr2, hb2⟩
          have S2 : Below wr.heap.size wr Wb := S1.trans (hb2.mono S1.size)
          have R2 := Lib.hid hr2
          have R12 := Lib.hid (R1.out.on hb2)
          clear hr2 hb2 R1
          refine ⟨_, rfl, S2, ?_⟩
          refine held_call 10 10 #[v1, v2] rfl (by kernel_rfl) (by kernel_rfl) (by go_simp) (FSame_any _ _ v1 v2 Wb R12.out R2.out LN.out.1 LN.out.2.1 LN.out.2.2) ?_
          rintro e Wc ⟨rfl, hb3⟩
          have S3 : Below wr.heap.size wr Wc := S2.trans (hb3.mono S2.size)
          rw [HSM.out]
          clear hb3 R12 R2
          refine ⟨_, rfl, S3, ?_⟩
          refine held_take 11 (.bool false) rfl (by kernel_rfl) (by kernel_rfl) (by kernel_rfl) (fun c a w h => by cases h.1) (by kernel_rfl) (fun W hW => by go_simp) S3 ?_
          refine held_take 12 (.bool false) rfl (by kernel_rfl) (by kernel_rfl) (by kernel_rfl) (fun c a w h => by cases h.1) (by kernel_rfl) (fun W hW => by go_simp) S3 ?_
          refine held_take 13 (.slice (some ⟨lb, 0, none⟩) 3 3) rfl (by kernel_rfl) (by kernel_rfl) (by kernel_rfl) (fun c a w h => by cases h.1) (by kernel_rfl) (fun W hW => by go_simp) S3 ?_
          refine held_take 14 (.int .i64 (n : Nat)) rfl (by kernel_rfl) (by kernel_rfl) (by kernel_rfl) (fun c a w h => by cases h.1) (by kernel_rfl) (fun W hW => by go_simp) S3 ?_
          refine held_take 15 (.pointer (some ⟨lb, n * 3, none⟩)) rfl (by kernel_rfl) (by kernel_rfl) (by kernel_rfl) (fun c a w h => by cases h.1) (by kernel_rfl) (fun W hW => by go_simp) S3 ?_
          refine held_take 16 (.agg #[.int .i64 (m : Nat), .int .u8 (acc : Nat), .slice a rs.length c]) rfl (by kernel_rfl) (by kernel_rfl) (by kernel_rfl) (fun c a w h => by cases h.1) (by kernel_rfl) (fun W hW => by obtain ⟨f0, f1, f2⟩ := FW.out W hW; go_simp) S3 ?_
          refine held_take 18 (.slice (some ⟨lb, 0, none⟩) 3 3) rfl (by kernel_rfl) (by kernel_rfl) (by kernel_rfl) (fun c a w h => by cases h.1) (by kernel_rfl) (fun W hW => by go_simp) S3 ?_
          refine held_take 19 (.int .i64 (n : Nat)) rfl (by kernel_rfl) (by kernel_rfl) (by kernel_rfl) (fun c a w h => by cases h.1) (by kernel_rfl) (fun W hW => by go_simp) S3 ?_
          refine held_take 20 (.pointer (some ⟨lb, n * 3, none⟩)) rfl (by kernel_rfl) (by kernel_rfl) (by kernel_rfl) (fun c a w h => by cases h.1) (by kernel_rfl) (fun W hW => by go_simp) S3 ?_
          refine held_take 21 (.agg #[.int .i64 (m : Nat), .int .u8 (acc : Nat), .slice a rs.length c]) rfl (by kernel_rfl) (by kernel_rfl) (by kernel_rfl) (fun c a w h => by cases h.1) (by kernel_rfl) (fun W hW => by obtain ⟨f0, f1, f2⟩ := FW.out W hW; go_simp) S3 ?_
          refine held_call 17 13 #[.agg #[.int .i64 (m : Nat), .int .u8 (acc : Nat), .slice a rs.length c]] rfl (by kernel_rfl) (by kernel_rfl) (by go_simp) (CS _ S3).out ?_
          rintro e Wd ⟨rfl, hb4⟩
          have S4 : Below wr.heap.size wr Wd := S3.trans (hb4.mono S3.size)
          clear hb4
          refine ⟨_, rfl, S4, ?_⟩
          refine held_call 22 14 #[.agg #[.int .i64 (m : Nat), .int .u8 (acc : Nat), .slice a rs.length c]] rfl (by kernel_rfl) (by kernel_rfl) (by go_simp) (CT _ S4).out ?_
          rintro e We ⟨rfl, hb5⟩
          have S5 : Below wr.heap.size wr We := S4.trans (hb5.mono S4.size)
          clear hb5
          refine ⟨_, rfl, S5, ?_⟩
          refine held_take 23 (.bool false) rfl (by kernel_rfl) (by kernel_rfl) (by kernel_rfl) (fun c a w h => by cases h.1) (by kernel_rfl) (fun W hW => by go_simp) S5 ?_
          refine held_take 24 (.bool false) rfl (by kernel_rfl) (by kernel_rfl) (by kernel_rfl) (fun c a w h => by cases h.1) (by kernel_rfl) (fun W hW => by go_simp) S5 ?_
          refine held_done_as (b := ({ tmps := #[Value.agg #[Value.int IntKind.u8 ↑M, Value.int IntKind.u8 ↑A, Value.slice ma mn mc], Value.agg #[Value.int IntKind.u8 k, Value.int IntKind.u8 d, Value.slice ya yn yc], rlV o, Value.pointer (some { block := w.heap.size, off := 0 }), Value.pointer (some { block := w.heap.size + 1, off := 0 }), Value.pointer (some { block := w.heap.size + 1 + 1, off := 0 }), u6, Value.bool true, Value.pointer (some { block := gs, off := 0 }), Value.pointer (some { block := gt, off := 0 }), Value.slice (some { block := lb, off := 0 }) 3 3, Value.int IntKind.i64 ↑n, Value.bool true, Value.pointer (some { block := w.heap.size + 1 + 1, off := 2 }), Value.string (B o.inp), Value.int IntKind.i64 ↑(B o.inp).size, Value.bool (decide ((20 : Int) < ((B o.inp).size : Int))), Value.bool (decide ((20 : Int) < ((B o.inp).size : Int))), Value.pointer (some { block := w.heap.size + 1 + 1, off := 3 }), Value.string (B o.out), Value.int IntKind.i64 ↑(B o.out).size, Value.bool (decide ((20 : Int) < ((B o.out).size : Int))), Value.bool (decide ((20 : Int) < ((B o.inp).size : Int)) || decide ((20 : Int) < ((B o.out).size : Int))), undef, Value.agg #[Value.int IntKind.u8 ↑M, Value.int IntKind.u8 ↑A, Value.slice ma mn mc], Value.agg #[Value.int IntKind.i64 ↑m1, Value.int IntKind.u8 ↑acc1, Value.slice va rs1.length vc], Value.agg #[Value.int IntKind.u8 ↑M, Value.int IntKind.u8 ↑A, Value.slice ma mn mc], Value.agg #[Value.int IntKind.i64 ↑m2, Value.int IntKind.u8 ↑acc2, Value.slice wa rs2.length wc], Value.pointer (some { block := gt, off := 2 }), Value.slice wa rs2.length wc, Value.agg #[Value.int IntKind.i64 o.src, Value.int IntKind.i64 o.dst, Value.string (B o.inp), Value.string (B o.out), Value.int IntKind.i64 o.cost], Value.slice (some { block := W6.heap.size, off := 0 }) 1 1, Value.slice (some { block := g8, off := 0 }) (rs2.length + 1) c8, Value.pointer (some { block := gt, off := 2 }), Value.agg #[Value.int IntKind.i64 ↑m1, Value.int IntKind.u8 ↑acc1, Value.slice va rs1.length vc], Value.agg #[Value.int IntKind.i64 ↑m2, Value.int IntKind.u8 ↑acc2, Value.slice (some { block := g8, off := 0 }) (rs2.length + 1) c8], Value.agg #[Value.int IntKind.u8 k, Value.int IntKind.u8 d, Value.slice ya yn yc], Value.agg #[Value.int IntKind.i64 ↑m3, Value.int IntKind.u8 1, Value.slice (some { block := b0, off := off }) rs3.length c3], Value.slice (some { block := lb, off := 0 }) 3 3, Value.int IntKind.i64 ↑n, Value.bool true, u41, u42, (.slice (some ⟨lb, 0, none⟩) 3 3), (.int .i64 (n : Nat)), (.pointer (some ⟨lb, n * 3, none⟩)), (.agg #[.int .i64 (m : Nat), .int .u8 (acc : Nat), .slice a rs.length c]), v1, (.slice (some ⟨lb, 0, none⟩) 3 3), (.int .i64 (n : Nat)), (.pointer (some ⟨lb, n * 3, none⟩)), (.agg #[.int .i64 (m : Nat), .int .u8 (acc : Nat), .slice a rs.length c]), v2, (.bool true), (.bool false), (.bool false), (.slice (some ⟨lb, 0, none⟩) 3 3), (.int .i64 (n : Nat)), (.pointer (some ⟨lb, n * 3, none⟩)), (.agg #[.int .i64 (m : Nat), .int .u8 (acc : Nat), .slice a rs.length c]), (.int .i64 Z), (.slice (some ⟨lb, 0, none⟩) 3 3), (.int .i64 (n : Nat)), (.pointer (some ⟨lb, n * 3, none⟩)), (.agg #[.int .i64 (m : Nat), .int .u8 (acc : Nat), .slice a rs.length c]), (.int .i64 Z), (.bool false), (.bool false), undef], defers := [] } : Act)) (by kernel_rfl) (by kernel_rfl) ⟨rfl, ?_⟩
          have BE := Lib.hid (HB.out.trans (S5.mono HB.out.size))
          clear CF CG CS CT FW LN HSM S0 S1 S2 S3 S4 S5
          go_wp2_with fail
          go_roundw
          case rel => exact ⟨n + 1, by go_num, by omega, BE.out⟩
          case measure => simp [intOf]; omega
        · go_wp2_with fail
          go_ret
          exact ⟨rfl, BR.out⟩
end Go.Proofs.YtendieoandclkaaDoor

namespace Go.Proofs.YtendieoandclkaaDoor
open Go.ChangeShapes Go.WideShapes Go.ChangeAt Go.RowKit Go.ChangeMaps
open Pl

theorem cellsU8s : Tryd.prog.cellsOf 49 = 1 := by kernel_rfl
theorem cellsRaw : Tryd.prog.cellsOf 27 = 3 := by kernel_rfl
theorem cellsRawRules : Tryd.prog.cellsOf 25 = 1 := by kernel_rfl
theorem cellsRawRule : Tryd.prog.cellsOf 68 = 5 := by kernel_rfl
theorem rec27 : Tryd.prog.readableRec 27 = true := by kernel_rfl
theorem row27 : 27 < Tryd.prog.types.size := of_decide_eq_true (by kernel_rfl)
theorem cells49 : Tryd.prog.cellsOf 5 = 1 := by kernel_rfl
set_option maxRecDepth 100000 in
theorem bytes_open {H : Type} {enc : TypeId × Value → H} {W : World} {v : Value} {x : DataW H × List MemPlace} {fuel : Nat} (h : DataW.trod enc Tryd.prog W 0 (fun _ => true) true fuel 49 [v] = some x) :
    ∃ a n c, v = .slice a n c ∧ n ≤ maxLen ∧ BytesAt W W.heap.size v n := by
  rcases Deep.open_slice1 Tryd.underlying49 cells49 h with ⟨h0, _⟩ | ⟨a, len, cap, m, n, V, D, Pl, hcs, _, hl, hc, hm, _, hx⟩
  · obtain rfl : v = .slice none 0 0 := by simpa using h0
    exact ⟨none, 0, 0, rfl, Nat.zero_le _, none, 0, rfl, fun h => absurd h (Nat.lt_irrefl _)⟩
  · obtain rfl : v = .slice (some a) len cap := by simpa using hcs
    simp only [if_true] at hm
    subst hm
    refine ⟨some a, len, m, rfl, Nat.le_trans hl hc, some a, m, rfl, fun hp => ?_⟩
    have h1 := (hx 0 (by omega)).1
    have hs : a.spot = none := by simpa [Addr.add] using World.cell?_spot h1
    obtain ⟨b, off, spot⟩ := a
    obtain rfl : spot = none := hs
    rw [add_none] at h1
    refine ⟨b, off, rfl, World.block_lt_of_cell? W _ h1, fun i hi => ?_⟩
    obtain ⟨h2, h3⟩ := hx i (by omega)
    obtain ⟨y, hy, -, hw⟩ := DataW.trod_int Tryd.underlying5 h3
    have hv : V i = .int .u8 y := by simpa using hy
    have bd := bounds_u8 hw
    rw [add_none, hv] at h2
    exact ⟨y, h2, bd.1, bd.2⟩
set_option maxRecDepth 100000 in
theorem rawRule_cells {H : Type} {enc : TypeId × Value → H} {W : World} {cs : List Value} {x : DataW H × List MemPlace} {fuel : Nat} (hlen : cs.length = 5) (hf : DataW.trod enc Tryd.prog W 0 (fun _ => true) true fuel 68 cs = some x) :
    ∃ (la oa : Option Addr) (lc oc : Nat) (f t k : Int) (xs ys : List Int), cs = [.slice la xs.length lc, .slice oa ys.length oc, .int .u8 f, .int .u8 t, .int .u8 k] ∧ BytesIs W W.heap.size (.slice la xs.length lc) xs ∧ BytesIs W W.heap.size (.slice oa ys.length oc) ys ∧ xs.length ≤ maxLen ∧ ys.length ≤ maxLen ∧ (0 ≤ f ∧ f ≤ 255) ∧ (0 ≤ t ∧ t ≤ 255) ∧ (0 ≤ k ∧ k ≤ 255) := by
  match cs, hlen with
  | [x0, x1, x2, x3, x4], _ =>
    obtain ⟨zs, f', _, _, _, hlen, hg⟩ := DataW.trod_struct Tryd.underlying68 hf
    match zs, hlen with
    | [y0, y1, y2, y3, y4], _ =>
      have g0 : DataW.trod enc Tryd.prog W 0 (fun _ => true) true f' 49 [x0] = some y0 := by simpa [Value.cells, cellsU8s] using hg 0 _ rfl
      have g1 : DataW.trod enc Tryd.prog W 0 (fun _ => true) true f' 49 [x1] = some y1 := by simpa [Value.cells, cellsU8s] using hg 1 _ rfl
      have g2 : DataW.trod enc Tryd.prog W 0 (fun _ => true) true f' 5 [x2] = some y2 := by simpa [Value.cells, cellsU8] using hg 2 _ rfl
      have g3 : DataW.trod enc Tryd.prog W 0 (fun _ => true) true f' 5 [x3] = some y3 := by simpa [Value.cells, cellsU8] using hg 3 _ rfl
      have g4 : DataW.trod enc Tryd.prog W 0 (fun _ => true) true f' 5 [x4] = some y4 := by simpa [Value.cells, cellsU8] using hg 4 _ rfl
      obtain ⟨f, hf, -, wf⟩ := DataW.trod_int Tryd.underlying5 g2
      obtain ⟨t, ht, -, wt⟩ := DataW.trod_int Tryd.underlying5 g3
      obtain ⟨k, hk, -, wk⟩ := DataW.trod_int Tryd.underlying5 g4
      obtain rfl : x2 = .int .u8 f := by simpa using hf
      obtain rfl : x3 = .int .u8 t := by simpa using ht
      obtain rfl : x4 = .int .u8 k := by simpa using hk
      obtain ⟨la, ln, lc, rfl, hln, hL⟩ := bytes_open g0
      obtain ⟨oa, on, oc, rfl, hon, hO⟩ := bytes_open g1
      obtain ⟨xs, rfl, hX⟩ := BytesIs.of hL
      obtain ⟨ys, rfl, hY⟩ := BytesIs.of hO
      exact ⟨la, oa, lc, oc, f, t, k, xs, ys, rfl, hX, hY, hln, hon, bounds_u8 wf, bounds_u8 wt, bounds_u8 wk⟩
set_option maxRecDepth 100000 in
theorem rawRules_open {H : Type} {enc : TypeId × Value → H} {W : World} {v : Value} {x : DataW H × List MemPlace} {fuel : Nat} (hf : DataW.trod enc Tryd.prog W 0 (fun _ => true) true fuel 25 [v] = some x) :
    ∃ (a : Option Addr) (n c : Nat), v = .slice a n c ∧ n ≤ maxLen ∧ RawsAt W W.heap.size (.slice a n c) n := by
  rcases Deep.open_slice Tryd.underlying25 hf with ⟨h0, _⟩ | ⟨a, len, cap, m, n, D, Pl, hcs, _, hl, hc, hm, _, hx⟩
  · obtain rfl : v = .slice none 0 0 := by simpa using h0
    exact ⟨none, 0, 0, rfl, Nat.zero_le _, none, 0, rfl, fun h => absurd h (Nat.lt_irrefl _)⟩
  · obtain rfl : v = .slice (some a) len cap := by simpa using hcs
    simp only [if_true] at hm
    subst hm
    rw [cellsRawRule] at hx
    have each : ∀ i, i < m → ∃ (la oa : Option Addr) (lc oc : Nat) (f t k : Int) (xs ys : List Int), W.cell? ((a.add (i * 5)).add 0) = some (.slice la xs.length lc) ∧ W.cell? ((a.add (i * 5)).add 1) = some (.slice oa ys.length oc) ∧ W.cell? ((a.add (i * 5)).add 2) = some (.int .u8 f) ∧ W.cell? ((a.add (i * 5)).add 3) = some (.int .u8 t) ∧ W.cell? ((a.add (i * 5)).add 4) = some (.int .u8 k) ∧
        BytesIs W W.heap.size (.slice la xs.length lc) xs ∧ BytesIs W W.heap.size (.slice oa ys.length oc) ys ∧ xs.length ≤ maxLen ∧ ys.length ≤ maxLen ∧ (0 ≤ f ∧ f ≤ 255) ∧ (0 ≤ t ∧ t ≤ 255) ∧ (0 ≤ k ∧ k ≤ 255) := fun i hi => by
      obtain ⟨cs, h1, h2⟩ := hx i hi
      obtain ⟨_, hlen, hat⟩ := World.cells?_some h1
      obtain ⟨la, oa, lc, oc, f, t, k, xs, ys, rfl, hR⟩ := rawRule_cells hlen h2
      exact ⟨la, oa, lc, oc, f, t, k, xs, ys, by simpa using hat 0 (by omega), by simpa using hat 1 (by omega), by simpa using hat 2 (by omega), by simpa using hat 3 (by omega), by simpa using hat 4 (by omega), hR⟩
    refine ⟨some a, len, m, rfl, Nat.le_trans hl hc, some a, m, rfl, fun hp => ?_⟩
    obtain ⟨_, _, _, _, _, _, _, _, _, h1, -⟩ := each 0 (by omega)
    have hs : a.spot = none := by simpa [Addr.add] using World.cell?_spot h1
    obtain ⟨b, off, spot⟩ := a
    obtain rfl : spot = none := hs
    rw [add_none, add_none] at h1
    refine ⟨b, off, rfl, World.block_lt_of_cell? W _ h1, fun i hi => ?_⟩
    obtain ⟨la, oa, lc, oc, f, t, k, xs, ys, e0, e1, e2, e3, e4, hR⟩ := each i (by omega)
    rw [add_none, add_none] at e0 e1 e2 e3 e4
    exact ⟨la, oa, lc, oc, f, t, k, xs, ys, e0, e1, e2, e3, e4, hR⟩
set_option maxRecDepth 100000 in
theorem open_tRaw {H : Type} {enc : TypeId × Value → H} {W : World} {r : Reach} {base : Nat} {v : Value} {d : DataW H} {p : List MemPlace} (hv : Value.okWide Tryd.prog W r base 27 v) (h : DataW.Trod enc Tryd.prog W 0 (fun _ => true) true 27 v d p) :
    ∃ o : Int × Int × Option Addr × Nat × Nat, v = .agg #[.int .u8 o.1, .int .u8 o.2.1, .slice o.2.2.1 o.2.2.2.1 o.2.2.2.2] ∧ (0 ≤ o.1 ∧ o.1 ≤ 255) ∧ (0 ≤ o.2.1 ∧ o.2.1 ≤ 255) ∧ o.2.2.2.1 ≤ maxLen ∧ RawsAt W W.heap.size (.slice o.2.2.1 o.2.2.2.1 o.2.2.2.2) o.2.2.2.1 := by
  obtain ⟨cs, rfl, hsz⟩ := okWide_struct Tryd.underlying27 hv
  rw [cellsRaw] at hsz
  obtain ⟨l⟩ := cs
  match l, hsz with
  | [x0, x1, x2], _ =>
    obtain ⟨fuel, hf⟩ := h
    obtain ⟨xs, f', _, _, _, hlen, hg⟩ := DataW.trod_struct Tryd.underlying27 hf
    match xs, hlen with
    | [y0, y1, y2], _ =>
      have g0 : DataW.trod enc Tryd.prog W 0 (fun _ => true) true f' 5 [x0] = some y0 := by simpa [Value.cells, cellsU8] using hg 0 _ rfl
      have g1 : DataW.trod enc Tryd.prog W 0 (fun _ => true) true f' 5 [x1] = some y1 := by simpa [Value.cells, cellsU8] using hg 1 _ rfl
      have g2 : DataW.trod enc Tryd.prog W 0 (fun _ => true) true f' 25 [x2] = some y2 := by simpa [Value.cells, cellsRawRules] using hg 2 _ rfl
      obtain ⟨k, hk, -, wk⟩ := DataW.trod_int Tryd.underlying5 g0
      obtain ⟨n, hn, -, wn⟩ := DataW.trod_int Tryd.underlying5 g1
      obtain rfl : x0 = .int .u8 k := by simpa using hk
      obtain rfl : x1 = .int .u8 n := by simpa using hn
      obtain ⟨a, len, c, rfl, hl, hR⟩ := rawRules_open g2
      exact ⟨(k, n, a, len, c), rfl, bounds_u8 wk, bounds_u8 wn, hl, hR⟩
set_option maxRecDepth 100000 in
theorem back_tRaw {H : Type} {enc : TypeId × Value → H} {W W' : World} {v : Value} {d : DataW H} {p : List MemPlace} (h : DataW.Trod enc Tryd.prog W 0 (fun _ => true) true 27 v d p) (hb : Below W.heap.size W W') :
    DataW.Trod enc Tryd.prog W' 0 (fun b => decide (b < W.heap.size)) true 27 v d p :=
  Below.trod raw_out rec27 row27 h hb (DataW.TrodAll.lt (trodAll_mk1 h))
theorem cellsInt : Tryd.prog.cellsOf 3 = 1 := by kernel_rfl
theorem cellsStr : Tryd.prog.cellsOf 9 = 1 := by kernel_rfl
theorem cellsRule : Tryd.prog.cellsOf 29 = 5 := by kernel_rfl
theorem rec29 : Tryd.prog.readableRec 29 = true := by kernel_rfl
theorem row29 : 29 < Tryd.prog.types.size := of_decide_eq_true (by kernel_rfl)
set_option maxRecDepth 100000 in
theorem rule_cells {H : Type} {enc : TypeId × Value → H} {W : World} {cs : List Value} {x : DataW H × List MemPlace} {fuel : Nat} (hlen : cs.length = 5) (hf : DataW.trod enc Tryd.prog W 0 (fun _ => true) true fuel 29 cs = some x) :
    ∃ r : Rl, cs = [.int .i64 r.src, .int .i64 r.dst, .string (B r.inp), .string (B r.out), .int .i64 r.cost] ∧ r.inp.length ≤ maxLen ∧ r.out.length ≤ maxLen := by
  match cs, hlen with
  | [x0, x1, x2, x3, x4], _ =>
    obtain ⟨zs, f', _, _, _, hlen, hg⟩ := DataW.trod_struct Tryd.underlying29 hf
    match zs, hlen with
    | [y0, y1, y2, y3, y4], _ =>
      have g0 : DataW.trod enc Tryd.prog W 0 (fun _ => true) true f' 3 [x0] = some y0 := by simpa [Value.cells, cellsInt] using hg 0 _ rfl
      have g1 : DataW.trod enc Tryd.prog W 0 (fun _ => true) true f' 3 [x1] = some y1 := by simpa [Value.cells, cellsInt] using hg 1 _ rfl
      have g2 : DataW.trod enc Tryd.prog W 0 (fun _ => true) true f' 9 [x2] = some y2 := by simpa [Value.cells, cellsStr] using hg 2 _ rfl
      have g3 : DataW.trod enc Tryd.prog W 0 (fun _ => true) true f' 9 [x3] = some y3 := by simpa [Value.cells, cellsStr] using hg 3 _ rfl
      have g4 : DataW.trod enc Tryd.prog W 0 (fun _ => true) true f' 3 [x4] = some y4 := by simpa [Value.cells, cellsInt] using hg 4 _ rfl
      obtain ⟨a, ha, -, -⟩ := DataW.trod_int Tryd.underlying3 g0
      obtain ⟨b, hb, -, -⟩ := DataW.trod_int Tryd.underlying3 g1
      obtain ⟨s, hs, -, ls⟩ := DataW.trod_string Tryd.underlying9 g2
      obtain ⟨t, ht, -, lt⟩ := DataW.trod_string Tryd.underlying9 g3
      obtain ⟨c, hc, -, -⟩ := DataW.trod_int Tryd.underlying3 g4
      obtain rfl : x0 = .int .i64 a := by simpa using ha
      obtain rfl : x1 = .int .i64 b := by simpa using hb
      obtain rfl : x2 = .string s := by simpa using hs
      obtain rfl : x3 = .string t := by simpa using ht
      obtain rfl : x4 = .int .i64 c := by simpa using hc
      exact ⟨⟨a, b, s.data.toList, t.data.toList, c⟩, by dsimp only; rw [B_toList, B_toList], by dsimp only; rw [length_toList]; exact ls, by dsimp only; rw [length_toList]; exact lt⟩
set_option maxRecDepth 100000 in
theorem open_tRule {H : Type} {enc : TypeId × Value → H} {W : World} {r : Reach} {base : Nat} {v : Value} {d : DataW H} {p : List MemPlace} (hv : Value.okWide Tryd.prog W r base 29 v) (h : DataW.Trod enc Tryd.prog W 0 (fun _ => true) true 29 v d p) :
    ∃ o : Rl, v = rlV o ∧ o.inp.length ≤ maxLen ∧ o.out.length ≤ maxLen := by
  obtain ⟨cs, rfl, hsz⟩ := okWide_struct Tryd.underlying29 hv
  rw [cellsRule] at hsz
  obtain ⟨l⟩ := cs
  obtain ⟨fuel, hf⟩ := h
  obtain ⟨r, hr, h1, h2⟩ := rule_cells (by simpa using hsz) (by simpa [Value.cells] using hf)
  exact ⟨r, by rw [show l = _ from by simpa using hr], h1, h2⟩
set_option maxRecDepth 100000 in
theorem back_tRule {H : Type} {enc : TypeId × Value → H} {W W' : World} {v : Value} {d : DataW H} {p : List MemPlace} (h : DataW.Trod enc Tryd.prog W 0 (fun _ => true) true 29 v d p) (hb : Below W.heap.size W W') :
    DataW.Trod enc Tryd.prog W' 0 (fun b => decide (b < W.heap.size)) true 29 v d p :=
  Below.trod raw_out rec29 row29 h hb (DataW.TrodAll.lt (trodAll_mk1 h))
theorem matches_any (o : Nat × Nat × Option Addr × Nat × Nat) (q : Int × Int × Option Addr × Nat × Nat) (r : Rl) (w : World) (hT : StrTab w) (h0 : 0 < w.heap.size) (ho : o.1 < 256 ∧ o.2.1 < 256 ∧ o.2.2.2.1 ≤ maxLen ∧ TrisAt w w.heap.size (.slice o.2.2.1 o.2.2.2.1 o.2.2.2.2) o.2.2.2.1) (hq : (0 ≤ q.1 ∧ q.1 ≤ 255) ∧ (0 ≤ q.2.1 ∧ q.2.1 ≤ 255) ∧ q.2.2.2.1 ≤ maxLen ∧ RawsAt w w.heap.size (.slice q.2.2.1 q.2.2.2.1 q.2.2.2.2) q.2.2.2.1) (hr : r.inp.length ≤ maxLen ∧ r.out.length ≤ maxLen) :
    Calls Tryd.prog 3 #[.agg #[.int .u8 (o.1 : Nat), .int .u8 (o.2.1 : Nat), .slice o.2.2.1 o.2.2.2.1 o.2.2.2.2], .agg #[.int .u8 q.1, .int .u8 q.2.1, .slice q.2.2.1 q.2.2.2.1 q.2.2.2.2], rlV r] w fun e w' => e = .returned (.bool true) ∧ Below w.heap.size w w' :=
  FlawMatches_any o.1 o.2.1 o.2.2.1 o.2.2.2.1 o.2.2.2.2 q.1 q.2.1 q.2.2.1 q.2.2.2.1 q.2.2.2.2 r w hT h0 ho.1 ho.2.1 ho.2.2.2 ho.2.2.1 hq.1 hq.2.1 hq.2.2.2 hq.2.2.1 hr
end Go.Proofs.YtendieoandclkaaDoor
