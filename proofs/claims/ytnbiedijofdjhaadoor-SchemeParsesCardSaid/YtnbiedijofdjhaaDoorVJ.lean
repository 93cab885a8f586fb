/-
  The reference's Made.
-/
import Derived.Test.YtnbiedijofdjhaaDoorVI
namespace Go.Proofs.YtnbiedijofdjhaaDoor
open Go.RowKit
open Pl

/-- What Made answers: a valid scheme of 2 to 9 rules, in rows of the call's own. -/
def MadePost (w : World) (e : Ending) (w' : World) : Prop := (∃ (m : Int) (b0 off c : Nat) (rs : List Rl), e = .returned (.agg #[.int .i64 m, .int .u8 1, .slice (some ⟨b0, off, none⟩) rs.length c]) ∧ RlsFit w' w.heap.size b0 off c rs ∧ validB m 1 rs = true ∧ 2 ≤ rs.length ∧ rs.length ≤ 9 ∧ 1 ≤ m ∧ m ≤ 2) ∧ Below w.heap.size w w'
theorem layMd (w : World) (k d : Int) (v : Value) : RwBlock ((w.alloc (.cells #[.int .u8 k, .int .u8 d, v] 27)).alloc (.cells #[.int .i64 0, .int .u8 0, .slice none 0 0] 24)) w.heap.size k d v ∧ SchBlock ((w.alloc (.cells #[.int .u8 k, .int .u8 d, v] 27)).alloc (.cells #[.int .i64 0, .int .u8 0, .slice none 0 0] 24)) (w.heap.size + 1) (.int .i64 0) (.int .u8 0) (.slice none 0 0) ∧ Below w.heap.size w ((w.alloc (.cells #[.int .u8 k, .int .u8 d, v] 27)).alloc (.cells #[.int .i64 0, .int .u8 0, .slice none 0 0] 24)) ∧ ((w.alloc (.cells #[.int .u8 k, .int .u8 d, v] 27)).alloc (.cells #[.int .i64 0, .int .u8 0, .slice none 0 0] 24)).heap.size = w.heap.size + 2 := by
  refine ⟨RwBlock.below (show RwBlock (w.alloc (.cells #[.int .u8 k, .int .u8 d, v] 27)) w.heap.size k d v from heap_alloc_new w _) ((Below.refl _ _).alloc (Nat.le_refl _) _), ?_, ((Below.refl _ _).alloc (Nat.le_refl _) _).alloc (by simp) _, by simp⟩
  have := SchBlock.new (w.alloc (.cells #[.int .u8 k, .int .u8 d, v] 27)) (.int .i64 0) (.int .u8 0) (.slice none 0 0)
  rw [World.size_alloc] at this
  exact this
theorem base_drop (j q : Nat) (hj : j < 6) (hq : q < 2) : validB (baseM j) 1 ((baseL j).drop q) = true := by
  rcases (show q = 0 ∨ q = 1 by omega) with rfl | rfl
  · exact (base_valid j hj).1
  · exact (base_valid j hj).2.1
theorem baseM_le (j : Nat) : 1 ≤ baseM j ∧ baseM j ≤ 2 := by unfold baseM; split <;> decide
set_option maxHeartbeats 2000000 in
set_option maxRecDepth 100000 in
theorem Made_any (k d : Int) (ma : Option Addr) (mn mc : Nat) (w : World) (hk : 0 ≤ k ∧ k ≤ 255) (hd : 0 ≤ d ∧ d ≤ 255) (hx : RawsAt w w.heap.size (.slice ma mn mc) mn) (hl : mn ≤ maxLen) :
    Calls Tryd.prog 16 #[.agg #[.int .u8 k, .int .u8 d, .slice ma mn mc]] w (MadePost w) := by
  obtain ⟨k0, k1, hb, hsz⟩ := layMd w k d (.slice ma mn mc)
  have HX := Lib.hid hx
  have HB := Lib.hid hb
  have RW := Lib.hid k0
  have SQ := Lib.hid k1
  have HSZ := Lib.hid hsz
  obtain ⟨z0, z1, z2⟩ := k0.cells
  unfold maxLen at hl
  obtain ⟨q, hq, hq2⟩ : ∃ q : Nat, d.tmod 2 = (q : Int) ∧ q < 2 := ⟨(d.tmod 2).toNat, by rw [Int.tmod_eq_emod_of_nonneg hd.1]; omega, by rw [Int.tmod_eq_emod_of_nonneg hd.1]; omega⟩
  have hwq : IntKind.i64.wrap (q : Int) = (q : Int) := IntWalk.i64_in _ (by omega)
  have CB := fun W => Lib.hid (Base_any k W hk.1)
  clear hx hb k0 k1 hsz
  go_enter Tryd.func16, Tryd.ntmps16
  go_wp2_with fail
  generalize (w.alloc _).alloc _ = x1 at *
  refine ((CB x1).out).mono ?_
  rintro e x2 ⟨j, hj, ⟨g, rfl, ho⟩, hb⟩
  have BV := Lib.hid (base_drop j q hj hq2)
  have BM := Lib.hid (baseM_le j)
  have BL := (base_valid j hj).2.2
  have HSX := HSZ.out
  have HO := Lib.hid ho
  have hgb := ho.block
  have RW2 := Lib.hid (RW.out.below hb)
  have SQ2 := Lib.hid (SQ.out.below hb)
  have HB2 := Lib.hid (HB.out.trans (hb.mono HB.out.size))
  have hsz2 := hb.size
  have r0 := (RW.out.below hb).cells.1
  have r1 := (RW.out.below hb).cells.2.1
  have r2 := (RW.out.below hb).cells.2.2
  clear ho hb CB HB RW SQ HSZ z0 z1 z2 hj
  generalize baseM j = m at *
  generalize baseL j = rs0 at *
  obtain ⟨bl3, bl5⟩ := BL
  have hq0 : (0 : Int) ≤ (q : Int) := by omega
  have hq1 : (q : Int) ≤ (rs0.length : Int) := by omega
  have NB := SchBlock.new x2 (.int .i64 0) (.int .u8 0) (.slice none 0 0)
  have HB3 := Lib.hid (HB2.out.alloc HB2.out.size (.cells #[.int .i64 0, .int .u8 0, .slice none 0 0] 24))
  have RW3 := Lib.hid (RW2.out.below ((Below.refl _ _).alloc (Nat.le_refl _) (.cells #[.int .i64 0, .int .u8 0, .slice none 0 0] 24)))
  have SQ3 := Lib.hid (SQ2.out.below ((Below.refl _ _).alloc (Nat.le_refl _) (.cells #[.int .i64 0, .int .u8 0, .slice none 0 0] 24)))
  have HO3 := Lib.hid (HO.out.later ((Below.refl _ _).alloc (Nat.le_refl _) (.cells #[.int .i64 0, .int .u8 0, .slice none 0 0] 24)))
  have hs3 : (x2.alloc (.cells #[.int .i64 0, .int .u8 0, .slice none 0 0] 24)).heap.size = x2.heap.size + 1 := World.size_alloc _ _
  clear r0 r1 r2 HB2 RW2 SQ2 HO
  go_wp2_with (first | (refine wpList_store_sch rfl _ _ rfl _ _ _ _ NB rfl _ _ _ _ _ rfl ?_; intro W' hB' hg' hs'; clear NB; have RW4 := Lib.hid (RW3.out.keptBy hg' (by simp; omega)); have SQ4 := Lib.hid (SQ3.out.kept hg' (by omega)); obtain ⟨t0, t1, t2⟩ := hB'.cells; have tf := hB'.free; obtain ⟨r0, r1, r2⟩ := RW4.out.cells))
  clear r0 r1 r2 t0 t1 t2 tf hwq hq hq0 hq1
  generalize hg3 : x2.heap.size = g3 at *
  have hgne : g3 ≠ g := by omega
  have eh : ∀ u, (W'.setCell ⟨g3, 2, none⟩ u).heap[g]? = (x2.alloc (.cells #[.int .i64 0, .int .u8 0, .slice none 0 0] 24)).heap[g]? := fun u => by
    simp only [World.setCell, Array.getElem?_modify, if_neg hgne]
    exact hg'.block g (by omega) (by simp; omega)
  have HF := Lib.hid (((HO3.out.drop q (by omega)).keep1 (W' := W'.setCell ⟨g3, 2, none⟩ (.slice (some ⟨g, q * 5, none⟩) (rs0.length - q) (rs0.length - q))) (by simp [hs']) (eh _)).base (show w.heap.size + 2 ≤ x1.heap.size by omega))
  have SB5 := Lib.hid (hB'.put2 (v := .slice (some ⟨g, q * 5, none⟩) (rs0.length - q) (rs0.length - q)))
  have RW5 := Lib.hid (RW4.out.setCell (b' := g3) (o := 2) (u := .slice (some ⟨g, q * 5, none⟩) (rs0.length - q) (rs0.length - q)) (by omega))
  have SQ5 := Lib.hid (SQ4.out.setCellAt (b' := g3) (o := 2) (u := .slice (some ⟨g, q * 5, none⟩) (rs0.length - q) (rs0.length - q)) (by omega))
  have HB5 := Lib.hid ((HB3.out.grown hg' HB3.out.size (by simp; omega)).setCell (p := ⟨g3, 2, none⟩) (by simp; omega) (.slice (some ⟨g, q * 5, none⟩) (rs0.length - q) (rs0.length - q)))
  have hs5 : g3 < (W'.setCell ⟨g3, 2, none⟩ (.slice (some ⟨g, q * 5, none⟩) (rs0.length - q) (rs0.length - q))).heap.size := by simp; omega
  have hdl : (rs0.drop q).length = rs0.length - q := by simp
  have DL := Lib.hid hdl
  have hl2 : 2 ≤ rs0.length - q := by omega
  have hl5 : rs0.length - q ≤ 5 := by omega
  have hgw : w.heap.size + 2 ≤ g3 := by omega
  clear HO3 hB' hg' hs' RW4 SQ4 HB3 RW3 SQ3 eh hs3 hdl bl3 bl5 hgb hsz2 hq2 HSX
  rw [← DL.out] at HF SB5 RW5 SQ5 HB5 hs5 hl2 hl5 ⊢
  generalize W'.setCell _ _ = x3 at *
  generalize rs0.drop q = rs1 at *
  generalize q * 5 = off1 at *
  clear hg3 DL
  go_loopw [4] (fun i wr => ∃ (n b0 off c : Nat) (rs : List Rl), i = .int .i64 (n : Nat) ∧ n ≤ 4 ∧ n ≤ mn ∧ 2 ≤ rs.length ∧ rs.length ≤ 5 + n ∧ validB m 1 rs = true ∧ b0 ≠ g3 ∧ RlsFit wr (w.heap.size + 2) b0 off c rs ∧ SchBlock wr g3 (.int .i64 m) (.int .u8 1) (.slice (some ⟨b0, off, none⟩) rs.length c) ∧ RwBlock wr w.heap.size k d (.slice ma mn mc) ∧ SchBlock wr (w.heap.size + 1) (.int .i64 0) (.int .u8 0) (.slice none 0 0) ∧ Below w.heap.size w wr ∧ g3 < wr.heap.size) (fun i _ => 4 - (intOf i).toNat)
  case atStart => exact ⟨0, g, off1, rs1.length, rs1, rfl, by omega, by omega, hl2, by omega, BV.out, hgne.symm, HF.out, SB5.out, RW5.out, SQ5.out, HB5.out, hs5⟩
  case round =>
    obtain ⟨n, b0, off, c, rs, rfl, h1, h2, h3, h4, hv, hb0, hf, hsb, hrw, hsq, hb, hsz⟩ := hrel
    clear HF SB5 RW5 SQ5 HB5 hs5 hl2 hl5 BV
    have HV := Lib.hid hv
    have HF := Lib.hid hf
    have SB := Lib.hid hsb
    have RW := Lib.hid hrw
    have SQ := Lib.hid hsq
    have HB := Lib.hid hb
    obtain ⟨t0, t1, t2⟩ := hsb.cells
    obtain ⟨r0, r1, r2⟩ := hrw.cells
    clear hv hf hrw
    by_cases hp : n < mn
    · have hp' : (n : Int) < (mn : Int) := by omega
      by_cases hq : n < 4
      · have hq' : (n : Int) < 4 := by omega
        have hn0 : (0 : Int) ≤ (n : Int) := by omega
        obtain ⟨a0, c0, hv, hc⟩ := HX.out.on hb
        obtain ⟨rfl, -⟩ : ma = a0 ∧ mc = c0 := by simpa using hv
        obtain ⟨bb, oo, rfl, hbb, hc⟩ := hc (by omega)
        obtain ⟨la, oa, lc, oc, f, t, kk, xs, ys, e0, e1, e2, e3, e4, ex, ey, el, eo, ef, et, ek⟩ := hc n hp
        have FW := Lib.hid (show ∀ W, Below wr.heap.size wr W → W.cell? ⟨g3, 0, none⟩ = some (.int .i64 m) ∧ W.cell? ⟨g3, 2, none⟩ = some (.slice (some ⟨b0, off, none⟩) rs.length c) ∧ W.cell? ⟨w.heap.size, 2, none⟩ = some (.slice (some ⟨bb, oo, none⟩) mn mc) ∧ W.cell? ⟨bb, oo + n * 5, none⟩ = some (.slice la xs.length lc) ∧ W.cell? ⟨bb, oo + n * 5 + 1, none⟩ = some (.slice oa ys.length oc) ∧ W.cell? ⟨bb, oo + n * 5 + 2, none⟩ = some (.int .u8 f) ∧ W.cell? ⟨bb, oo + n * 5 + 3, none⟩ = some (.int .u8 t) ∧ W.cell? ⟨bb, oo + n * 5 + 4, none⟩ = some (.int .u8 kk) from fun W h =>
          ⟨(SB.out.below h).cells.1, (SB.out.below h).cells.2.2, (RW.out.below h).cells.2.2, (h.cell (p := ⟨bb, _, none⟩) hbb).trans e0, (h.cell (p := ⟨bb, _, none⟩) hbb).trans e1, (h.cell (p := ⟨bb, _, none⟩) hbb).trans e2, (h.cell (p := ⟨bb, _, none⟩) hbb).trans e3, (h.cell (p := ⟨bb, _, none⟩) hbb).trans e4⟩)
        obtain ⟨y, hy⟩ : ∃ y : Rl, y = ⟨f % m, t % m, inW xs, outW ys, kk * 2⟩ := ⟨_, rfl⟩
        have CM := fun W (h : Below wr.heap.size wr W) => Lib.hid (Made1_any la oa lc oc f t kk m ⟨BM.out.1, by have := BM.out.2; omega⟩ xs ys _ _ _ rfl rfl rfl ef et ek W (ex.on h) (ey.on h) el eo)
        have hz : y.inp.length ≤ 2 ∧ y.out.length ≤ 2 := by rw [hy]; exact ⟨inW_len xs, outW_len ys⟩
        rw [← hy] at CM
        clear hy e0 e1 e2 e3 e4 ex ey hc hv hb
        go_upto_region 6 with fail
        clear t0 t1 t2 r0 r1 r2 hsb
        refine wp_normal ?_
        refine wp_region_hoist (C := fun W => Below wr.heap.size wr W) 9 11 (by kernel_rfl) (by kernel_rfl) (Below.refl _ _).drew (fun _ _ _ _ _ h => by cases h.1) ?_
        simp only [List.take_succ_cons, List.take_zero, List.drop_succ_cons, List.drop_zero]
        repeat (refine wpHoist_step ?_; intro K hK; refine ⟨?_, fun W h => ?_, ?_⟩; rotate_left; (· obtain ⟨f0, f1, f2, f3, f4, f5, f6, f7⟩ := FW.out W h; go_simp; rfl); go_simp; go_big_quiet_on)
        refine wpHoist_nil ?_
        clear FW
        refine wpListC_call 52 #[.agg #[.slice la xs.length lc, .slice oa ys.length oc, .int .u8 f, .int .u8 t, .int .u8 kk], .int .i64 m] rfl (by go_simp) (CM wr.drew (Below.refl _ _).drew).out ?_
        rintro e x6 ⟨rfl, hb6⟩
        have hb6' := (Below.refl wr.heap.size wr).drew.trans hb6
        refine Or.inl ⟨_, rfl, hb6', ?_⟩
        intro K hK
        go_simp
        go_big_quiet_on
        have HF6 := Lib.hid (HF.out.later hb6')
        have SB6 := Lib.hid (SB.out.below hb6')
        have RW6 := Lib.hid (RW.out.below hb6')
        have SQ6 := Lib.hid (SQ.out.below hb6')
        have HB6 := Lib.hid (HB.out.trans (hb6'.mono HB.out.size))
        have hs6 : g3 < x6.heap.size := Nat.lt_of_lt_of_le hsz hb6'.size
        have hw6 := HB.out.size
        have hr6 := hb6'.size
        clear HF SB RW SQ HB CM hb6
        have al := (Below.refl x6.heap.size x6).alloc (Nat.le_refl _) (.cells #[.int .i64 y.src, .int .i64 y.dst, .string (B y.inp), .string (B y.out), .int .i64 y.cost] 29)
        refine wpListC_value (w' := x6.alloc (.cells #[.int .i64 y.src, .int .i64 y.dst, .string (B y.inp), .string (B y.out), .int .i64 y.cost] 29)) (.slice (some ⟨x6.heap.size, 0, none⟩) 1 1) rfl (by go_simp) (hb6'.trans (al.mono hr6)) ?_
        intro K hK
        go_simp
        go_big_quiet_on
        refine wpListC_rest _ _ _ _ (fun j hj => decide_eq_true hj) (by simp) ?_
        have HF7 := HF6.out.later al
        have SB7 := Lib.hid (SB6.out.below al)
        have RW7 := Lib.hid (RW6.out.below al)
        have SQ7 := Lib.hid (SQ6.out.below al)
        have HB7 := Lib.hid (HB6.out.trans (al.mono HB6.out.size))
        have hs7 : (x6.alloc (.cells #[.int .i64 y.src, .int .i64 y.dst, .string (B y.inp), .string (B y.out), .int .i64 y.cost] 29)).heap.size = x6.heap.size + 1 := World.size_alloc _ _
        clear HF6 SB6 RW6 SQ6 HB6 al hb6'
        refine wpList_append_fit rfl _ _ rfl (by rfl) HF7 y x6.heap.size (by rfl) (heap_alloc_new x6 _) (by omega) ?_
        intro gg cap' w8 row hown8 hgrow hrow hgg
        have hn3 : row ≠ some g3 := by rcases hrow with rfl | rfl <;> simp; exact hb0
        have hn0 : row ≠ some w.heap.size := by rcases hrow with rfl | rfl <;> simp; have := HF7.1; omega
        have hn1 : row ≠ some (w.heap.size + 1) := by rcases hrow with rfl | rfl <;> simp; have := HF7.1; omega
        have hgg3 : g3 ≠ gg := by rcases hgg with h | h <;> omega
        have hob : ∀ kx, row = some kx → w.heap.size ≤ kx := fun kx h => by rcases hrow with rfl | rfl <;> simp at h; have := HF7.1; omega
        obtain ⟨z0, z1, z2⟩ := (SB7.out.keptBy hgrow hn3).cells
        have zf := (SB7.out.keptBy hgrow hn3).free
        have hlen : (rs ++ [y]).length = rs.length + 1 := by simp
        have SB8 := Lib.hid ((SB7.out.keptBy hgrow hn3).put2 (v := .slice (some ⟨gg, 0, none⟩) (rs.length + 1) cap'))
        have RW8 := Lib.hid ((RW7.out.keptBy hgrow hn0).setCell (b' := g3) (o := 2) (u := .slice (some ⟨gg, 0, none⟩) (rs.length + 1) cap') (by omega))
        have SQ8 := Lib.hid ((SQ7.out.keptBy hgrow hn1).setCellAt (b' := g3) (o := 2) (u := .slice (some ⟨gg, 0, none⟩) (rs.length + 1) cap') (by omega))
        have HB8 := Lib.hid ((HB7.out.grown hgrow HB7.out.size hob).setCell (p := ⟨g3, 2, none⟩) (by simp; omega) (.slice (some ⟨gg, 0, none⟩) (rs.length + 1) cap'))
        have HO8 := Lib.hid (hown8.keep1 (W' := w8.setCell ⟨g3, 2, none⟩ (.slice (some ⟨gg, 0, none⟩) (rs.length + 1) cap')) (by simp only [World.setCell, Array.getElem?_modify, if_neg hgg3]))
        have hs8 : g3 < (w8.setCell ⟨g3, 2, none⟩ (.slice (some ⟨gg, 0, none⟩) (rs.length + 1) cap')).heap.size := by have := hgrow.size; simp; omega
        have hl1 : rs.length + 1 ≤ 10 := by omega
        clear SB7 RW7 SQ7 HB7 HF7 hown8 hgrow hrow hgg hn3 hn0 hn1 hob hs7 hs6
        go_upto_region 7 with fail
        clear z0 z1 z2 zf
        generalize w8.setCell _ _ = x9 at *
        have HA9 := Lib.hid (show RlsAt x9 x9.heap.size (.slice (some ⟨gg, 0, none⟩) (rs ++ [y]).length cap') (rs ++ [y]) by
          have h := HO8.out
          rw [← hlen] at h
          obtain ⟨_, _, _, _, h⟩ := h.at
          exact h)
        have hi9 : rs.length < (rs ++ [y]).length := by omega
        have CR := Lib.hid (RRight_any m 1 (some ⟨gg, 0, none⟩) cap' (rs ++ [y]) rs.length hi9 x9 HA9.out (by unfold maxLen; omega) (fun x hx => by
          have hm := valid_ok HV.out
          rcases List.mem_append.1 hx with h | h
          · obtain ⟨kx, hkx, rfl⟩ := List.getElem_of_mem h
            have := (hm.2.2.2.2 kx hkx).1
            have hl1 := this.i
            have hl2 := this.o
            unfold maxLen
            omega
          · obtain rfl := List.mem_singleton.1 h
            unfold maxLen; omega) (by have := BM.out; omega))
        rw [List.getElem_append_right (Nat.le_refl _)] at CR
        simp only [Nat.sub_self, List.getElem_cons_zero] at CR
        rw [hlen] at CR
        obtain ⟨t0, t1, t2⟩ := SB8.out.cells
        have tf := SB8.out.free
        have wi : IntKind.i64.wrap (rs.length : Int) = (rs.length : Int) := IntWalk.i64_in _ (by omega)
        have wj : (rs.length : Int) + 1 - 1 = (rs.length : Int) := by omega
        clear HA9 hi9
        go_wp2_with fail
        refine (CR.out).mono ?_
        rintro e x10 ⟨rfl, hb10⟩
        have SB10 := SB8.out.below hb10
        have RW10 := Lib.hid (RW8.out.below hb10)
        have SQ10 := Lib.hid (SQ8.out.below hb10)
        have HB10 := Lib.hid (HB8.out.trans (hb10.mono HB8.out.size))
        have HO10 := Lib.hid (HO8.out.later hb10)
        have hs10 := Nat.lt_of_lt_of_le hs8 hb10.size
        clear SB8 RW8 SQ8 HB8 HO8 hs8 CR t0 t1 t2 tf hb10
        cases hr : rightB m (rs ++ [y]) rs.length y with
        | true =>
          have HV2 := Lib.hid (validB_add HV.out (by omega) hr)
          clear hr
          have SB10 := Lib.hid SB10
          go_wp2_with fail
          go_roundw
          case rel => exact ⟨n + 1, gg, 0, cap', rs ++ [y], by go_num, by omega, by omega, by omega, by omega, HV2.out, hgg3.symm, ⟨HO10.out.block.1, HO10.out.block.2, Or.inl ⟨rfl, by rw [hlen]; exact HO10.out⟩⟩, by rw [hlen]; exact SB10.out, RW10.out, SQ10.out, HB10.out, hs10⟩
          case measure => simp [intOf]; omega
        | false =>
          clear hr
          obtain ⟨t0, t1, t2⟩ := SB10.cells
          have tf := SB10.free
          have SB11 := Lib.hid (SB10.put2 (v := .slice (some ⟨gg, 0, none⟩) rs.length cap'))
          have RW11 := Lib.hid (RW10.out.setCell (b' := g3) (o := 2) (u := .slice (some ⟨gg, 0, none⟩) rs.length cap') (by omega))
          have SQ11 := Lib.hid (SQ10.out.setCellAt (b' := g3) (o := 2) (u := .slice (some ⟨gg, 0, none⟩) rs.length cap') (by omega))
          have HB11 := Lib.hid (HB10.out.setCell (p := ⟨g3, 2, none⟩) (by simp; omega) (.slice (some ⟨gg, 0, none⟩) rs.length cap'))
          have HO11 := Lib.hid (HO10.out.cut.keep1 (W' := x10.setCell ⟨g3, 2, none⟩ (.slice (some ⟨gg, 0, none⟩) rs.length cap')) (by simp only [World.setCell, Array.getElem?_modify, if_neg hgg3]))
          have hs11 : g3 < (x10.setCell ⟨g3, 2, none⟩ (.slice (some ⟨gg, 0, none⟩) rs.length cap')).heap.size := by simp; omega
          have wl0 : (0 : Int) ≤ (rs.length : Int) := by omega
          have hcap : (rs.length : Int) ≤ (cap' : Int) := by
            obtain ⟨_, _, h1, h2, _⟩ := (show RlsOwn x10 (w.heap.size + 2) (.slice (some ⟨gg, 0, none⟩) (rs ++ [y]).length cap') (rs ++ [y]) by rw [hlen]; exact HO10.out).at
            simp at h1; omega
          clear SB10 RW10 SQ10 HB10 HO10 hs10
          go_wp2_with fail
          go_roundw
          case rel => exact ⟨n + 1, gg, 0, cap', rs, by go_num, by omega, by omega, by omega, by omega, HV.out, hgg3.symm, ⟨HO11.out.block.1, HO11.out.block.2, Or.inl ⟨rfl, HO11.out⟩⟩, SB11.out, RW11.out, SQ11.out, HB11.out, hs11⟩
          case measure => simp [intOf]; omega
      · have hq' : ¬ (n : Int) < 4 := by omega
        clear hsb hb
        go_wp2_with (first | (refine wpList_store_sch rfl _ _ rfl _ _ _ _ SQ.out rfl _ _ _ _ _ rfl ?_; intro W' hB' hg' hs'; clear SQ))
        refine ret_sch rfl rfl rfl hB' ?_
        have hne : b0 ≠ w.heap.size + 1 := by have := HF.out.1; omega
        exact ⟨⟨m, b0, off, c, rs, rfl, (HF.out.keep1 (by omega) (hg'.block b0 HF.out.2.1 (by simp; omega))).base (by omega), HV.out, h3, by omega, BM.out.1, BM.out.2⟩, HB.out.grown hg' HB.out.size (by simp)⟩
    · have hp' : ¬ (n : Int) < (mn : Int) := by omega
      clear hsb hb
      go_wp2_with (first | (refine wpList_store_sch rfl _ _ rfl _ _ _ _ SQ.out rfl _ _ _ _ _ rfl ?_; intro W' hB' hg' hs'; clear SQ))
      refine ret_sch rfl rfl rfl hB' ?_
      have hne : b0 ≠ w.heap.size + 1 := by have := HF.out.1; omega
      exact ⟨⟨m, b0, off, c, rs, rfl, (HF.out.keep1 (by omega) (hg'.block b0 HF.out.2.1 (by simp; omega))).base (by omega), HV.out, h3, by omega, BM.out.1, BM.out.2⟩, HB.out.grown hg' HB.out.size (by simp)⟩
end Go.Proofs.YtnbiedijofdjhaaDoor
