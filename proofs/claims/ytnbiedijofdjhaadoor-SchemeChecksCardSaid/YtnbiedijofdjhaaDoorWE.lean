/-
  SchemeChecks: the walk.
-/
import Derived.Test.YtnbiedijofdjhaaDoorWD
namespace Go.Proofs.YtnbiedijofdjhaaDoor
open Go.RowKit
open Pl

set_option maxHeartbeats 4000000 in
set_option maxRecDepth 100000 in
theorem Checks_any (sm sa k d m : Int) (sd : Option Addr) (sc : Nat) (sl : List Rl) (y : Rl) (ma : Option Addr) (mn mc : Nat) (w : World) (hT : StrTab w) (hP : PowTab w) (hm : MaxVar w m) (h0 : 0 < w.heap.size) (hg : 2 < w.heap.size)
    (hs : SchOk w sm sa sd sc sl) (hk : 0 ≤ k ∧ k ≤ 255) (hd : 0 ≤ d ∧ d ≤ 255) (hx : RawsAt w w.heap.size (.slice ma mn mc) mn) (hl : mn ≤ maxLen) (hy : y.inp.length ≤ maxLen ∧ y.out.length ≤ maxLen) (h70 : sl.length ≤ 70) :
    Calls Tryd.prog 3 #[.agg #[.int .i64 sm, .int .u8 sa, .slice sd sl.length sc], .agg #[.int .u8 k, .int .u8 d, .slice ma mn mc], .agg #[.int .i64 y.src, .int .i64 y.dst, .string (B y.inp), .string (B y.out), .int .i64 y.cost]] w fun e w' => e = .returned (.bool true) ∧ Below w.heap.size w w' := by
  obtain ⟨ks, k0, k1, hb⟩ := layC w (.slice sd sl.length sc) sm sa k d (.slice ma mn mc) y
  have HT := Lib.hid hT
  have HP := Lib.hid hP
  have H0 := Lib.hid h0
  have HX := Lib.hid hx
  have HL := Lib.hid hl
  have HS := Lib.hid hs
  have HY := Lib.hid hy
  have HB1 := Lib.hid hb
  have SS1 := Lib.hid ks
  have RW1 := Lib.hid k0
  have RY1 := Lib.hid k1
  have CS := fun W (hb : Below w.heap.size w W) => Lib.hid (sanity_any m W (hT.below hb h0) (hP.below hb) (hm.below hg hb) (Nat.lt_of_lt_of_le h0 hb.size) (Nat.lt_of_lt_of_le hg hb.size))
  clear hT hP hm h0 hg hx hl hb ks k0 k1 hs hy
  go_enter Tryd.func3, Tryd.ntmps3
  go_wp2_with fail
  generalize ((w.alloc _).alloc _).alloc _ = x1 at *
  refine ((CS x1 HB1.out).out).mono ?_
  rintro e x2 ⟨rfl, hb⟩
  have HB2 := Lib.hid (HB1.out.trans (hb.mono HB1.out.size))
  have SS2 := Lib.hid (SS1.out.below hb)
  have RW2 := Lib.hid (RW1.out.below hb)
  have RY2 := Lib.hid (RY1.out.below hb)
  obtain ⟨r0, r1, r2⟩ := RW2.out.cells
  obtain ⟨s0, s1, s2⟩ := SS2.out.cells
  have h71 : ¬ (70 : Int) < (sl.length : Int) := by omega
  clear hb HB1 RW1 RY1 SS1 CS
  go_wp2_with fail
  refine (Made_any k d ma mn mc x2 hk hd (HX.out.on HB2.out) HL.out).mono ?_
  rintro e x3 ⟨⟨mm, b0, off, c, rs, rfl, hf, hv, hl2, hl9, hm1, hm2⟩, hb⟩
  have HB3 := Lib.hid (HB2.out.trans (hb.mono HB2.out.size))
  have RY3 := Lib.hid (RY2.out.below hb)
  have RW3 := Lib.hid (RW2.out.below hb)
  have SS3 := Lib.hid (SS2.out.below hb)
  have HF3 := Lib.hid hf
  have HV := Lib.hid hv
  have hsz3 := hb.size
  have htl := lt_of_heap RY2.out
  clear hb hf hv HB2 RY2 RW2 SS2 r0 r1 r2 s0 s1 s2
  have NB := SchBlock.new x3 (.int .i64 0) (.int .u8 0) (.slice none 0 0)
  have al := (Below.refl x3.heap.size x3).alloc (Nat.le_refl _) (.cells #[.int .i64 0, .int .u8 0, .slice none 0 0] 24)
  have HB4 := Lib.hid (HB3.out.trans (al.mono HB3.out.size))
  have RY4 := Lib.hid (RY3.out.below al)
  have RW4 := Lib.hid (RW3.out.below al)
  have SS4 := Lib.hid (SS3.out.below al)
  have HF4 := Lib.hid (HF3.out.later al)
  have hs4 : (x3.alloc (.cells #[.int .i64 0, .int .u8 0, .slice none 0 0] 24)).heap.size = x3.heap.size + 1 := World.size_alloc _ _
  have hw3 := HB3.out.size
  have hbx := HF3.out.2.1
  clear al HB3 RY3 RW3 SS3 HF3
  go_upto_region 5 with (first | (refine wpList_store_sch rfl _ _ rfl _ _ _ _ NB rfl _ _ _ _ _ rfl ?_; intro x4 S6 hg' hs'; clear NB))
  have RY5 := Lib.hid (RY4.out.keptBy hg' (by simp; omega))
  have RW5 := Lib.hid (RW4.out.keptBy hg' (by simp; omega))
  have SS5 := Lib.hid (SS4.out.keptBy hg' (by simp; omega))
  have HF5 := Lib.hid (HF4.out.keep1 (by omega) (hg'.block b0 HF4.out.2.1 (by simp; omega)))
  have HB5 := Lib.hid (HB4.out.grown hg' HB4.out.size (by simp; omega))
  rw [hs4] at hs'
  have S6 := Lib.hid S6
  clear hg' HB4 RY4 RW4 SS4 HF4 hs4
  generalize hg6 : x3.heap.size = g6 at *
  obtain ⟨t0, t1, t2⟩ := S6.out.cells
  obtain ⟨p0, p1, p2, p3, p4⟩ := RY5.out.cells
  go_upto_region 5 with fail
  clear t0 t1 t2 p0 p1 p2 p3 p4
  generalize decide ((70 : Int) < (sl.length : Int)) = q7
  obtain ⟨i0, hi0, hz0, hz1, hz2⟩ := info_parts infoRl
  refine wp_normal ?_
  refine wp_region_inv 6 (by kernel_rfl) (by decide) (by kernel_rfl) (by kernel_rfl) (fun listed a W => ∃ β0 β3 c3 β5 v29 v30 v31 v32 v33 v34, a = ({ tmps := #[.agg #[.int .i64 sm, .int .u8 sa, .slice sd sl.length sc], .agg #[.int .u8 k, .int .u8 d, .slice ma mn mc], .agg #[.int .i64 y.src, .int .i64 y.dst, .string (B y.inp), .string (B y.out), .int .i64 y.cost], .pointer (some ⟨w.heap.size, 0, none⟩), .pointer (some ⟨w.heap.size + 1, 0, none⟩), .pointer (some ⟨w.heap.size + 1 + 1, 0, none⟩), .bool false, .bool true, .pointer (some ⟨g6, 0, none⟩), undef, undef, undef, undef, undef, undef, .bool true, .pointer (some ⟨w.heap.size, 2, none⟩), .slice sd sl.length sc, .int .i64 (sl.length : Nat), .bool q7, undef, .agg #[.int .u8 k, .int .u8 d, .slice ma mn mc], .agg #[.int .i64 mm, .int .u8 1, .slice (some ⟨b0, off, none⟩) rs.length c], v29, v30, v31, v32, v33, v34, undef, undef, undef, undef, undef, undef, undef, undef, undef, undef, undef, undef, undef, undef, undef, undef, undef, undef, undef, undef, undef, undef, undef, undef, undef, undef, undef, undef, undef, undef, undef, undef, undef, undef, undef, undef, undef, undef, undef, undef, undef, undef, undef, undef, undef, undef, undef, undef, undef, undef, undef, undef, undef, undef, undef, undef, undef, undef, undef], defers := [] } : Act) ∧ JO x4 rs y (.pointer (some ⟨g6, 2, none⟩)) (.slice (some ⟨b0, off, none⟩) rs.length c) (fun j => listed.getD j false = true) W β0 β3 c3 β5 v29 v30 v31 v32 v33 v34) ?_ ?_ ?_
  · exact ⟨0, 0, 0, 0, undef, undef, undef, undef, undef, undef, rfl, (Below.refl _ _).drew, fun h => (none_listed h).elim, fun h => (none_listed h).elim, fun h => (none_listed h).elim, fun h => (none_listed h).elim, fun h => (none_listed h).elim, fun h => (none_listed h).elim, fun h => (none_listed h).elim, fun h => (none_listed h).elim, fun h => (none_listed h).elim⟩
  · rintro listed a W i ⟨β0, β3, c3, β5, v29, v30, v31, v32, v33, v34, rfl, hJ⟩ hr hi
    have hbw := hJ.below
    obtain ⟨t0, t1, t2⟩ := (S6.out.below hbw).cells
    obtain ⟨p0, p1, p2, p3, p4⟩ := (RY5.out.below hbw).cells
    rcases (show i = 0 ∨ i = 1 ∨ i = 2 ∨ i = 3 ∨ i = 4 ∨ i = 5 by omega) with rfl | rfl | rfl | rfl | rfl | rfl
    · exact wpOp_value (w' := W.alloc (.cells #[] 29)) (.slice (some ⟨W.heap.size, 0, none⟩) 0 0) rfl rfl (by go_simp) ⟨_, β3, c3, β5, _, v30, v31, v32, v33, v34, rfl, hJ.new0 (fun j h => listed_set h)⟩
    · exact wpOp_value (.pointer (some ⟨g6, 2, none⟩)) rfl rfl (by go_simp) ⟨β0, β3, c3, β5, v29, _, v31, v32, v33, v34, rfl, hJ.val1 (fun j h => listed_set h) (fun j h => listed_mono h)⟩
    · have hd1 := ready_dep hr rfl (k := 1) (by kernel_rfl)
      obtain rfl := hJ.l1 hd1
      exact wpOp_value (.slice (some ⟨b0, off, none⟩) rs.length c) rfl rfl (by go_simp) ⟨β0, β3, c3, β5, v29, _, _, v32, v33, v34, rfl, hJ.val2 (fun j h => listed_set h) (fun j h => listed_mono h)⟩
    · have hd0 := ready_dep hr rfl (k := 0) (by kernel_rfl)
      have hd2 := ready_dep hr rfl (k := 2) (by kernel_rfl)
      obtain ⟨n3, s3⟩ := listed_self hr
      obtain ⟨rfl, hb00, hb01⟩ := hJ.l0 hd0
      obtain rfl := hJ.l2 hd2
      have hbs := hbw.size
      refine wpOp_at rfl rfl (wp_append_lies W _ _ 22 rfl x4.heap.size 29 i0 _ 5 56 Tryd.underlying22 hi0 hz0 hz1 hz2 rfl (by omega) (.slice (some ⟨β0, 0, none⟩) 0 0) 0 [] (by rfl) (hJ.o0 hd0 n3) ⟨b0, off, none⟩ rs.length c (rs.flatMap rlCells) (by rfl) (rlCells_length rs) (HF5.out.later hbw).news (oneCells rs) (by omega) (by unfold maxLen; omega) (by omega) hbs W.heap.size rfl ?_)
      intro g cap W' hown hgrow hat hlt
      simp only [Nat.zero_add, List.nil_append] at hown ⊢
      exact ⟨β0, g, cap, β5, _, _, _, _, v33, v34, rfl, hJ.app3 (fun j h => listed_set h) s3 hd0 n3 hown hgrow (hat.imp (fun e => by simp [Value.ownBlock] at e; omega) (fun e => by omega))⟩
    · exact wpOp_value (rlV y) rfl rfl (by go_simp) ⟨β0, β3, c3, β5, v29, v30, v31, v32, _, v34, rfl, hJ.val4 (fun j h => listed_set h) (fun j h => listed_mono h)⟩
    · have hd4 := ready_dep hr rfl (k := 4) (by kernel_rfl)
      obtain rfl := hJ.l4 hd4
      exact wpOp_value (w' := W.alloc (.cells (rlCells y).toArray 29)) (.slice (some ⟨W.heap.size, 0, none⟩) 1 1) rfl rfl (by go_simp; rfl) ⟨β0, β3, c3, _, v29, v30, v31, v32, _, _, rfl, hJ.new5 (fun j h => listed_set h) (fun j h => listed_mono h)⟩
  rintro listed a W ⟨β0, β3, c3, β5, v29, v30, v31, v32, v33, v34, rfl, hJ⟩ hall
  have hbw := Lib.hid hJ.below
  obtain ⟨rfl, ho⟩ := hJ.l3 (hall 3 (by decide))
  obtain ⟨rfl, hy5, hb5⟩ := hJ.l5 (hall 5 (by decide))
  clear hJ hall
  simp only [List.drop_succ_cons, List.drop_zero]
  have HF : RlsFit W x4.heap.size β3 0 c3 rs := ⟨ho.block.1, ho.block.2, Or.inl ⟨rfl, ho⟩⟩
  have S7 := Lib.hid (S6.out.below hbw.out)
  have RW7 := Lib.hid (RW5.out.below hbw.out)
  have SS7 := Lib.hid (SS5.out.below hbw.out)
  have HB7 := Lib.hid (HB5.out.trans (hbw.out.mono HB5.out.size))
  have hb3 := ho.block
  have hx4 := HB5.out.size
  clear S6 RY5 RW5 SS5 HB5 HF5
  refine wpList_append_fit rfl _ _ rfl (by rfl) HF y β5 (by rfl) hy5 (by omega) ?_
  intro gg cap W5 row hown hgrow hrow hgg
  have hn6 : row ≠ some g6 := by rcases hrow with rfl | rfl <;> simp; omega
  have hg6' : g6 ≠ gg := by
    have := hbw.out.size
    rcases hgg with h | h <;> omega
  obtain ⟨z0, z1, z2⟩ := (S7.out.keptBy hgrow hn6).cells
  have zf := (S7.out.keptBy hgrow hn6).free
  have S8 := Lib.hid ((S7.out.keptBy hgrow hn6).put2 (v := .slice (some ⟨gg, 0, none⟩) (rs.length + 1) cap))
  have HO8 := Lib.hid (hown.keep1 (W' := W5.setCell ⟨g6, 2, none⟩ (.slice (some ⟨gg, 0, none⟩) (rs.length + 1) cap)) (by simp only [World.setCell, Array.getElem?_modify, if_neg hg6']))
  have HB8 := Lib.hid ((HB7.out.grown hgrow HB7.out.size (fun kx h => by rcases hrow with rfl | rfl <;> simp at h; omega)).setCell (p := ⟨g6, 2, none⟩) (by simp; omega) (.slice (some ⟨gg, 0, none⟩) (rs.length + 1) cap))
  have RW8 := Lib.hid ((RW7.out.keptBy hgrow (by rcases hrow with rfl | rfl <;> simp; omega)).setCell (b' := g6) (o := 2) (u := .slice (some ⟨gg, 0, none⟩) (rs.length + 1) cap) (by omega))
  have SS8 := Lib.hid ((SS7.out.keptBy hgrow (by rcases hrow with rfl | rfl <;> simp; omega)).setCellAt (b' := g6) (o := 2) (u := .slice (some ⟨gg, 0, none⟩) (rs.length + 1) cap) (by omega))
  have hs8 : g6 < (W5.setCell ⟨g6, 2, none⟩ (.slice (some ⟨gg, 0, none⟩) (rs.length + 1) cap)).heap.size := by have := (S7.out.keptBy hgrow hn6).lt; simp; exact this
  clear S7 RW7 SS7 HB7 HF hown hgrow hrow hgg hn6 hbw ho hy5 hb5 hb3 hi0 hz0 hz1 hz2
  go_upto_region 6 with fail
  clear z0 z1 z2 zf
  generalize W5.setCell _ _ = x5 at *
  have hgg5 := HO8.out.block
  have hw5 := HB8.out.size
  obtain ⟨RT, hRT⟩ : ∃ l, l = rs ++ [y] := ⟨_, rfl⟩
  have hN : RT.length = rs.length + 1 := by rw [hRT]; simp
  have HRT := Lib.hid hRT
  rw [← hRT] at HO8
  rw [← hN] at HO8 S8
  have hN10 : RT.length ≤ 10 := by omega
  have SH := Lib.hid (show ∀ x ∈ RT, x.inp.length ≤ maxLen ∧ x.out.length ≤ maxLen from fun x hx => by
    rw [HRT.out] at hx
    rcases List.mem_append.1 hx with h | h
    · exact short_rules HV.out x h
    · rw [List.mem_singleton.1 h]; exact HY.out)
  have HN := Lib.hid hN
  clear hRT hN HRT
  have FW := Lib.hid (show ∀ W, Below x5.heap.size x5 W → (W.cell? ⟨w.heap.size, 0, none⟩ = some (.int .i64 sm) ∧ W.cell? ⟨w.heap.size, 1, none⟩ = some (.int .u8 sa) ∧ W.cell? ⟨w.heap.size, 2, none⟩ = some (.slice sd sl.length sc)) ∧ (W.cell? ⟨w.heap.size + 1, 0, none⟩ = some (.int .u8 k) ∧ W.cell? ⟨w.heap.size + 1, 1, none⟩ = some (.int .u8 d) ∧ W.cell? ⟨w.heap.size + 1, 2, none⟩ = some (.slice ma mn mc)) ∧ (W.cell? ⟨g6, 0, none⟩ = some (.int .i64 mm) ∧ W.cell? ⟨g6, 1, none⟩ = some (.int .u8 1) ∧ W.cell? ⟨g6, 2, none⟩ = some (.slice (some ⟨gg, 0, none⟩) RT.length cap)) from fun W h => ⟨(SS8.out.below h).cells, (RW8.out.below h).cells, (S8.out.below h).cells⟩)
  refine wp_normal ?_
  refine wp_region_inv 4 (by kernel_rfl) (by decide) (by kernel_rfl) (by kernel_rfl) (fun listed a W => ∃ z31 z32 z33 z34, a = ({ tmps := #[.agg #[.int .i64 sm, .int .u8 sa, .slice sd sl.length sc], .agg #[.int .u8 k, .int .u8 d, .slice ma mn mc], .agg #[.int .i64 y.src, .int .i64 y.dst, .string (B y.inp), .string (B y.out), .int .i64 y.cost], .pointer (some ⟨w.heap.size, 0, none⟩), .pointer (some ⟨w.heap.size + 1, 0, none⟩), .pointer (some ⟨w.heap.size + 1 + 1, 0, none⟩), .bool false, .bool true, .pointer (some ⟨g6, 0, none⟩), undef, undef, undef, undef, undef, undef, .bool true, .pointer (some ⟨w.heap.size, 2, none⟩), .slice sd sl.length sc, .int .i64 (sl.length : Nat), .bool q7, undef, .agg #[.int .u8 k, .int .u8 d, .slice ma mn mc], .agg #[.int .i64 mm, .int .u8 1, .slice (some ⟨b0, off, none⟩) rs.length c], v29, v30, v31, .slice (some ⟨β3, 0, none⟩) rs.length c3, v33, .slice (some ⟨β5, 0, none⟩) 1 1, .slice (some ⟨gg, 0, none⟩) (rs.length + 1) cap, .pointer (some ⟨g6, 2, none⟩), z31, z32, z33, z34, undef, undef, undef, undef, undef, undef, undef, undef, undef, undef, undef, undef, undef, undef, undef, undef, undef, undef, undef, undef, undef, undef, undef, undef, undef, undef, undef, undef, undef, undef, undef, undef, undef, undef, undef, undef, undef, undef, undef, undef, undef, undef, undef, undef, undef, undef, undef, undef, undef, undef, undef, undef, undef], defers := [] } : Act) ∧ Below x5.heap.size x5 W ∧ (listed.getD 0 false = true → z31 = .agg #[.int .i64 sm, .int .u8 sa, .slice sd sl.length sc]) ∧ (listed.getD 1 false = true → z32 = .agg #[.int .u8 k, .int .u8 d, .slice ma mn mc]) ∧ (listed.getD 2 false = true → (∃ (m2 : Int) (b2 o2 c2 : Nat) (rs2 : List Rl), z33 = .agg #[.int .i64 m2, .int .u8 1, .slice (some ⟨b2, o2, none⟩) rs2.length c2] ∧ RlsFit W x5.heap.size b2 o2 c2 rs2 ∧ validB m2 1 rs2 = true ∧ rs2.length ≤ 9 ∧ 1 ≤ m2 ∧ m2 ≤ 2)) ∧ (listed.getD 3 false = true → z34 = .agg #[.int .i64 mm, .int .u8 1, .slice (some ⟨gg, 0, none⟩) RT.length cap])) ?_ ?_ ?_
  · exact ⟨undef, undef, undef, undef, rfl, (Below.refl _ _).drew, fun h => (none_listed h).elim, fun h => (none_listed h).elim, fun h => (none_listed h).elim, fun h => (none_listed h).elim⟩
  · rintro listed a W i ⟨z31, z32, z33, z34, rfl, hbw, l0, l1, l2, l3⟩ hr hi
    obtain ⟨⟨f0, f1, f2⟩, ⟨f3, f4, f5⟩, f6, f7, f8⟩ := FW.out W hbw
    rcases (show i = 0 ∨ i = 1 ∨ i = 2 ∨ i = 3 by omega) with rfl | rfl | rfl | rfl
    · exact wpOp_value (.agg #[.int .i64 sm, .int .u8 sa, .slice sd sl.length sc]) rfl rfl (by go_simp) ⟨_, z32, z33, z34, rfl, hbw, fun _ => rfl, fun h => l1 ((listed_set h).resolve_left (by decide)), fun h => l2 ((listed_set h).resolve_left (by decide)), fun h => l3 ((listed_set h).resolve_left (by decide))⟩
    · exact wpOp_value (.agg #[.int .u8 k, .int .u8 d, .slice ma mn mc]) rfl rfl (by go_simp) ⟨z31, _, z33, z34, rfl, hbw, fun h => l0 ((listed_set h).resolve_left (by decide)), fun _ => rfl, fun h => l2 ((listed_set h).resolve_left (by decide)), fun h => l3 ((listed_set h).resolve_left (by decide))⟩
    · obtain rfl := l1 (ready_dep hr rfl (k := 1) (by kernel_rfl))
      refine wpOp_call 16 #[.agg #[.int .u8 k, .int .u8 d, .slice ma mn mc]] rfl rfl (by go_simp) (Made_any k d ma mn mc W hk hd (HX.out.on (HB8.out.trans (hbw.mono HB8.out.size))) HL.out) ?_
      rintro e W' ⟨⟨m2, b2, o2, c2, rs2, rfl, hf2, hv2, -, hl29, hm21, hm22⟩, hb⟩
      exact ⟨_, rfl, z31, _, _, z34, rfl, hbw.trans (hb.mono hbw.size), fun h => l0 ((listed_set h).resolve_left (by decide)), fun _ => rfl, fun _ => ⟨m2, b2, o2, c2, rs2, rfl, hf2.base hbw.size, hv2, hl29, hm21, hm22⟩, fun h => l3 ((listed_set h).resolve_left (by decide))⟩
    · exact wpOp_value (.agg #[.int .i64 mm, .int .u8 1, .slice (some ⟨gg, 0, none⟩) RT.length cap]) rfl rfl (by go_simp) ⟨z31, z32, z33, _, rfl, hbw, fun h => l0 ((listed_set h).resolve_left (by decide)), fun h => l1 ((listed_set h).resolve_left (by decide)), fun h => l2 ((listed_set h).resolve_left (by decide)), fun _ => rfl⟩
  rintro listed a W ⟨z31, z32, z33, z34, rfl, hbw, l0, l1, l2, l3⟩ hall
  obtain rfl := l0 (hall 0 (by decide))
  obtain ⟨m2, b2, o2, c2, rs2, rfl, hf2, hv2, hl29, hm21, hm22⟩ := l2 (hall 2 (by decide))
  obtain rfl := l3 (hall 3 (by decide))
  simp only [List.drop_succ_cons, List.drop_zero]
  have HBW := Lib.hid hbw
  have HF2 := Lib.hid hf2
  have HV2 := Lib.hid hv2
  clear l0 l1 l2 l3 hall hbw hf2 hv2 FW
  have HB9 := Lib.hid (HB8.out.trans (HBW.out.mono HB8.out.size))
  have al := (Below.refl W.heap.size W).alloc (Nat.le_refl _) (.cells #[.int .i64 sm, .int .u8 sa, .slice sd sl.length sc, .int .i64 m2, .int .u8 1, .slice (some ⟨b2, o2, none⟩) rs2.length c2, .int .i64 mm, .int .u8 1, .slice (some ⟨gg, 0, none⟩) RT.length cap] 24)
  have HBA := Lib.hid (HB9.out.trans (al.mono HB9.out.size))
  have SI := Lib.hid (show ∀ j, j < 3 → SchIn (W.alloc (.cells #[.int .i64 sm, .int .u8 sa, .slice sd sl.length sc, .int .i64 m2, .int .u8 1, .slice (some ⟨b2, o2, none⟩) rs2.length c2, .int .i64 mm, .int .u8 1, .slice (some ⟨gg, 0, none⟩) RT.length cap] 24)) W.heap.size (j * 3) from fun j hj => by
    have hG : W.heap.size < (W.alloc (.cells #[.int .i64 sm, .int .u8 sa, .slice sd sl.length sc, .int .i64 m2, .int .u8 1, .slice (some ⟨b2, o2, none⟩) rs2.length c2, .int .i64 mm, .int .u8 1, .slice (some ⟨gg, 0, none⟩) RT.length cap] 24)).heap.size := by rw [World.size_alloc]; omega
    rcases (show j = 0 ∨ j = 1 ∨ j = 2 by omega) with rfl | rfl | rfl
    · exact ⟨sm, sa, sd, sc, sl, by rw [cell_new]; rfl, by rw [cell_new]; rfl, by rw [cell_new]; rfl, hG, HS.out.on HBA.out⟩
    · have h2 := HF2.out.later al
      exact ⟨m2, 1, some ⟨b2, o2, none⟩, c2, rs2, by rw [cell_new]; rfl, by rw [cell_new]; rfl, by rw [cell_new]; rfl, hG, h2.at.2, h2.at.1, by unfold maxLen; omega, short_rules HV2.out, ⟨by omega, by omega⟩, by decide, by decide⟩
    · obtain ⟨ga, gc, hvg, hcg, hXG⟩ := HO8.out.at
      obtain ⟨rfl, rfl⟩ : some (⟨gg, 0, none⟩ : Addr) = ga ∧ cap = gc := by simpa using hvg
      exact ⟨mm, 1, some ⟨gg, 0, none⟩, cap, RT, by rw [cell_new]; rfl, by rw [cell_new]; rfl, by rw [cell_new]; rfl, hG, (hXG.on HBW.out).on al, hcg, by unfold maxLen; omega, SH.out, ⟨by omega, by omega⟩, by decide, by decide⟩)
  clear al HB9 HF2 HV2 HO8 HBW SH S8 RW8 SS8 HB8 HX HL HY HV HS HN
  go_wp2_with fail
  generalize W.alloc _ = x6 at *
  generalize W.heap.size = G at *
  go_loopw [10] (fun iv wr => ∃ j : Nat, iv = .int .i64 (j : Nat) ∧ j ≤ 3 ∧ Below x6.heap.size x6 wr) (fun iv _ => 3 - (intOf iv).toNat)
  case atStart => exact ⟨0, rfl, Nat.zero_le _, Below.refl _ _⟩
  case round =>
    obtain ⟨j, rfl, hj, hb⟩ := hrel
    have HBR := Lib.hid hb
    clear hb
    by_cases hlt : j < 3
    · have hj0 : (0 : Int) ≤ (j : Int) := by omega
      have hj3 : (j : Int) < 3 := by omega
      obtain ⟨qm, qa, qd, qc, ql, e0, e1, e2, hG, hok⟩ := (SI.out j hlt).on HBR.out
      have OK := Lib.hid hok
      have TT := fun W (h : Below wr.heap.size wr W) => HT.out.below (HBA.out.trans ((HBR.out.trans (Below.mono h HBR.out.size)).mono HBA.out.size)) H0.out
      have PP := fun W (h : Below wr.heap.size wr W) => HP.out.below (HBA.out.trans ((HBR.out.trans (Below.mono h HBR.out.size)).mono HBA.out.size))
      have T0 := fun W (h : Below wr.heap.size wr W) => Nat.lt_of_lt_of_le H0.out (HBA.out.trans ((HBR.out.trans (Below.mono h HBR.out.size)).mono HBA.out.size)).size
      have EC := fun W (h : Below wr.heap.size wr W) => (show W.cell? ⟨G, j * 3, none⟩ = some (.int .i64 qm) ∧ W.cell? ⟨G, j * 3 + 1, none⟩ = some (.int .u8 qa) ∧ W.cell? ⟨G, j * 3 + 2, none⟩ = some (.slice qd ql.length qc) from ⟨(h.cell (p := ⟨G, _, none⟩) hG).trans e0, (h.cell (p := ⟨G, _, none⟩) hG).trans e1, (h.cell (p := ⟨G, _, none⟩) hG).trans e2⟩)
      clear hok SI
      have HTT := Lib.hid TT
      have HPP := Lib.hid PP
      have HT0 := Lib.hid T0
      have HEC := Lib.hid EC
      clear TT PP T0 EC
      go_wp2_with fail
      refine (Check_any qm qa qd qc ql wr (HTT.out wr (Below.refl _ _)) (HT0.out wr (Below.refl _ _)) OK.out.1 OK.out.2.1 OK.out.2.2.1 OK.out.2.2.2.1 OK.out.2.2.2.2.1.1 OK.out.2.2.2.2.1.2 OK.out.2.2.2.2.2.1 OK.out.2.2.2.2.2.2).mono ?_
      rintro e x7 ⟨⟨ci, ce, rfl, hc1⟩, hb7⟩
      have HB7 := Lib.hid hb7
      have HC1 := Lib.hid hc1
      clear hb7 hc1 e0 e1 e2
      obtain ⟨e0, e1, e2⟩ := HEC.out x7 HB7.out
      go_wp2_with fail
      refine (RCheck_any qm qa qd qc ql x7 (OK.out.on HB7.out).1 OK.out.2.2.1 OK.out.2.2.2.1 OK.out.2.2.2.2.2.1 OK.out.2.2.2.2.2.2).mono ?_
      rintro e x8 ⟨⟨ci2, ce2, rfl, hc2⟩, hb8⟩
      obtain ⟨rfl, rfl⟩ := chk_unique hc2 HC1.out
      have HB8 := Lib.hid (HB7.out.trans (hb8.mono HB7.out.size))
      clear hb8 hc2 e0 e1 e2
      have FC := Lib.hid (show ∀ W, Below x8.heap.size x8 W → W.cell? ⟨G, j * 3, none⟩ = some (.int .i64 qm) ∧ W.cell? ⟨G, j * 3 + 1, none⟩ = some (.int .u8 qa) ∧ W.cell? ⟨G, j * 3 + 2, none⟩ = some (.slice qd ql.length qc) from fun W h => HEC.out W (HB8.out.trans (h.mono HB8.out.size)))
      obtain ⟨v, tx, hcase, CV, CP, CR⟩ : ∃ (v : Bool) (tx : List UInt8), ((v = true ∧ ce2 = 0) ∨ (v = false ∧ ce2 = 20)) ∧ (∀ W, Below x8.heap.size x8 W → Calls Tryd.prog 19 #[.agg #[.int .i64 qm, .int .u8 qa, .slice qd ql.length qc]] W fun e w' => e = .returned (.bool v) ∧ Below x8.heap.size x8 w') ∧ (∀ W, Below x8.heap.size x8 W → Calls Tryd.prog 20 #[.agg #[.int .i64 qm, .int .u8 qa, .slice qd ql.length qc]] W fun e w' => e = .returned (.string (B tx)) ∧ Below x8.heap.size x8 w') ∧ (∀ W, Below x8.heap.size x8 W → Calls Tryd.prog 21 #[.agg #[.int .i64 qm, .int .u8 qa, .slice qd ql.length qc]] W fun e w' => e = .returned (.string (B tx)) ∧ Below x8.heap.size x8 w') := by
        have hh := fun W (h : Below x8.heap.size x8 W) => HB8.out.trans (h.mono HB8.out.size)
        rcases HC1.out.valid with ⟨h1, h2, -⟩ | ⟨h1, h2⟩
        · refine ⟨true, printS qm qa ql, Or.inl ⟨rfl, h1⟩, fun W h => ?_, fun W h => ?_, fun W h => ?_⟩
          · refine (Valid_any qm qa qd qc ql W (HTT.out W (hh W h)) (HT0.out W (hh W h)) (OK.out.on (hh W h)).1 OK.out.2.1 OK.out.2.2.1 OK.out.2.2.2.1 OK.out.2.2.2.2.1.1 OK.out.2.2.2.2.1.2 OK.out.2.2.2.2.2.1 OK.out.2.2.2.2.2.2).mono fun e w' h' => ⟨by rw [h'.1, h2], h.trans (h'.2.mono h.size)⟩
          · exact (Print_any qm qa qd qc ql W (HTT.out W (hh W h)) (HPP.out W (hh W h)) (HT0.out W (hh W h)) (OK.out.on (hh W h)).1 OK.out.2.1 OK.out.2.2.1 OK.out.2.2.2.1 OK.out.2.2.2.2.1.1 OK.out.2.2.2.2.1.2 OK.out.2.2.2.2.2.1 OK.out.2.2.2.2.2.2 h2).mono fun e w' h' => ⟨h'.1, h.trans (h'.2.mono h.size)⟩
          · exact (RPrint_any qm qa qd qc ql W (OK.out.on (hh W h)).1 OK.out.2.2.1 OK.out.2.2.2.1 OK.out.2.2.2.2.2.1 OK.out.2.2.2.2.2.2 h2).mono fun e w' h' => ⟨h'.1, h.trans (h'.2.mono h.size)⟩
        · refine ⟨false, [], Or.inr ⟨rfl, h1⟩, fun W h => ?_, fun W h => ?_, fun W h => ?_⟩
          · refine (Valid_any qm qa qd qc ql W (HTT.out W (hh W h)) (HT0.out W (hh W h)) (OK.out.on (hh W h)).1 OK.out.2.1 OK.out.2.2.1 OK.out.2.2.2.1 OK.out.2.2.2.2.1.1 OK.out.2.2.2.2.1.2 OK.out.2.2.2.2.2.1 OK.out.2.2.2.2.2.2).mono fun e w' h' => ⟨by rw [h'.1, h2], h.trans (h'.2.mono h.size)⟩
          · exact (Print_bad qm qa qd qc ql W (HTT.out W (hh W h)) (HT0.out W (hh W h)) (OK.out.on (hh W h)).1 OK.out.2.1 OK.out.2.2.1 OK.out.2.2.2.1 OK.out.2.2.2.2.1.1 OK.out.2.2.2.2.1.2 OK.out.2.2.2.2.2.1 OK.out.2.2.2.2.2.2 h2).mono fun e w' h' => ⟨h'.1, h.trans (h'.2.mono h.size)⟩
          · exact (RPrint_bad qm qa qd qc ql W (OK.out.on (hh W h)).1 OK.out.2.2.1 OK.out.2.2.2.1 OK.out.2.2.2.2.2.1 OK.out.2.2.2.2.2.2 h2).mono fun e w' h' => ⟨h'.1, h.trans (h'.2.mono h.size)⟩
      have C1 := CV
      have C2 := CP
      have C3 := CR
      have hi1 : (ci2 == ci2) = true := beq_self_eq_true ci2
      have ht1 : ((B tx).toList == (B tx).toList) = true := beq_self_eq_true _
      clear HEC CV CP CR HC1 OK HTT HPP HT0
      go_upto_region 12 with fail
      rcases hcase with ⟨rfl, rfl⟩ | ⟨rfl, rfl⟩
      all_goals
        refine wp_normal ?_
        refine wp_region_class (C := fun W => Below x8.heap.size x8 W) (by kernel_rfl) (by kernel_rfl) (Below.refl _ _).drew ?_
        repeat (first | go_big_quiet_skip | (go_big_quiet_want; first | (go_big_quiet_op; go_big_quiet_on) | (refine quiet_value ?_ (fun W h => ?_) ?_; rotate_left; (· obtain ⟨f0, f1, f2⟩ := FC.out W h; go_simp; rfl); go_simp; go_big_quiet_on) | (refine quiet_call _ _ _ (fun W => ?_) C1 ?_; (· go_simp; done); go_simp; go_big_quiet_on) | (refine quiet_call _ _ _ (fun W => ?_) C2 ?_; (· go_simp; done); go_simp; go_big_quiet_on) | (refine quiet_call _ _ _ (fun W => ?_) C3 ?_; (· go_simp; done); go_simp; go_big_quiet_on)))
        refine wpQuiet_nil ?_
        intro x9 hcj
        have HB10 := Lib.hid ((HBR.out.trans (HB8.out.mono HBR.out.size)).trans (Below.mono hcj (by have := HBR.out.size; have := HB8.out.size; omega)))
        clear hcj C1 C2 C3 FC
        go_wp2_with fail
        go_roundw
        case rel => exact ⟨j + 1, by go_num, by omega, HB10.out⟩
        case measure => simp [intOf]; omega
    · have hj3 : ¬ (j : Int) < 3 := by omega
      go_wp2_with fail
      go_ret
      exact ⟨rfl, HBA.out.trans (HBR.out.mono HBA.out.size)⟩
end Go.Proofs.YtnbiedijofdjhaaDoor
