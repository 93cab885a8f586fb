/-
  SchemeOrders: the walk (begun: as far as region 5).
-/
import Derived.Test.YtnbiedijofdjhaaDoorVX
namespace Go.Proofs.YtnbiedijofdjhaaDoor
open Go.RowKit
open Pl

theorem RlBlock.keptBy {W W' : World} {b : Nat} {r : Rl} {row : Option Nat} (h : RlBlock W b r) (hg : W.grownBy W' row) (hne : row ≠ some b) : RlBlock W' b r := by
  have hlt := lt_of_heap h
  unfold RlBlock at h ⊢; rw [hg.block b hlt (fun e => hne e.symm)]; exact h
theorem listed_mono {listed : Array Bool} {i j : Nat} (h : listed.getD j false = true) : (listed.setIfInBounds i true).getD j false = true := by
  by_cases e : i = j
  · subst e
    have hlt : i < listed.size := by
      rcases Nat.lt_or_ge i listed.size with q | q
      · exact q
      · simp [Nat.not_lt.2 q] at h
    simp [hlt]
  · rw [getD_set_ne false e]; exact h
theorem listed_self {ops : Array Oper} {listed : Array Bool} {i : Nat} (h : i ∈ Region.ready .any ops listed) : ¬ listed.getD i false = true ∧ (listed.setIfInBounds i true).getD i false = true := by
  have h1 := (mem_ready.1 h).1
  have hlt : i < listed.size := by
    rcases Nat.lt_or_ge i listed.size with q | q
    · exact q
    · simp [Nat.not_lt.2 q] at h1
  refine ⟨fun h2 => ?_, by simp [hlt]⟩
  rw [getD_both h1] at h2; cases h2
theorem oneCells (rs : List Rl) : ∀ u ∈ rs.flatMap rlCells, u.oneCell' = true := fun u hu => by
  obtain ⟨x, -, hx⟩ := List.mem_flatMap.1 hu
  simp only [rlCells, List.mem_cons, List.not_mem_nil, or_false] at hx
  rcases hx with rfl | rfl | rfl | rfl | rfl <;> rfl
theorem layO (w : World) (k d : Int) (v : Value) (y : Rl) : RwBlock ((w.alloc (.cells #[.int .u8 k, .int .u8 d, v] 27)).alloc (.cells #[.int .i64 y.src, .int .i64 y.dst, .string (B y.inp), .string (B y.out), .int .i64 y.cost] 29)) w.heap.size k d v ∧ RlBlock ((w.alloc (.cells #[.int .u8 k, .int .u8 d, v] 27)).alloc (.cells #[.int .i64 y.src, .int .i64 y.dst, .string (B y.inp), .string (B y.out), .int .i64 y.cost] 29)) (w.heap.size + 1) y ∧ Below w.heap.size w ((w.alloc (.cells #[.int .u8 k, .int .u8 d, v] 27)).alloc (.cells #[.int .i64 y.src, .int .i64 y.dst, .string (B y.inp), .string (B y.out), .int .i64 y.cost] 29)) := by
  refine ⟨RwBlock.below (show RwBlock (w.alloc (.cells #[.int .u8 k, .int .u8 d, v] 27)) w.heap.size k d v from heap_alloc_new w _) ((Below.refl _ _).alloc (Nat.le_refl _) _), ?_, ((Below.refl _ _).alloc (Nat.le_refl _) _).alloc (by simp) _⟩
  have := rl_new (w.alloc (.cells #[.int .u8 k, .int .u8 d, v] 27)) y _ rfl
  rw [World.size_alloc] at this
  exact this
set_option maxHeartbeats 4000000 in
set_option maxRecDepth 100000 in
theorem Orders_any (k d kk m : Int) (y : Rl) (ma : Option Addr) (mn mc : Nat) (w : World) (hT : StrTab w) (hP : PowTab w) (hm : MaxVar w m) (h0 : 0 < w.heap.size) (hg : 2 < w.heap.size)
    (hk : 0 ≤ k ∧ k ≤ 255) (hd : 0 ≤ d ∧ d ≤ 255) (hkk : 0 ≤ kk ∧ kk ≤ 255) (hx : RawsAt w w.heap.size (.slice ma mn mc) mn) (hl : mn ≤ maxLen) (hy : y.inp.length ≤ 10 ∧ y.out.length ≤ 10) :
    Calls Tryd.prog 8 #[.agg #[.int .u8 k, .int .u8 d, .slice ma mn mc], .agg #[.int .i64 y.src, .int .i64 y.dst, .string (B y.inp), .string (B y.out), .int .i64 y.cost], .int .u8 kk] w fun e w' => e = .returned (.bool true) ∧ Below w.heap.size w w' := by
  obtain ⟨k0, k1, hb⟩ := layO w k d (.slice ma mn mc) y
  have HT := Lib.hid hT
  have HP := Lib.hid hP
  have HM := Lib.hid hm
  have H0 := Lib.hid h0
  have HG := Lib.hid hg
  have HX := Lib.hid hx
  have HL := Lib.hid hl
  have HB1 := Lib.hid hb
  have RW1 := Lib.hid k0
  have RY1 := Lib.hid k1
  have CS := fun W (hb : Below w.heap.size w W) => Lib.hid (sanity_any m W (hT.below hb h0) (hP.below hb) (hm.below hg hb) (Nat.lt_of_lt_of_le h0 hb.size) (Nat.lt_of_lt_of_le hg hb.size))
  have y1 : ¬ (10 : Int) < ((B y.inp).size : Int) := by rw [size_B]; omega
  have y2 : ¬ (10 : Int) < ((B y.out).size : Int) := by rw [size_B]; omega
  clear hT hP hm h0 hg hx hl hb k0 k1
  go_enter Tryd.func8, Tryd.ntmps8
  go_wp2_with fail
  generalize (w.alloc _).alloc _ = x1 at *
  refine ((CS x1 HB1.out).out).mono ?_
  rintro e x2 ⟨rfl, hb⟩
  have HB2 := Lib.hid (HB1.out.trans (hb.mono HB1.out.size))
  have RY2 := Lib.hid (RY1.out.below hb)
  obtain ⟨r0, r1, r2⟩ := (RW1.out.below hb).cells
  clear hb HB1 RW1 RY1 CS
  go_wp2_with fail
  refine (Made_any k d ma mn mc x2 hk hd (HX.out.on HB2.out) HL.out).mono ?_
  rintro e x3 ⟨⟨mm, b0, off, c, rs, rfl, hf, hv, hl2, hl9, hm1, hm2⟩, hb⟩
  have HB3 := Lib.hid (HB2.out.trans (hb.mono HB2.out.size))
  have RY3 := Lib.hid (RY2.out.below hb)
  have HF3 := Lib.hid hf
  have HV := Lib.hid hv
  have hsz3 := hb.size
  have htl := lt_of_heap RY2.out
  clear hb hf hv HB2 RY2 r0 r1 r2 HX HL
  have NB := SchBlock.new x3 (.int .i64 0) (.int .u8 0) (.slice none 0 0)
  have al := (Below.refl x3.heap.size x3).alloc (Nat.le_refl _) (.cells #[.int .i64 0, .int .u8 0, .slice none 0 0] 24)
  have HB4 := Lib.hid (HB3.out.trans (al.mono HB3.out.size))
  have RY4 := Lib.hid (RY3.out.below al)
  have HF4 := Lib.hid (HF3.out.later al)
  have hs4 : (x3.alloc (.cells #[.int .i64 0, .int .u8 0, .slice none 0 0] 24)).heap.size = x3.heap.size + 1 := World.size_alloc _ _
  have hw3 := HB3.out.size
  have hbx := HF3.out.2.1
  clear al HB3 RY3 HF3
  go_upto_region 3 with (first | (refine wpList_store_sch rfl _ _ rfl _ _ _ _ NB rfl _ _ _ _ _ rfl ?_; intro x4 S6 hg' hs'; clear NB))
  have RY5 := Lib.hid (RY4.out.keptBy hg' (by simp; omega))
  have HF5 := Lib.hid (HF4.out.keep1 (by omega) (hg'.block b0 HF4.out.2.1 (by simp; omega)))
  have HB5 := Lib.hid (HB4.out.grown hg' HB4.out.size (by simp; omega))
  rw [hs4] at hs'
  have S6 := Lib.hid S6
  clear hg' HB4 RY4 HF4 hs4
  generalize hg6 : x3.heap.size = g6 at *
  obtain ⟨t0, t1, t2⟩ := S6.out.cells
  obtain ⟨p0, p1, p2, p3, p4⟩ := RY5.out.cells
  go_upto_region 5 with fail
  clear t0 t1 t2 p0 p1 p2 p3 p4
  generalize decide ((10 : Int) < ((B y.inp).size : Int)) = q1
  generalize decide ((10 : Int) < ((B y.out).size : Int)) = q2
  obtain ⟨i0, hi0, hz0, hz1, hz2⟩ := info_parts infoRl
  refine wp_normal ?_
  refine wp_region_inv 6 (by kernel_rfl) (by decide) (by kernel_rfl) (by kernel_rfl) (fun listed a W => ∃ β0 β3 c3 β5 v29 v30 v31 v32 v33 v34, a = ({ tmps := #[.agg #[.int .u8 k, .int .u8 d, .slice ma mn mc], .agg #[.int .i64 y.src, .int .i64 y.dst, .string (B y.inp), .string (B y.out), .int .i64 y.cost], .int .u8 kk, .pointer (some ⟨w.heap.size, 0, none⟩), .pointer (some ⟨w.heap.size + 1, 0, none⟩), undef, .bool false, .bool true, .pointer (some ⟨g6, 0, none⟩), undef, undef, undef, undef, undef, undef, .bool true, .agg #[.int .u8 k, .int .u8 d, .slice ma mn mc], .agg #[.int .i64 mm, .int .u8 1, .slice (some ⟨b0, off, none⟩) rs.length c], .pointer (some ⟨w.heap.size + 1, 2, none⟩), .string (B y.inp), .int .i64 ((B y.inp).size : Nat), .bool q1, .bool q1, .pointer (some ⟨w.heap.size + 1, 3, none⟩), .string (B y.out), .int .i64 ((B y.out).size : Nat), .bool q2, .bool (q1 || q2), undef, v29, v30, v31, v32, v33, v34, undef, undef, undef, undef, undef, undef, undef, undef, undef, undef, undef, undef, undef, undef, undef, undef, undef, undef, undef, undef, undef, undef, undef, undef, undef, undef, undef, undef, undef, undef, undef, undef, undef, undef, undef, undef, undef, undef, undef, undef, undef, undef, undef, undef, undef, undef, undef, undef, undef, undef, undef, undef, undef, undef, undef, undef, undef, undef, undef, undef, undef, undef, undef, undef, undef, undef, undef, undef, undef, undef, undef, undef, undef, undef, undef, undef, undef, undef, undef, undef, undef, undef, undef, undef, undef, undef, undef, undef, undef, undef, undef, undef, undef], defers := [] } : Act) ∧ JO x4 rs y (.pointer (some ⟨g6, 2, none⟩)) (.slice (some ⟨b0, off, none⟩) rs.length c) (fun j => listed.getD j false = true) W β0 β3 c3 β5 v29 v30 v31 v32 v33 v34) ?_ ?_ ?_
  · exact ⟨0, 0, 0, 0, undef, undef, undef, undef, undef, undef, rfl, (Below.refl _ _).drew, fun h => (none_listed h).elim, fun h => (none_listed h).elim, fun h => (none_listed h).elim, fun h => (none_listed h).elim, fun h => (none_listed h).elim, fun h => (none_listed h).elim, fun h => (none_listed h).elim, fun h => (none_listed h).elim, fun h => (none_listed h).elim⟩
  · rintro listed a W i ⟨β0, β3, c3, β5, v29, v30, v31, v32, v33, v34, rfl, hJ⟩ hr hi
    have hbw := hJ.below
    obtain ⟨t0, t1, t2⟩ := (S6.out.below hbw).cells
    obtain ⟨p0, p1, p2, p3, p4⟩ := (RY5.out.below hbw).cells
    rcases (show i = 0 ∨ i = 1 ∨ i = 2 ∨ i = 3 ∨ i = 4 ∨ i = 5 by omega) with rfl | rfl | rfl | rfl | rfl | rfl
    · exact wpOp_value (w' := W.alloc (.cells #[] 29)) (.slice (some ⟨W.heap.size, 0, none⟩) 0 0) rfl rfl (by go_simp) ⟨_, β3, c3, β5, _, v30, v31, v32, v33, v34, rfl, hJ.new0 (fun j h => listed_set h)⟩
    · exact wpOp_value (.pointer (some ⟨g6, 2, none⟩)) rfl rfl (by go_simp) ⟨β0, β3, c3, β5, v29, _, v31, v32, v33, v34, rfl, hJ.val1 (fun j h => listed_set h) (fun j h => listed_mono h)⟩
    · have hd1 := ready_dep hr rfl (k := 1) (by kernel_rfl)
      obtain rfl := hJ.l1 hd1
      exact wpOp_value (.slice (some ⟨b0, off, none⟩) rs.length c) rfl rfl (by go_simp) ⟨β0, β3, c3, β5, v29, _, _, v32, v33, v34, rfl, hJ.val2 (fun j h => listed_set h) (fun j h => listed_mono h)⟩
    · have hd0 := ready_dep hr rfl (k := 0) (by kernel_rfl)
      have hd2 := ready_dep hr rfl (k := 2) (by kernel_rfl)
      obtain ⟨n3, s3⟩ := listed_self hr
      obtain ⟨rfl, hb00, hb01⟩ := hJ.l0 hd0
      obtain rfl := hJ.l2 hd2
      have hbs := hbw.size
      refine wpOp_at rfl rfl (wp_append_lies W _ _ 22 rfl x4.heap.size 29 i0 _ 5 56 Tryd.underlying22 hi0 hz0 hz1 hz2 rfl (by omega) (.slice (some ⟨β0, 0, none⟩) 0 0) 0 [] (by rfl) (hJ.o0 hd0 n3) ⟨b0, off, none⟩ rs.length c (rs.flatMap rlCells) (by rfl) (rlCells_length rs) (HF5.out.later hbw).news (oneCells rs) (by omega) (by unfold maxLen; omega) (by omega) hbs W.heap.size rfl ?_)
      intro g cap W' hown hgrow hat hlt
      simp only [Nat.zero_add, List.nil_append] at hown ⊢
      exact ⟨β0, g, cap, β5, _, _, _, _, v33, v34, rfl, hJ.app3 (fun j h => listed_set h) s3 hd0 n3 hown hgrow (hat.imp (fun e => by simp [Value.ownBlock] at e; omega) (fun e => by omega))⟩
    · exact wpOp_value (rlV y) rfl rfl (by go_simp) ⟨β0, β3, c3, β5, v29, v30, v31, v32, _, v34, rfl, hJ.val4 (fun j h => listed_set h) (fun j h => listed_mono h)⟩
    · have hd4 := ready_dep hr rfl (k := 4) (by kernel_rfl)
      obtain rfl := hJ.l4 hd4
      exact wpOp_value (w' := W.alloc (.cells (rlCells y).toArray 29)) (.slice (some ⟨W.heap.size, 0, none⟩) 1 1) rfl rfl (by go_simp; rfl) ⟨β0, β3, c3, _, v29, v30, v31, v32, _, _, rfl, hJ.new5 (fun j h => listed_set h) (fun j h => listed_mono h)⟩
  rintro listed a W ⟨β0, β3, c3, β5, v29, v30, v31, v32, v33, v34, rfl, hJ⟩ hall
  have hbw := Lib.hid hJ.below
  obtain ⟨rfl, ho⟩ := hJ.l3 (hall 3 (by decide))
  obtain ⟨rfl, hy5, hb5⟩ := hJ.l5 (hall 5 (by decide))
  clear hJ hall
  simp only [List.drop_succ_cons, List.drop_zero]
  have HF : RlsFit W x4.heap.size β3 0 c3 rs := ⟨ho.block.1, ho.block.2, Or.inl ⟨rfl, ho⟩⟩
  have S7 := Lib.hid (S6.out.below hbw.out)
  have RY7 := Lib.hid (RY5.out.below hbw.out)
  have HB7 := Lib.hid (HB5.out.trans (hbw.out.mono HB5.out.size))
  have hb3 := ho.block
  have hx4 := HB5.out.size
  clear S6 RY5 HB5 HF5
  refine wpList_append_fit rfl _ _ rfl (by rfl) HF y β5 (by rfl) hy5 (by omega) ?_
  intro gg cap W5 row hown hgrow hrow hgg
  have hn6 : row ≠ some g6 := by rcases hrow with rfl | rfl <;> simp; omega
  have hg6' : g6 ≠ gg := by
    have := hbw.out.size
    rcases hgg with h | h <;> omega
  obtain ⟨z0, z1, z2⟩ := (S7.out.keptBy hgrow hn6).cells
  have zf := (S7.out.keptBy hgrow hn6).free
  have S8 := Lib.hid ((S7.out.keptBy hgrow hn6).put2 (v := .slice (some ⟨gg, 0, none⟩) (rs.length + 1) cap))
  have HO8 := Lib.hid (hown.keep1 (W' := W5.setCell ⟨g6, 2, none⟩ (.slice (some ⟨gg, 0, none⟩) (rs.length + 1) cap)) (by simp only [World.setCell, Array.getElem?_modify, if_neg hg6']))
  have HB8 := Lib.hid ((HB7.out.grown hgrow HB7.out.size (fun kx h => by rcases hrow with rfl | rfl <;> simp at h; omega)).setCell (p := ⟨g6, 2, none⟩) (by simp; omega) (.slice (some ⟨gg, 0, none⟩) (rs.length + 1) cap))
  have hs8 : g6 < (W5.setCell ⟨g6, 2, none⟩ (.slice (some ⟨gg, 0, none⟩) (rs.length + 1) cap)).heap.size := by have := (S7.out.keptBy hgrow hn6).lt; simp; exact this
  clear S7 RY7 HB7 HF hown hgrow hrow hgg hn6 hbw ho hy5 hb5 hb3 hi0 hz0 hz1 hz2
  go_upto_region 6 with fail
  clear z0 z1 z2 zf
  generalize W5.setCell _ _ = x5 at *
  obtain ⟨t0, t1, t2⟩ := S8.out.cells
  go_upto_region 8 with fail
  clear t0 t1 t2
  have al := (Below.refl x5.heap.size x5).alloc (Nat.le_refl _) (.cells #[.int .i64 mm, .int .u8 1, .slice none 0 0] 24)
  have S9 := Lib.hid (SchBlock.new x5 (.int .i64 mm) (.int .u8 1) (.slice none 0 0))
  have S86 := Lib.hid (S8.out.below al)
  have HO6 := Lib.hid (HO8.out.later al)
  have HB9 := Lib.hid (HB8.out.trans (al.mono HB8.out.size))
  have hs9 : (x5.alloc (.cells #[.int .i64 mm, .int .u8 1, .slice none 0 0] 24)).heap.size = x5.heap.size + 1 := World.size_alloc _ _
  have hgg5 := HO8.out.block
  have hw5 := HB8.out.size
  clear al S8 HO8 HB8
  generalize x5.alloc _ = x6 at *
  generalize x5.heap.size = g9 at *
  obtain ⟨RT, hRT⟩ : ∃ l, l = rs ++ [y] := ⟨_, rfl⟩
  have hN : RT.length = rs.length + 1 := by rw [hRT]; simp
  have HRT := Lib.hid hRT
  rw [← hRT] at HO6
  rw [← hN] at HO6 S86
  have hcN : ((rs.length : Int) + 1) = (RT.length : Int) := by omega
  rw [hcN]
  have HN := Lib.hid hN
  have hN10 : RT.length ≤ 10 := by omega
  have hN1 : 1 ≤ RT.length := by omega
  clear hRT hN hcN
  obtain ⟨K, hK⟩ : ∃ K : Nat, kk = (K : Int) := ⟨kk.toNat, by omega⟩
  subst hK
  have SX : ∀ W, Below x6.heap.size x6 W → W.cell? ⟨g6, 2, none⟩ = some (.slice (some ⟨gg, 0, none⟩) RT.length cap) := fun W h => (S86.out.below h).cells.2.2
  have HSX := Lib.hid SX
  clear SX
  go_wp2_with fail
  go_loopw [11] (fun iv wr => ∃ (j : Nat) (va : Option Addr) (vc : Nat), iv = .int .i64 (j : Nat) ∧ j ≤ RT.length ∧ SchBlock wr g9 (.int .i64 mm) (.int .u8 1) (.slice va j vc) ∧ RlsOwn wr (g9 + 1) (.slice va j vc) ((List.range j).map fun q => RT.getD ((q + K) % RT.length) y) ∧ SchBlock wr g6 (.int .i64 mm) (.int .u8 1) (.slice (some ⟨gg, 0, none⟩) RT.length cap) ∧ RlsOwn wr x4.heap.size (.slice (some ⟨gg, 0, none⟩) RT.length cap) RT ∧ Below w.heap.size w wr ∧ g9 < wr.heap.size) (fun iv _ => RT.length - (intOf iv).toNat)
  case atStart => exact ⟨0, none, 0, rfl, Nat.zero_le _, S9.out, ⟨rfl, Or.inl ⟨rfl, rfl⟩⟩, S86.out, HO6.out, HB9.out, by omega⟩
  case round =>
    obtain ⟨j, va, vc, rfl, hj, s9, ho, s6, hO, hb, hz⟩ := hrel
    obtain ⟨i0, hi0, hz0, hz1, hz2⟩ := info_parts infoRl
    have HO := Lib.hid hO
    have HA := Lib.hid ho
    have S9' := Lib.hid s9
    have S6' := Lib.hid s6
    have HB := Lib.hid hb
    clear S9 S86 HO6 HB9 HSX
    by_cases hlt : j < RT.length
    · have hlt' : (j : Int) < (RT.length : Int) := by omega
      obtain ⟨q, hq⟩ : ∃ q, q = (j + K) % RT.length := ⟨_, rfl⟩
      have hqN : q < RT.length := by rw [hq]; exact Nat.mod_lt _ (by omega)
      have hqi : ((j : Int) + (K : Int)) % (RT.length : Int) = (q : Int) := by rw [hq, Int.natCast_emod, Int.natCast_add]
      have hqt : ((j : Int) + (K : Int)).tmod (RT.length : Int) = (q : Int) := by rw [Int.tmod_eq_emod_of_nonneg (by omega)]; exact hqi
      have HQ := Lib.hid hq
      have hwK : IntKind.i64.wrap (K : Int) = (K : Int) := IntWalk.i64_in _ (by omega)
      have hwjK : IntKind.i64.wrap ((j : Int) + (K : Int)) = (j : Int) + (K : Int) := IntWalk.i64_in _ (by omega)
      have hnz : ¬ ((RT.length : Int) = 0) := by omega
      have hq0 : (0 : Int) ≤ (q : Int) := by omega
      have hq1 : (q : Int) < (RT.length : Int) := by omega
      obtain ⟨a7, c7, hv7, hc7, h7⟩ := HO.out.at
      obtain ⟨rfl, rfl⟩ : some (⟨gg, 0, none⟩ : Addr) = a7 ∧ cap = c7 := by simpa using hv7
      obtain ⟨_, _, hv8, h7⟩ := h7
      obtain ⟨rfl, rfl⟩ := (by simpa using hv8 : _ ∧ _)
      obtain ⟨b8, o8, hb8, hlt8, h7⟩ := h7 (by omega)
      obtain ⟨rfl, rfl⟩ : gg = b8 ∧ 0 = o8 := by simpa using hb8
      obtain ⟨e0, e1, e2, e3, e4⟩ := h7 q hqN
      simp only [Nat.zero_add] at e0 e1 e2 e3 e4
      have hyq : RT[q] = RT.getD q y := by simp [hqN]
      rw [hyq] at e0 e1 e2 e3 e4
      clear hyq h7 hv7 hv8 hb8 hc7
      generalize hx : RT.getD q y = x at *
      have FW := Lib.hid (show ∀ W, Below wr.heap.size wr W → W.cell? ⟨g9, 2, none⟩ = some (.slice va j vc) ∧ W.cell? ⟨g6, 2, none⟩ = some (.slice (some ⟨gg, 0, none⟩) RT.length cap) ∧ W.cell? ⟨gg, q * 5, none⟩ = some (.int .i64 x.src) ∧ W.cell? ⟨gg, q * 5 + 1, none⟩ = some (.int .i64 x.dst) ∧ W.cell? ⟨gg, q * 5 + 2, none⟩ = some (.string (B x.inp)) ∧ W.cell? ⟨gg, q * 5 + 3, none⟩ = some (.string (B x.out)) ∧ W.cell? ⟨gg, q * 5 + 4, none⟩ = some (.int .i64 x.cost) from fun W h =>
        ⟨(S9'.out.below h).cells.2.2, (S6'.out.below h).cells.2.2, (h.cell (p := ⟨gg, _, none⟩) hlt8).trans e0, (h.cell (p := ⟨gg, _, none⟩) hlt8).trans e1, (h.cell (p := ⟨gg, _, none⟩) hlt8).trans e2, (h.cell (p := ⟨gg, _, none⟩) hlt8).trans e3, (h.cell (p := ⟨gg, _, none⟩) hlt8).trans e4⟩)
      have HXX := Lib.hid hx
      clear e0 e1 e2 e3 e4 hx hq ho hO s9 s6 hb
      go_upto_region 11 with fail
      refine wp_normal ?_
      refine wp_region_hoist (C := fun W => Below wr.heap.size wr W) 12 13 (by kernel_rfl) (by kernel_rfl) (Below.refl _ _).drew (fun _ _ _ _ _ h => by cases h.1) ?_
      simp only [List.take_succ_cons, List.take_zero, List.drop_succ_cons, List.drop_zero]
      repeat (refine wpHoist_step ?_; intro K hK; refine ⟨?_, fun W h => ?_, ?_⟩; rotate_left; (· obtain ⟨f0, f1, f2, f3, f4, f5, f6⟩ := FW.out W h; go_simp; rfl); go_simp; go_big_quiet_on)
      have hne0 : ¬ RT = [] := by intro e; rw [e] at hN1; simp at hN1
      refine wpHoist_step ?_
      intro K hK
      refine ⟨.int .i64 (q : Int), fun W h => ?_, ?_⟩
      · go_simp
      go_simp
      go_big_quiet_on
      repeat (refine wpHoist_step ?_; intro K hK; refine ⟨?_, fun W h => ?_, ?_⟩; rotate_left; (· obtain ⟨f0, f1, f2, f3, f4, f5, f6⟩ := FW.out W h; go_simp; rfl); go_simp; go_big_quiet_on)
      refine wpHoist_nil ?_
      clear FW
      have al := (Below.refl wr.drew.heap.size wr.drew).alloc (Nat.le_refl _) (.cells #[.int .i64 x.src, .int .i64 x.dst, .string (B x.inp), .string (B x.out), .int .i64 x.cost] 29)
      refine wpListC_value (w' := wr.drew.alloc (.cells #[.int .i64 x.src, .int .i64 x.dst, .string (B x.inp), .string (B x.out), .int .i64 x.cost] 29)) (.slice (some ⟨wr.heap.size, 0, none⟩) 1 1) rfl (by go_simp) ((Below.refl _ _).drew.trans al) ?_
      intro K hK
      go_simp
      go_big_quiet_on
      refine wpListC_rest _ _ _ _ (fun j hj => decide_eq_true hj) (by simp) ?_
      have dal := (Below.refl wr.heap.size wr).drew.trans al
      have S9A := Lib.hid (S9'.out.below dal)
      have S6A := Lib.hid (S6'.out.below dal)
      have HBA := Lib.hid (HB.out.trans (dal.mono HB.out.size))
      have HOA := Lib.hid (HO.out.later dal)
      have HAA := Lib.hid (HA.out.later dal)
      have hown : (wr.drew.alloc (.cells #[.int .i64 x.src, .int .i64 x.dst, .string (B x.inp), .string (B x.out), .int .i64 x.cost] 29)).ownsRow (g9 + 1) 29 5 (.slice va j vc) j (((List.range j).map fun q => RT.getD ((q + K) % RT.length) y).flatMap rlCells) := by
        have := HAA.out
        unfold RlsOwn at this
        rwa [List.length_map, List.length_range] at this
      have hne1 := HAA.out.ne (show g9 < g9 + 1 by omega)
      have hne2 := HAA.out.ne (show g6 < g9 + 1 by omega)
      have hne3 := HAA.out.ne (show gg < g9 + 1 by omega)
      have hob : ∀ k, (Value.slice va j vc).ownBlock = some k → w.heap.size ≤ k := fun k hk => by
        rcases Nat.lt_or_ge k (g9 + 1) with h | h
        · exact absurd hk (HAA.out.ne h)
        · omega
      have hsz7 : g9 + 1 ≤ (wr.drew.alloc (.cells #[.int .i64 x.src, .int .i64 x.dst, .string (B x.inp), .string (B x.out), .int .i64 x.cost] 29)).heap.size := by simp; omega
      have hja : j + 1 ≤ maxLen := by unfold maxLen; omega
      clear al dal S9' S6' HB HO HA
      refine wpList_append_lies _ rfl _ _ _ rfl (g9 + 1) 29 i0 _ 5 56 Tryd.underlying22 hi0 hz0 hz1 hz2 rfl (by omega) (.slice va j vc) j _ (by rfl) hown ⟨wr.heap.size, 0, none⟩ 1 1 (rlCells x) (by rfl) (by rfl) (World.news_of_block (cs := (rlCells x).toArray) (t := 29) (fr := (0, 0)) (heap_alloc_new wr.drew _)) (by simp [rlCells, Value.oneCell']) (by omega) hja (by omega) hsz7 (wr.heap.size + 1) (by simp) ?_
      intro gT cap' w6 hown6 hgrow6 hat6 hlt6
      obtain ⟨t0, t1, t2⟩ := (S9A.out.keptBy hgrow6 hne1).cells
      have tf := (S9A.out.keptBy hgrow6 hne1).free
      have hgT : g9 + 1 ≤ gT := by
        rcases hat6 with h | h
        · rcases Nat.lt_or_ge gT (g9 + 1) with h2 | h2
          · exact absurd h (HAA.out.ne h2)
          · exact h2
        · omega
      have HA6 := Lib.hid (show RlsOwn w6 (g9 + 1) (.slice (some ⟨gT, 0, none⟩) (j + 1) cap') ((List.range (j + 1)).map fun q => RT.getD ((q + K) % RT.length) y) by
        unfold RlsOwn
        rw [List.length_map, List.length_range, List.range_succ, List.map_append, List.flatMap_append, List.map_singleton, ← HQ.out, HXX.out]
        simpa using hown6)
      have hsA : (wr.drew.alloc (.cells #[.int .i64 x.src, .int .i64 x.dst, .string (B x.inp), .string (B x.out), .int .i64 x.cost] 29)).heap.size = wr.heap.size + 1 := by simp
      have S97 := Lib.hid ((S9A.out.keptBy hgrow6 hne1).put2 (v := .slice (some ⟨gT, 0, none⟩) (j + 1) cap'))
      have S67 := Lib.hid ((S6A.out.keptBy hgrow6 hne2).setCellAt (b' := g9) (o := 2) (u := .slice (some ⟨gT, 0, none⟩) (j + 1) cap') (by omega))
      have HO7 := Lib.hid ((HOA.out.keep1 (hgrow6.block gg (by omega) (fun e => hne3 e.symm))).keep1 (W' := w6.setCell ⟨g9, 2, none⟩ (.slice (some ⟨gT, 0, none⟩) (j + 1) cap')) (by simp only [World.setCell, Array.getElem?_modify, if_neg (show ¬ g9 = gg by omega)]))
      have HA7 := Lib.hid (HA6.out.keep1 (W' := w6.setCell ⟨g9, 2, none⟩ (.slice (some ⟨gT, 0, none⟩) (j + 1) cap')) (by simp only [World.setCell, Array.getElem?_modify, if_neg (show ¬ g9 = gT by omega)]))
      have HB7 := Lib.hid ((HBA.out.grown hgrow6 HBA.out.size hob).setCell (p := ⟨g9, 2, none⟩) (by simp; omega) (.slice (some ⟨gT, 0, none⟩) (j + 1) cap'))
      have hz7 : g9 < (w6.setCell ⟨g9, 2, none⟩ (.slice (some ⟨gT, 0, none⟩) (j + 1) cap')).heap.size := by simp; omega
      clear hown hown6 hgrow6 hat6 hne1 hne2 hne3 hob HA6 HAA HOA HBA S9A S6A hi0 hz0 hz1 hz2
      go_wp2_with fail
      clear t0 t1 t2 tf
      generalize w6.setCell _ _ = w7 at *
      go_roundw
      case rel => exact ⟨j + 1, some ⟨gT, 0, none⟩, cap', by go_num, by omega, S97.out, HA7.out, S67.out, HO7.out, HB7.out, hz7⟩
      case measure => simp [intOf]; omega
    · have hj1 : ¬ (j : Int) < (RT.length : Int) := by omega
      obtain rfl : j = RT.length := by omega
      clear hi0 hz0 hz1 hz2 hlt
      have HU := Lib.hid (show RlsOwn wr (g9 + 1) (.slice va RT.length vc) (turnL RT y K) from HA.out)
      have PM := Lib.hid (turnL_perm RT y K)
      have UL := Lib.hid (turnL_len RT y K)
      have VP := Lib.hid (valid_perm (m := mm) (a := 1) PM.out)
      have SH := Lib.hid (show ∀ x ∈ RT, x.inp.length ≤ maxLen ∧ x.out.length ≤ maxLen from fun x hx => by
        rw [HRT.out] at hx
        rcases List.mem_append.1 hx with h | h
        · exact short_rules HV.out x h
        · rw [List.mem_singleton.1 h]; unfold maxLen; omega)
      have SU := Lib.hid (show ∀ x ∈ turnL RT y K, x.inp.length ≤ maxLen ∧ x.out.length ≤ maxLen from fun x hx => SH.out x (PM.out.mem_iff.2 hx))
      obtain ⟨va', vc', hvv, hcu, hXU⟩ := HU.out.at
      obtain ⟨ga, gc, hvg, hcg, hXG⟩ := HO.out.at
      rw [UL.out] at hvv hcu
      obtain ⟨rfl, rfl⟩ : va = va' ∧ vc = vc' := by simpa using hvv
      obtain ⟨rfl, rfl⟩ : some (⟨gg, 0, none⟩ : Addr) = ga ∧ cap = gc := by simpa using hvg
      have XU := Lib.hid (show RlsAt wr wr.heap.size (.slice va (turnL RT y K).length vc) (turnL RT y K) by rw [UL.out]; exact hXU)
      have XG := Lib.hid hXG
      have HCU := Lib.hid hcu
      have HCG := Lib.hid hcg
      clear hvv hvg hcu hcg hXU hXG PM
      go_upto_region 12 with fail
      have FW := Lib.hid (show ∀ W, Below wr.heap.size wr W → W.cell? ⟨g6, 0, none⟩ = some (.int .i64 mm) ∧ W.cell? ⟨g6, 1, none⟩ = some (.int .u8 1) ∧ W.cell? ⟨g6, 2, none⟩ = some (.slice (some ⟨gg, 0, none⟩) RT.length cap) ∧ W.cell? ⟨g9, 0, none⟩ = some (.int .i64 mm) ∧ W.cell? ⟨g9, 1, none⟩ = some (.int .u8 1) ∧ W.cell? ⟨g9, 2, none⟩ = some (.slice va RT.length vc) from fun W h => by
        obtain ⟨e0, e1, e2⟩ := (S6'.out.below h).cells
        obtain ⟨e3, e4, e5⟩ := (S9'.out.below h).cells
        exact ⟨e0, e1, e2, e3, e4, e5⟩)
      obtain ⟨vb, hvb⟩ : ∃ b, validB mm 1 RT = b := ⟨_, rfl⟩
      have VP2 : validB mm 1 (turnL RT y K) = vb := by rw [← VP.out]; exact hvb
      have CV1 := fun W (h : Below wr.heap.size wr W) => Lib.hid (Valid_any mm 1 (some ⟨gg, 0, none⟩) cap RT W (HT.out.below (HB.out.trans (h.mono HB.out.size)) H0.out) (Nat.lt_of_lt_of_le H0.out (HB.out.trans (h.mono HB.out.size)).size) (XG.out.on h) HCG.out (by unfold maxLen; omega) SH.out (by omega) (by omega) (by decide) (by decide))
      have CV2 := fun W (h : Below wr.heap.size wr W) => Lib.hid (Valid_any mm 1 va vc (turnL RT y K) W (HT.out.below (HB.out.trans (h.mono HB.out.size)) H0.out) (Nat.lt_of_lt_of_le H0.out (HB.out.trans (h.mono HB.out.size)).size) (XU.out.on h) (by rw [UL.out]; exact HCU.out) (by rw [UL.out]; unfold maxLen; omega) SU.out (by omega) (by omega) (by decide) (by decide))
      rw [hvb] at CV1
      rw [VP2, UL.out] at CV2
      have HVB := Lib.hid hvb
      have HVU := Lib.hid VP2
      have C1 : ∀ W, Below wr.heap.size wr W → Calls Tryd.prog 19 #[.agg #[.int .i64 mm, .int .u8 1, .slice (some ⟨gg, 0, none⟩) RT.length cap]] W fun e w' => e = .returned (.bool vb) ∧ Below wr.heap.size wr w' := fun W h => ((CV1 W h).out).mono fun e w' h' => ⟨h'.1, h.trans (h'.2.mono h.size)⟩
      have C2 : ∀ W, Below wr.heap.size wr W → Calls Tryd.prog 19 #[.agg #[.int .i64 mm, .int .u8 1, .slice va RT.length vc]] W fun e w' => e = .returned (.bool vb) ∧ Below wr.heap.size wr w' := fun W h => ((CV2 W h).out).mono fun e w' h' => ⟨h'.1, h.trans (h'.2.mono h.size)⟩
      have hbb : (vb == vb) = true := beq_self_eq_true vb
      clear hvb VP2 CV1 CV2 VP
      refine wp_normal ?_
      refine wp_region_class (C := fun W => Below wr.heap.size wr W) (by kernel_rfl) (by kernel_rfl) (Below.refl _ _).drew ?_
      repeat (first | go_big_quiet_skip | (go_big_quiet_want; first | (go_big_quiet_op; go_big_quiet_on) | (refine quiet_value ?_ (fun W h => ?_) ?_; rotate_left; (· obtain ⟨f0, f1, f2, f3, f4, f5⟩ := FW.out W h; go_simp; rfl); go_simp; go_big_quiet_on) | (refine quiet_call _ _ _ (fun W => ?_) C1 ?_; (· go_simp; done); go_simp; go_big_quiet_on) | (refine quiet_call _ _ _ (fun W => ?_) C2 ?_; (· go_simp; done); go_simp; go_big_quiet_on)))
      refine wpQuiet_nil ?_
      intro x8 hcj
      have HB8 := Lib.hid (HB.out.trans (Below.mono hcj HB.out.size))
      have HC8 := Lib.hid hcj
      clear hcj C1 C2
      go_upto_region 14 with fail
      have CP1 : ∀ W, Below x8.heap.size x8 W → Calls Tryd.prog 20 #[.agg #[.int .i64 mm, .int .u8 1, .slice (some ⟨gg, 0, none⟩) RT.length cap]] W fun e w' => e = .returned (.string (B (textP vb mm RT))) ∧ Below W.heap.size W w' := fun W h => by
        have hw := HC8.out.trans (h.mono HC8.out.size)
        have h1 := HT.out.below (HB.out.trans (hw.mono HB.out.size)) H0.out
        have h2 := Nat.lt_of_lt_of_le H0.out (HB.out.trans (hw.mono HB.out.size)).size
        cases vb
        · exact Print_bad mm 1 (some ⟨gg, 0, none⟩) cap RT W h1 h2 (XG.out.on hw) HCG.out (by unfold maxLen; omega) SH.out (by omega) (by omega) (by decide) (by decide) HVB.out
        · exact Print_any mm 1 (some ⟨gg, 0, none⟩) cap RT W h1 (HP.out.below (HB.out.trans (hw.mono HB.out.size))) h2 (XG.out.on hw) HCG.out (by unfold maxLen; omega) SH.out (by omega) (by omega) (by decide) (by decide) HVB.out
      have CP2 : ∀ W, Below x8.heap.size x8 W → Calls Tryd.prog 20 #[.agg #[.int .i64 mm, .int .u8 1, .slice va RT.length vc]] W fun e w' => e = .returned (.string (B (textP vb mm (turnL RT y K)))) ∧ Below W.heap.size W w' := fun W h => by
        have hw := HC8.out.trans (h.mono HC8.out.size)
        have h1 := HT.out.below (HB.out.trans (hw.mono HB.out.size)) H0.out
        have h2 := Nat.lt_of_lt_of_le H0.out (HB.out.trans (hw.mono HB.out.size)).size
        have hu := UL.out
        rw [← hu]
        cases vb
        · exact Print_bad mm 1 va vc (turnL RT y K) W h1 h2 (XU.out.on hw) (by rw [hu]; exact HCU.out) (by rw [hu]; unfold maxLen; omega) SU.out (by omega) (by omega) (by decide) (by decide) HVU.out
        · exact Print_any mm 1 va vc (turnL RT y K) W h1 (HP.out.below (HB.out.trans (hw.mono HB.out.size))) h2 (XU.out.on hw) (by rw [hu]; exact HCU.out) (by rw [hu]; unfold maxLen; omega) SU.out (by omega) (by omega) (by decide) (by decide) HVU.out
      have LP := fun rl (hv : validB mm 1 rl = vb) (hl : rl.length ≤ 10) => Lib.hid (show (textP vb mm rl).length ≤ 1000000 by
        cases vb
        · exact Nat.zero_le _
        · exact Nat.le_trans (print_len10 hv hl) (by omega))
      have CS1 := fun W => Lib.hid (Split_any (B (textP vb mm RT)) 10 W (by rw [size_B]; exact (LP RT HVB.out hN10).out))
      have CS2 := fun W => Lib.hid (Split_any (B (textP vb mm (turnL RT y K))) 10 W (by rw [size_B]; exact (LP (turnL RT y K) HVU.out (by rw [UL.out]; exact hN10)).out))
      rw [toList_B] at CS1 CS2
      have FW8 := Lib.hid (show ∀ W, Below x8.heap.size x8 W → _ from fun W h => FW.out W (HC8.out.trans (h.mono HC8.out.size)))
      refine wp_normal ?_
      refine wp_region_inv 6 (by kernel_rfl) (by decide) (by kernel_rfl) (by kernel_rfl) (fun listed a W => ∃ z70 z71 z72 z73 z74 z75, a = ({ tmps := #[.agg #[.int .u8 k, .int .u8 d, .slice ma mn mc], .agg #[.int .i64 y.src, .int .i64 y.dst, .string (B y.inp), .string (B y.out), .int .i64 y.cost], .int .u8 (K : Nat), .pointer (some ⟨w.heap.size, 0, none⟩), .pointer (some ⟨w.heap.size + 1, 0, none⟩), undef, .bool false, .bool true, .pointer (some ⟨g6, 0, none⟩), .pointer (some ⟨g9, 0, none⟩), .int .i64 (RT.length : Nat), .int .i64 (RT.length : Nat), undef, undef, undef, .bool true, .agg #[.int .u8 k, .int .u8 d, .slice ma mn mc], .agg #[.int .i64 mm, .int .u8 1, .slice (some ⟨b0, off, none⟩) rs.length c], .pointer (some ⟨w.heap.size + 1, 2, none⟩), .string (B y.inp), .int .i64 ((B y.inp).size : Nat), .bool q1, .bool q1, .pointer (some ⟨w.heap.size + 1, 3, none⟩), .string (B y.out), .int .i64 ((B y.out).size : Nat), .bool q2, .bool (q1 || q2), undef, v29, v30, v31, .slice (some ⟨β3, 0, none⟩) rs.length c3, v33, .slice (some ⟨β5, 0, none⟩) 1 1, .slice (some ⟨gg, 0, none⟩) (rs.length + 1) cap, .pointer (some ⟨g6, 2, none⟩), .pointer (some ⟨g6, 0, none⟩), .int .i64 mm, .pointer (some ⟨g6, 1, none⟩), .int .u8 1, .agg #[.int .i64 mm, .int .u8 1, .slice none 0 0], .pointer (some ⟨g6, 2, none⟩), .slice (some ⟨gg, 0, none⟩) (rs.length + 1) cap, .int .i64 (RT.length : Nat), .int .i64 (RT.length : Nat), .int .i64 (RT.length : Nat), .bool false, u48, u49, u50, u51, u52, u53, u54, u55, u56, u57, u58, u59, u60, u61, u62, u63, u64, .agg #[.int .i64 mm, .int .u8 1, .slice (some ⟨gg, 0, none⟩) RT.length cap], .bool vb, .agg #[.int .i64 mm, .int .u8 1, .slice va RT.length vc], .bool vb, .bool false, z70, z71, z72, z73, z74, z75, undef, undef, undef, undef, undef, undef, undef, undef, undef, undef, undef, undef, undef, undef, undef, undef, undef, undef, undef, undef, undef, undef, undef, undef, undef, undef, undef, undef, undef, undef, undef, undef, undef, undef, undef, undef, undef, undef, undef, undef, undef, undef, undef, undef, undef, undef, undef, undef, undef, undef, undef, undef], defers := [] } : Act) ∧ Below x8.heap.size x8 W ∧ (listed.getD 0 false = true → z70 = .agg #[.int .i64 mm, .int .u8 1, .slice (some ⟨gg, 0, none⟩) RT.length cap]) ∧ (listed.getD 1 false = true → z71 = .string (B (textP vb mm RT))) ∧ (listed.getD 2 false = true → ∃ G C, z72 = .slice (some ⟨G, 0, none⟩) (splitS 10 [] (textP vb mm RT)).length C ∧ SCells W G (splitS 10 [] (textP vb mm RT))) ∧ (listed.getD 3 false = true → z73 = .agg #[.int .i64 mm, .int .u8 1, .slice va RT.length vc]) ∧ (listed.getD 4 false = true → z74 = .string (B (textP vb mm (turnL RT y K)))) ∧ (listed.getD 5 false = true → ∃ G C, z75 = .slice (some ⟨G, 0, none⟩) (splitS 10 [] (textP vb mm (turnL RT y K))).length C ∧ SCells W G (splitS 10 [] (textP vb mm (turnL RT y K))))) ?_ ?_ ?_
      · exact ⟨undef, undef, undef, undef, undef, undef, rfl, (Below.refl _ _).drew, fun h => (none_listed h).elim, fun h => (none_listed h).elim, fun h => (none_listed h).elim, fun h => (none_listed h).elim, fun h => (none_listed h).elim, fun h => (none_listed h).elim⟩
      · rintro listed a W i ⟨z70, z71, z72, z73, z74, z75, rfl, hbw, l0, l1, l2, l3, l4, l5⟩ hr hi
        obtain ⟨f0, f1, f2, f3, f4, f5⟩ := FW8.out W hbw
        rcases (show i = 0 ∨ i = 1 ∨ i = 2 ∨ i = 3 ∨ i = 4 ∨ i = 5 by omega) with rfl | rfl | rfl | rfl | rfl | rfl
        · exact wpOp_value (.agg #[.int .i64 mm, .int .u8 1, .slice (some ⟨gg, 0, none⟩) RT.length cap]) rfl rfl (by go_simp) ⟨_, z71, z72, z73, z74, z75, rfl, hbw, fun _ => rfl, fun h => l1 ((listed_set h).resolve_left (by decide)), fun h => l2 ((listed_set h).resolve_left (by decide)), fun h => l3 ((listed_set h).resolve_left (by decide)), fun h => l4 ((listed_set h).resolve_left (by decide)), fun h => l5 ((listed_set h).resolve_left (by decide))⟩
        · obtain rfl := l0 (ready_dep hr rfl (k := 0) (by kernel_rfl))
          refine wpOp_call 20 #[.agg #[.int .i64 mm, .int .u8 1, .slice (some ⟨gg, 0, none⟩) RT.length cap]] rfl rfl (by go_simp) (CP1 W hbw) ?_
          rintro e W' ⟨rfl, hb⟩
          exact ⟨_, rfl, _, _, z72, z73, z74, z75, rfl, hbw.trans (hb.mono hbw.size), fun _ => rfl, fun _ => rfl, fun h => (l2 ((listed_set h).resolve_left (by decide))).imp fun G hG => hG.imp fun C hC => ⟨hC.1, hC.2.below hb⟩, fun h => l3 ((listed_set h).resolve_left (by decide)), fun h => l4 ((listed_set h).resolve_left (by decide)), fun h => (l5 ((listed_set h).resolve_left (by decide))).imp fun G hG => hG.imp fun C hC => ⟨hC.1, hC.2.below hb⟩⟩
        · obtain rfl := l1 (ready_dep hr rfl (k := 1) (by kernel_rfl))
          refine wpOp_call 26 #[.string (B (textP vb mm RT)), .int .u8 10] rfl rfl (by go_simp) ((CS1 W).out) ?_
          rintro e W' ⟨⟨G, C, rfl, ho⟩, hb⟩
          exact ⟨_, rfl, z70, _, _, z73, z74, z75, rfl, hbw.trans (hb.mono hbw.size), fun h => l0 ((listed_set h).resolve_left (by decide)), fun _ => rfl, fun _ => ⟨G, C, rfl, ho.scells⟩, fun h => l3 ((listed_set h).resolve_left (by decide)), fun h => l4 ((listed_set h).resolve_left (by decide)), fun h => (l5 ((listed_set h).resolve_left (by decide))).imp fun G hG => hG.imp fun C hC => ⟨hC.1, hC.2.below hb⟩⟩
        · exact wpOp_value (.agg #[.int .i64 mm, .int .u8 1, .slice va RT.length vc]) rfl rfl (by go_simp) ⟨z70, z71, z72, _, z74, z75, rfl, hbw, fun h => l0 ((listed_set h).resolve_left (by decide)), fun h => l1 ((listed_set h).resolve_left (by decide)), fun h => l2 ((listed_set h).resolve_left (by decide)), fun _ => rfl, fun h => l4 ((listed_set h).resolve_left (by decide)), fun h => l5 ((listed_set h).resolve_left (by decide))⟩
        · obtain rfl := l3 (ready_dep hr rfl (k := 3) (by kernel_rfl))
          refine wpOp_call 20 #[.agg #[.int .i64 mm, .int .u8 1, .slice va RT.length vc]] rfl rfl (by go_simp) (CP2 W hbw) ?_
          rintro e W' ⟨rfl, hb⟩
          exact ⟨_, rfl, z70, z71, z72, _, _, z75, rfl, hbw.trans (hb.mono hbw.size), fun h => l0 ((listed_set h).resolve_left (by decide)), fun h => l1 ((listed_set h).resolve_left (by decide)), fun h => (l2 ((listed_set h).resolve_left (by decide))).imp fun G hG => hG.imp fun C hC => ⟨hC.1, hC.2.below hb⟩, fun _ => rfl, fun _ => rfl, fun h => (l5 ((listed_set h).resolve_left (by decide))).imp fun G hG => hG.imp fun C hC => ⟨hC.1, hC.2.below hb⟩⟩
        · obtain rfl := l4 (ready_dep hr rfl (k := 4) (by kernel_rfl))
          refine wpOp_call 26 #[.string (B (textP vb mm (turnL RT y K))), .int .u8 10] rfl rfl (by go_simp) ((CS2 W).out) ?_
          rintro e W' ⟨⟨G, C, rfl, ho⟩, hb⟩
          exact ⟨_, rfl, z70, z71, z72, z73, _, _, rfl, hbw.trans (hb.mono hbw.size), fun h => l0 ((listed_set h).resolve_left (by decide)), fun h => l1 ((listed_set h).resolve_left (by decide)), fun h => (l2 ((listed_set h).resolve_left (by decide))).imp fun G hG => hG.imp fun C hC => ⟨hC.1, hC.2.below hb⟩, fun h => l3 ((listed_set h).resolve_left (by decide)), fun _ => rfl, fun _ => ⟨G, C, rfl, ho.scells⟩⟩
      rintro listed a W ⟨z70, z71, z72, z73, z74, z75, rfl, hbw, -, -, l2, -, -, l5⟩ hall
      obtain ⟨G1, E1, rfl, K1⟩ := l2 (hall 2 (by decide))
      obtain ⟨G2, E2, rfl, K2⟩ := l5 (hall 5 (by decide))
      simp only [List.drop_succ_cons, List.drop_zero]
      have HBW := Lib.hid hbw
      have HK1 := Lib.hid K1
      have HK2 := Lib.hid K2
      clear l2 l5 hall CP1 CP2 CS1 CS2 LP hbw K1 K2 FW8
      have HC9 := Lib.hid (HC8.out.trans (HBW.out.mono HC8.out.size))
      have HB9 := Lib.hid (HB.out.trans (HC9.out.mono HB.out.size))
      obtain ⟨f0, f1, f2, f3, f4, f5⟩ := FW.out W HC9.out
      have CV := Lib.hid (Valid_any mm 1 (some ⟨gg, 0, none⟩) cap RT W (HT.out.below HB9.out H0.out) (Nat.lt_of_lt_of_le H0.out HB9.out.size) (XG.out.on HC9.out) HCG.out (by unfold maxLen; omega) SH.out (by omega) (by omega) (by decide) (by decide))
      rw [HVB.out] at CV
      clear HC8 HB8 HC9 FW XG XU HCG HCU HBW SH SU HU
      go_wp2_with fail
      refine (CV.out).mono ?_
      rintro e x10 ⟨rfl, hb⟩
      have HB10 := Lib.hid (HB9.out.trans (hb.mono HB9.out.size))
      have K1 := Lib.hid (HK1.out.below hb)
      have K2 := Lib.hid (HK2.out.below hb)
      clear f0 f1 f2 f3 f4 f5 hb CV HK1 HK2 HB9
      cases vb
      · have e1 : (splitS 10 [] (textP false mm RT)).length = 1 := rfl
        rw [e1]
        go_wp2_with fail
        go_returns
        exact ⟨rfl, HB10.out⟩
      have e1 : (splitS 10 [] (textP true mm RT)).length = RT.length + 2 := split_len HVB.out
      have e2 : (splitS 10 [] (textP true mm (turnL RT y K))).length = RT.length + 2 := by rw [← UL.out]; exact split_len HVU.out
      have A0 := K1.out.2 0 (by rw [e1]; omega)
      have B0 := K2.out.2 0 (by rw [e2]; omega)
      have AI := Lib.hid (show ∀ i (h : i < RT.length), x10.cell? ⟨G1, i + 1, none⟩ = some (.string (B (ruleJ RT[i]))) from fun i h => by
        have h1 := K1.out.2 (i + 1) (by rw [e1]; omega)
        rw [h1]
        exact congrArg (fun z => some (Value.string (B z))) (split_at HVB.out i h (by have := split_len HVB.out; omega)))
      have BI := Lib.hid (show ∀ i (h : i < RT.length) (hq : (i + K) % RT.length < RT.length), x10.cell? ⟨G2, i + 1, none⟩ = some (.string (B (ruleJ RT[(i + K) % RT.length]))) from fun i h hq => by
        have h1 := K2.out.2 (i + 1) (by rw [e2]; omega)
        rw [h1]
        refine congrArg (fun z => some (Value.string (B z))) ((split_at HVU.out i (by rw [UL.out]; exact h) (by have := split_len HVU.out; have := UL.out; omega)).trans ?_)
        rw [turnL_get RT y K i h hq])
      rw [show (splitS 10 [] (textP true mm RT))[0]'(by rw [e1]; omega) = headJ mm from split_head HVB.out _] at A0
      rw [show (splitS 10 [] (textP true mm (turnL RT y K)))[0]'(by rw [e2]; omega) = headJ mm from split_head HVU.out _] at B0
      have g1 := K1.out.1
      have g2 := K2.out.1
      rw [e1, e2]
      have FS := Lib.hid (show ∀ W, Below x10.heap.size x10 W → W.cell? ⟨G1, 0, none⟩ = some (.string (B (headJ mm))) ∧ W.cell? ⟨G2, 0, none⟩ = some (.string (B (headJ mm))) from fun W h => ⟨(h.cell (p := ⟨G1, 0, none⟩) g1).trans A0, (h.cell (p := ⟨G2, 0, none⟩) g2).trans B0⟩)
      clear e1 e2 A0 B0 K1 K2 HVB HVU UL
      generalize headJ mm = hd0 at *
      have hbh : ((B hd0).toList == (B hd0).toList) = true := beq_self_eq_true _
      have hw2 : IntKind.i64.wrap ((RT.length : Int) + 2) = (RT.length : Int) + 2 := IntWalk.i64_in _ (by omega)
      have hp2 : (0 : Int) < (RT.length : Int) + 2 := by omega
      go_upto_region 17 with fail
      refine wp_normal ?_
      refine wp_region_class (C := fun W => Below x10.heap.size x10 W) (by kernel_rfl) (by kernel_rfl) (Below.refl _ _).drew ?_
      repeat (first | go_big_quiet_skip | (go_big_quiet_want; first | (go_big_quiet_op; go_big_quiet_on) | (refine quiet_value ?_ (fun W h => ?_) ?_; rotate_left; (· obtain ⟨f0, f1⟩ := FS.out W h; go_simp; rfl); go_simp; go_big_quiet_on)))
      refine wpQuiet_nil ?_
      intro x11 hcj
      have HB11 := Lib.hid (HB10.out.trans (Below.mono hcj HB10.out.size))
      have AJ := Lib.hid (show ∀ W, Below x11.heap.size x11 W → ∀ i (h : i < RT.length), W.cell? ⟨G1, i + 1, none⟩ = some (.string (B (ruleJ RT[i]))) from fun W h i hi => ((Below.trans hcj (h.mono hcj.size)).cell (p := ⟨G1, i + 1, none⟩) g1).trans (AI.out i hi))
      have BJ := Lib.hid (show ∀ W, Below x11.heap.size x11 W → ∀ i (h : i < RT.length) (hq : (i + K) % RT.length < RT.length), W.cell? ⟨G2, i + 1, none⟩ = some (.string (B (ruleJ RT[(i + K) % RT.length]))) from fun W h i hi hq => ((Below.trans hcj (h.mono hcj.size)).cell (p := ⟨G2, i + 1, none⟩) g2).trans (BI.out i hi hq))
      clear FS AI BI hcj HB10 hbh
      go_wp2_with fail
      go_loopw [14] (fun iv wr => ∃ j : Nat, iv = .int .i64 (j : Nat) ∧ j ≤ RT.length ∧ Below x11.heap.size x11 wr) (fun iv _ => RT.length - (intOf iv).toNat)
      case atStart => exact ⟨0, rfl, Nat.zero_le _, Below.refl _ _⟩
      case round =>
        obtain ⟨j, rfl, hj, hb⟩ := hrel
        have HBR := Lib.hid hb
        clear hb
        by_cases hlt : j < RT.length
        · have hlt' : (j : Int) < (RT.length : Int) := by omega
          obtain ⟨q, hq⟩ : ∃ q, q = (j + K) % RT.length := ⟨_, rfl⟩
          have hqN : q < RT.length := by rw [hq]; exact Nat.mod_lt _ (by omega)
          have hqi : ((j : Int) + (K : Int)) % (RT.length : Int) = (q : Int) := by rw [hq, Int.natCast_emod, Int.natCast_add]
          have hqt : ((j : Int) + (K : Int)).tmod (RT.length : Int) = (q : Int) := by rw [Int.tmod_eq_emod_of_nonneg (by omega)]; exact hqi
          have hwK : IntKind.i64.wrap (K : Int) = (K : Int) := IntWalk.i64_in _ (by omega)
          have hwjK : IntKind.i64.wrap ((j : Int) + (K : Int)) = (j : Int) + (K : Int) := IntWalk.i64_in _ (by omega)
          have hnz : ¬ ((RT.length : Int) = 0) := by omega
          have hne0 : ¬ RT = [] := by intro e; rw [e] at hN1; simp at hN1
          obtain ⟨p, hp⟩ : ∃ p, p = j + 1 := ⟨_, rfl⟩
          obtain ⟨r, hr⟩ : ∃ r, r = q + 1 := ⟨_, rfl⟩
          have hwp : IntKind.i64.wrap ((j : Int) + 1) = (p : Int) := by rw [IntWalk.i64_in _ (by omega)]; omega
          have hwr : IntKind.i64.wrap ((q : Int) + 1) = (r : Int) := by rw [IntWalk.i64_in _ (by omega)]; omega
          have hp0 : (0 : Int) ≤ (p : Int) := by omega
          have hp1 : (p : Int) < (RT.length : Int) + 2 := by omega
          have hr0 : (0 : Int) ≤ (r : Int) := by omega
          have hr1 : (r : Int) < (RT.length : Int) + 2 := by omega
          obtain ⟨X, hX⟩ : ∃ X, X = ruleJ (RT[q]'hqN) := ⟨_, rfl⟩
          have FL := Lib.hid (show ∀ W, Below wr.heap.size wr W → W.cell? ⟨G2, p, none⟩ = some (.string (B X)) ∧ W.cell? ⟨G1, r, none⟩ = some (.string (B X)) from fun W h => by
            have h2 := HBR.out.trans (h.mono HBR.out.size)
            have e1 := BJ.out W h2 j hlt (by rw [← hq]; exact hqN)
            have e2 := AJ.out W h2 q hqN
            rw [hp, hr, hX]
            refine ⟨?_, e2⟩
            rw [e1]
            exact congrArg (fun z => some (Value.string (B (ruleJ z)))) (by congr 1; exact hq.symm))
          have HPP := Lib.hid hp
          have hbX : ((B X).toList == (B X).toList) = true := beq_self_eq_true _
          clear hq hp hr hX AJ BJ
          go_upto_region 22 with fail
          refine wp_normal ?_
          refine wp_region_class (C := fun W => Below wr.heap.size wr W) (by kernel_rfl) (by kernel_rfl) (Below.refl _ _).drew ?_
          repeat (first | go_big_quiet_skip | (go_big_quiet_want; first | (go_big_quiet_op; go_big_quiet_on) | (refine quiet_value ?_ (fun W h => ?_) ?_; rotate_left; (· obtain ⟨f0, f1⟩ := FL.out W h; go_simp; rfl); go_simp; go_big_quiet_on) | (refine quiet_value (.int .i64 (q : Int)) (fun W h => ?_) ?_; (· go_simp; done); go_simp; go_big_quiet_on)))
          refine wpQuiet_nil ?_
          intro x12 hcj
          have HB12 := Lib.hid (HBR.out.trans (Below.mono hcj HBR.out.size))
          clear hcj FL
          go_wp2_with fail
          go_roundw
          case rel => exact ⟨p, rfl, by have := HPP.out; omega, HB12.out⟩
          case measure => have := HPP.out; simp [intOf]; omega
        · have hj1 : ¬ (j : Int) < (RT.length : Int) := by omega
          go_wp2_with fail
          go_ret
          exact ⟨rfl, HB11.out.trans (HBR.out.mono HB11.out.size)⟩
end Go.Proofs.YtnbiedijofdjhaaDoor
