/-
  The walk of the law EventValid: it answers true, whatever its raw event, its event and its two numbers are.
-/
import Derived.Test.YtcbboegjegobeaaDoorPP
import Derived.Test.YtcbboegjegobeaaDoorVO
import Derived.Test.YtcbboegjegobeaaDoorRP
import Derived.Laws.IdiomStrings
import Derived.Deep.DeepCutAuto
import Derived.Deep.CutBlock
import Derived.Deep.RegionHeld3
namespace Go.Proofs.YtcbboegjegobeaaDoor
open Go.RowKit
open Pl

theorem EvBlock.set0' {W : World} {b : Nat} {c0 c1 c2 c3 c4 c5 : Value} (h : EvBlock W b c0 c1 c2 c3 c4 c5) (v : Value) : EvBlock (W.setCell ⟨b, 0, none⟩ v) b v c1 c2 c3 c4 c5 := by
  unfold EvBlock at h ⊢
  rw [heap_setCell_same W b 0 _ 31 v h]; rfl
theorem conv_byte (u : UInt8) (g : Nat) (W : World) (h : W.cell? ⟨g, 0, none⟩ = some (.int .u8 (u.toNat : Int))) : (convert 22 9 (.slice (some ⟨g, 0, none⟩) 1 1)).run Tryd.prog W = .ok (.string (B [u])) W :=
  run_convert_bytes_back W 22 9 5 ⟨g, 0, none⟩ 1 [u] Tryd.underlying22 Tryd.underlying5 Tryd.underlying9 (fun j hj => by
    obtain rfl : j = 0 := by simpa using hj
    rw [add_none]
    exact h)
theorem spans_kt' : ∀ i, i < 12 → spanAt i 1 ≤ 20 ∧ spanAt i 5 ≤ 20 := under12 (by decide) (by decide) (by decide) (by decide) (by decide) (by decide) (by decide) (by decide) (by decide) (by decide) (by decide) (by decide)
theorem valid_lens' {ev : Ev} (h : validB ev = true) : ev.keys.length ≤ 20 ∧ ev.text.length ≤ 20 := by
  obtain ⟨i, hi, _, _, hf⟩ := validB_kind h
  have h1 := (fitsB_true hf).1
  rw [size_B, size_B] at h1
  have := spans_kt' i hi
  omega
theorem own_ne {W : World} {b b9 : Nat} {v : Value} {ps : List (Int × Int)} {c0 c1 c2 c3 c4 c5 : Value} (h : OwnsP W b v ps) (he : EvBlock W b9 c0 c1 c2 c3 c4 c5) : v.ownBlock ≠ some b9 := by
  rcases h.2 with ⟨rfl, _⟩ | ⟨g, cap, cur, rfl, _, hh, _⟩
  · intro e; cases e
  · intro e
    have e' : g = b9 := by simpa [Value.ownBlock] using e
    subst e'
    unfold EvBlock at he
    rw [hh] at he
    have h3 := congrArg (fun o : Option Obj => match o with | some (.cells _ t _) => t | _ => 0) he
    exact absurd (show (42 : Nat) = 31 from h3) (by decide)
theorem own_setEv {W : World} {b b9 o : Nat} {v u : Value} {ps : List (Int × Int)} {c0 c1 c2 c3 c4 c5 : Value} (h : OwnsP W b v ps) (he : EvBlock W b9 c0 c1 c2 c3 c4 c5) : OwnsP (W.setCell ⟨b9, o, none⟩ u) b v ps := by
  have hne := own_ne h he
  refine ⟨h.1, ?_⟩
  rcases h.2 with h0 | ⟨g, cap, cur, rfl, hb, hh, r⟩
  · exact Or.inl h0
  · have hg : g ≠ b9 := fun e => hne (by rw [e]; rfl)
    exact Or.inr ⟨g, cap, cur, rfl, hb, by rw [Below.heap_setCell _ _ _ _ hg]; exact hh, r⟩
/-- Some event in block b, with points, none of it long. -/
def SomeEv (W : World) (b : Nat) : Prop := ∃ (ev : Ev) (a : Option Addr) (c : Nat), EvBlock W b (.int .i64 ev.kind) (.string (B ev.keys)) (.slice a ev.p.length c) (.string (B ev.text)) (.int .i64 ev.n) (.int .i64 ev.l) ∧ PtsAt W W.heap.size (.slice a ev.p.length c) ev.p ∧ ev.p.length ≤ 1000 ∧ ev.keys.length ≤ 1000 ∧ ev.text.length ≤ 1000

set_option maxHeartbeats 2000000 in
set_option maxRecDepth 100000 in
theorem valid_any (mx k1 n1 m1 : Int) (la1 pa1 : Option Addr) (ln1 lc1 pn1 pc1 : Nat) (yk : Int) (ys yt : List UInt8) (yp : List (Int × Int)) (ya : Option Addr) (yc : Nat) (yn yl w0 w1 : Int) (w : World) (hT : PowTab w) (hm : MaxVar w mx) (hw0 : 0 < w.heap.size)
    (hx : RawAt w w.heap.size (.agg #[.int .u8 k1, .slice la1 ln1 lc1, .slice pa1 pn1 pc1, .int .u8 n1, .int .u8 m1])) (hy : PtsAt w w.heap.size (.slice ya yp.length yc) yp) (hypl : yp.length ≤ maxLen) (hb1 : -128 ≤ w1) (hb1' : w1 ≤ 127) :
    Calls Tryd.prog 4 #[.agg #[.int .u8 k1, .slice la1 ln1 lc1, .slice pa1 pn1 pc1, .int .u8 n1, .int .u8 m1], .agg #[.int .i64 yk, .string (B ys), .slice ya yp.length yc, .string (B yt), .int .i64 yn, .int .i64 yl], .agg #[.int .i8 w0, .int .i8 w1]] w fun e w' => e = .returned (.bool true) ∧ Below w.heap.size w w' := by
  obtain ⟨i0, hi0, hz0, hz1, hz2⟩ := info_parts info42
  obtain ⟨RW, hRW⟩ : ∃ o : Obj, o = .cells #[.int .u8 k1, .slice la1 ln1 lc1, .slice pa1 pn1 pc1, .int .u8 n1, .int .u8 m1] 25 := ⟨_, rfl⟩
  obtain ⟨EV, hEV⟩ : ∃ o : Obj, o = .cells #[.int .i64 yk, .string (B ys), .slice ya yp.length yc, .string (B yt), .int .i64 yn, .int .i64 yl] 31 := ⟨_, rfl⟩
  obtain ⟨TW, hTW⟩ : ∃ o : Obj, o = .cells #[.int .i8 w0, .int .i8 w1] 40 := ⟨_, rfl⟩
  have e1 : (w.alloc RW).heap.size = w.heap.size + 1 := World.size_alloc _ _
  have e2 : ((w.alloc RW).alloc EV).heap.size = w.heap.size + 1 + 1 := by rw [World.size_alloc, e1]
  have hA1 : Below w.heap.size w (w.alloc RW) := (Below.refl _ _).alloc (Nat.le_refl _) _
  have hA2 : Below w.heap.size w ((w.alloc RW).alloc EV) := hA1.alloc (by omega) _
  have hA : Below w.heap.size w (((w.alloc RW).alloc EV).alloc TW) := hA2.alloc (by omega) _
  have R1a : RwBlock (((w.alloc RW).alloc EV).alloc TW) w.heap.size k1 (.slice la1 ln1 lc1) (.slice pa1 pn1 pc1) n1 m1 := by
    have h := RwBlock.new w k1 (.slice la1 ln1 lc1) (.slice pa1 pn1 pc1) n1 m1
    rw [← hRW] at h
    exact (h.alloc _).alloc _
  have Y1a : EvBlock (((w.alloc RW).alloc EV).alloc TW) (w.heap.size + 1) (.int .i64 yk) (.string (B ys)) (.slice ya yp.length yc) (.string (B yt)) (.int .i64 yn) (.int .i64 yl) := by
    have h := EvBlock.new (w.alloc RW) (.int .i64 yk) (.string (B ys)) (.slice ya yp.length yc) (.string (B yt)) (.int .i64 yn) (.int .i64 yl)
    rw [← hEV, e1] at h
    exact h.alloc _
  have W1a : (((w.alloc RW).alloc EV).alloc TW).heap[w.heap.size + 1 + 1]? = some (.cells #[.int .i8 w0, .int .i8 w1] 40 (0, 0)) := by
    have h := heap_alloc_new ((w.alloc RW).alloc EV) TW
    rw [e2] at h
    rw [h, hTW]
  have C0 := Lib.hid (sanity_any mx (((w.alloc RW).alloc EV).alloc TW) (hT.below hA) (hm.below hA hw0) (Nat.lt_of_lt_of_le hw0 hA.size))
  have T := Lib.hid (hT.below hA)
  have X1 := Lib.hid (hx.into hA)
  have R1 := Lib.hid R1a
  have Y1 := Lib.hid Y1a
  have W1 := Lib.hid W1a
  have PY := Lib.hid (hy.on hA)
  have HA := Lib.hid hA
  subst hRW hEV hTW
  clear e1 e2 hA1 hA2 hA R1a Y1a W1a hT hm hw0 hx hy
  unfold maxLen at hypl
  go_enter Tryd.func4, Tryd.ntmps4
  go_wp2_with fail
  generalize ((w.alloc (.cells #[.int .u8 k1, .slice la1 ln1 lc1, .slice pa1 pn1 pc1, .int .u8 n1, .int .u8 m1] 25)).alloc _).alloc _ = w2 at *
  refine (C0.out).mono ?_
  rintro e x0 ⟨rfl, hb⟩
  have T0 := Lib.hid (T.out.below hb)
  have X0 := Lib.hid (X1.out.into hb)
  have PY0 := Lib.hid (PY.out.on hb)
  have R0 := Lib.hid (R1.out.below hb)
  have Y0 := Lib.hid (Y1.out.below hb)
  have W0 := Lib.hid ((hb.block _ (lt_of_heap W1.out)).trans W1.out)
  have H0 := Lib.hid (HA.out.trans (hb.mono HA.out.size))
  clear hb C0 T X1 R1 Y1 W1 PY HA
  obtain ⟨r0, r1, r2, r3, r4⟩ := R0.out.cells
  obtain ⟨y0, y1, y2, y3, y4, y5⟩ := Y0.out.cells
  by_cases hl1 : (14 : Int) < (yp.length : Int)
  · clear r0 r1 r2 r3 r4
    go_wp2_with fail
    go_ret
    exact ⟨rfl, H0.out⟩
  by_cases hl2 : (30 : Int) < ((B ys).size : Int)
  · clear r0 r1 r2 r3 r4
    go_wp2_with fail
    go_ret
    exact ⟨rfl, H0.out⟩
  by_cases hl3 : (30 : Int) < ((B yt).size : Int)
  · clear r0 r1 r2 r3 r4
    go_wp2_with fail
    go_ret
    exact ⟨rfl, H0.out⟩
  go_wp2_with fail
  have hl1' : yp.length ≤ 14 := by omega
  have hl2' : ys.length ≤ 30 := by rw [size_B] at hl2; omega
  have hl3' : yt.length ≤ 30 := by rw [size_B] at hl3; omega
  clear r0 r1 r2 r3 r4 y0 y1 y2 y3 y4 y5 hl1 hl2 hl3
  refine (made_raw _ _ X0.out).mono ?_
  rintro e x1 ⟨⟨ev1, a1, c1, rfl, hv1, hO⟩, hb⟩
  have hv1' := Lib.hid hv1
  have hal := below_alloc x1 (.cells #[.int .i64 ev1.kind, .string (B ev1.keys), .slice a1 ev1.p.length c1, .string (B ev1.text), .int .i64 ev1.n, .int .i64 ev1.l] 31)
  have X1 := Lib.hid ((X0.out.into hb).into hal)
  have R1 := (R0.out.below hb).alloc (.cells #[.int .i64 ev1.kind, .string (B ev1.keys), .slice a1 ev1.p.length c1, .string (B ev1.text), .int .i64 ev1.n, .int .i64 ev1.l] 31)
  have Y1 := Lib.hid ((Y0.out.below hb).below hal)
  have W1 := Lib.hid ((hal.block _ (Nat.lt_of_lt_of_le (lt_of_heap W0.out) hb.size)).trans ((hb.block _ (lt_of_heap W0.out)).trans W0.out))
  have PY1 := Lib.hid ((PY0.out.on hb).on hal)
  have H1 := Lib.hid ((H0.out.trans (hb.mono H0.out.size)).trans (hal.mono (Nat.le_trans H0.out.size hb.size)))
  have E1 := Lib.hid (EvBlock.new x1 (.int .i64 ev1.kind) (.string (B ev1.keys)) (.slice a1 ev1.p.length c1) (.string (B ev1.text)) (.int .i64 ev1.n) (.int .i64 ev1.l))
  have P1 := Lib.hid (hO.pts.on hal)
  clear hb hal hO hv1 T0 X0 PY0 R0 Y0 W0 H0
  obtain ⟨r0, r1, r2, r3, r4⟩ := R1.cells
  clear R1
  unfold evVal
  go_wp2_with fail
  clear r0 r1 r2 r3 r4
  generalize x1.alloc (.cells #[.int .i64 ev1.kind, .string (B ev1.keys), .slice a1 ev1.p.length c1, .string (B ev1.text), .int .i64 ev1.n, .int .i64 ev1.l] 31) = z1 at *
  refine (made_raw _ _ X1.out).mono ?_
  rintro e x2 ⟨⟨ev2, a2, c2, rfl, hv2, hO⟩, hb⟩
  have hv2' := Lib.hid hv2
  have hal := below_alloc x2 (.cells #[.int .i64 ev2.kind, .string (B ev2.keys), .slice a2 ev2.p.length c2, .string (B ev2.text), .int .i64 ev2.n, .int .i64 ev2.l] 31)
  have HZ := Lib.hid hb
  have O2 := Lib.hid (World.ownsRow.alloc hO (.cells #[.int .i64 ev2.kind, .string (B ev2.keys), .slice a2 ev2.p.length c2, .string (B ev2.text), .int .i64 ev2.n, .int .i64 ev2.l] 31))
  have P2 := Lib.hid hO.pts
  have E2 := Lib.hid (EvBlock.new x2 (.int .i64 ev2.kind) (.string (B ev2.keys)) (.slice a2 ev2.p.length c2) (.string (B ev2.text)) (.int .i64 ev2.n) (.int .i64 ev2.l))
  have W2 := (hal.block _ (Nat.lt_of_lt_of_le (lt_of_heap W1.out) hb.size)).trans ((hb.block _ (lt_of_heap W1.out)).trans W1.out)
  have Y2 := (Y1.out.below hb).below hal
  have HAL := Lib.hid hal
  have w20 : (x2.alloc (.cells #[.int .i64 ev2.kind, .string (B ev2.keys), .slice a2 ev2.p.length c2, .string (B ev2.text), .int .i64 ev2.n, .int .i64 ev2.l] 31)).cell? ⟨w.heap.size + 1 + 1, 0, none⟩ = some (.int .i8 w0) := by simp [World.cell?, W2]
  have w21 : (x2.alloc (.cells #[.int .i64 ev2.kind, .string (B ev2.keys), .slice a2 ev2.p.length c2, .string (B ev2.text), .int .i64 ev2.n, .int .i64 ev2.l] 31)).cell? ⟨w.heap.size + 1 + 1, 1, none⟩ = some (.int .i8 w1) := by simp [World.cell?, W2]
  clear hb hal hO hv2 W2 X1
  obtain ⟨g0, g1, g2, g3, g4, g5⟩ := E2.out.cells
  obtain ⟨f0, f1, f2, f3, f4, f5⟩ := E2.out.free
  obtain ⟨y0, y1, y2, y3, y4, y5⟩ := Y2.cells
  clear Y2
  unfold evVal
  go_upto_block 0 with fail
  generalize hrr : w0 % 256 % 8 = r at *
  have hr : r = 0 ∨ r = 1 ∨ r = 2 ∨ r = 3 ∨ r = 4 ∨ r = 5 ∨ r = 6 ∨ r = 7 := by omega
  clear hrr
  generalize x2.alloc (.cells #[.int .i64 ev2.kind, .string (B ev2.keys), .slice a2 ev2.p.length c2, .string (B ev2.text), .int .i64 ev2.n, .int .i64 ev2.l] 31) = z2 at *
  have hlen : ev2.p.length ≤ 12 ∧ ev2.keys.length ≤ 20 ∧ ev2.text.length ≤ 20 := ⟨valid_pts hv2'.out, valid_lens' hv2'.out⟩
  have LZ := Lib.hid HZ.out.size
  have KZ := Lib.hid (fun W (hb : Below x2.heap.size x2 W) => (⟨(P2.out.below hb).up hb.size, HZ.out.trans (hb.mono HZ.out.size)⟩ : PtsAt W W.heap.size (.slice a2 ev2.p.length c2) ev2.p ∧ Below z1.heap.size z1 W))
  go_cut [] (fun wx => SomeEv wx x2.heap.size ∧ Below z1.heap.size z1 wx)
  case first =>
    rcases hr with rfl | rfl | rfl | rfl | rfl | rfl | rfl | rfl
    · go_wp2_with fail
      go_meet
      have hk := KZ.out _ (HAL.out.setCell (p := ⟨x2.heap.size, 0, none⟩) (Nat.le_refl _) (.int .i64 (wrap64 (ev2.kind + w1))))
      exact ⟨⟨⟨_, ev2.keys, ev2.p, ev2.text, ev2.n, ev2.l⟩, a2, c2, E2.out.set0' _, hk.1, by show ev2.p.length ≤ 1000; omega, by dsimp only; omega, by dsimp only; omega⟩, hk.2⟩
    · obtain ⟨u, hu⟩ : ∃ u : UInt8, w1 % 256 = (u.toNat : Int) := ⟨UInt8.ofNat (w1 % 256).toNat, by simp; omega⟩
      have HC := conv_byte u
      have HS := Lib.hid (show (B ev2.keys).size + (B [u]).size ≤ 9223372036854775807 by rw [size_B, size_B]; simp; omega)
      have E2A := E2.out.alloc (.cells #[.int .u8 (u.toNat : Int)] 5)
      obtain ⟨k0, k1', k2, k3, k4, k5⟩ := E2A.cells
      obtain ⟨m0, m1', m2, m3, m4, m5⟩ := E2A.free
      go_wp2_with (first
        | (refine cat_step rfl _ _ _ rfl (B ev2.keys) (B [u]) rfl rfl HS.out ?_))
      go_meet
      have hk := KZ.out _ ((HAL.out.alloc HAL.out.size (.cells #[.int .u8 (u.toNat : Int)] 5)).setCell (p := ⟨x2.heap.size, 1, none⟩) (Nat.le_refl _) (.string (B ev2.keys ++ B [u])))
      rw [B_app] at hk ⊢
      exact ⟨⟨⟨ev2.kind, ev2.keys ++ [u], ev2.p, ev2.text, ev2.n, ev2.l⟩, a2, c2, E2A.set1 _, hk.1, by show ev2.p.length ≤ 1000; omega, by simp; omega, by dsimp only; omega⟩, hk.2⟩
    · have hn' : ev2.p.length + 1 ≤ maxLen := by unfold maxLen; omega
      have hby : (ev2.p.length + 1) * 16 ≤ 140737488355328 := by omega
      have hz1z : z1.heap.size ≤ z2.heap.size := Nat.le_trans LZ.out HAL.out.size
      go_wp2_with (at_builtin; refine wpList_append_lies _ rfl _ _ _ rfl z1.heap.size 42 i0 _ 2 16 Tryd.underlying29 hi0 hz0 hz1 hz2 rfl (by omega) (.slice a2 ev2.p.length c2) ev2.p.length (ptCells ev2.p) (by rfl) (World.ownsRow.alloc O2.out _) ⟨z2.heap.size, 0, none⟩ 1 1 [.int .i64 (10 * w1), .int .i64 5] (by rfl) (by rfl) (World.news_of_block (cs := #[.int .i64 (10 * w1), .int .i64 5]) (t := 42) (fr := (0, 0)) (heap_alloc_new z2 _)) (by simp [Value.oneCell']) (by omega) hn' hby (by simp; omega) (z2.heap.size + 1) (by simp) ?_; intro gg cap' w3 hown2 hgrow hat hlt2; have E3 := (E2.out.alloc (.cells #[.int .i64 (10 * w1), .int .i64 5] 42)).kept hgrow (Ne.symm (own_ne O2.out E2.out)); obtain ⟨k0, k1', k2, k3, k4, k5⟩ := E3.cells; obtain ⟨m0, m1', m2, m3, m4, m5⟩ := E3.free)
      have B3 := Lib.hid ((KZ.out _ (HAL.out.alloc HAL.out.size (.cells #[.int .i64 (10 * w1), .int .i64 5] 42))).2.grown hgrow (by rw [World.size_alloc]; omega) (fun k hk => (World.ownsRow.lt O2.out k hk).1))
      have O3 := Lib.hid (show OwnsP w3 z1.heap.size (.slice (some ⟨gg, 0, none⟩) (ev2.p ++ [(10 * w1, (5 : Int))]).length cap') (ev2.p ++ [(10 * w1, (5 : Int))]) by
        unfold OwnsP
        rw [List.length_append]
        have e : ptCells (ev2.p ++ [(10 * w1, (5 : Int))]) = ptCells ev2.p ++ [.int .i64 (10 * w1), .int .i64 5] := by simp [ptCells]
        rw [e]
        exact hown2)
      have E3' := Lib.hid E3
      go_meet
      have hO := own_setEv (o := 2) (u := .slice (some ⟨gg, 0, none⟩) (ev2.p.length + 1) cap') O3.out E3'.out
      refine ⟨⟨⟨ev2.kind, ev2.keys, ev2.p ++ [(10 * w1, 5)], ev2.text, ev2.n, ev2.l⟩, some ⟨gg, 0, none⟩, cap', ?_, ?_, ?_, ?_, ?_⟩, B3.out.setCell (p := ⟨x2.heap.size, 2, none⟩) LZ.out _⟩
      · show EvBlock _ _ _ _ (.slice _ (ev2.p ++ [(10 * w1, (5 : Int))]).length _) _ _ _
        rw [List.length_append]
        exact E3'.out.setP _
      · exact hO.pts
      · simp; omega
      · dsimp only; omega
      · dsimp only; omega
    · go_wp2_with fail
      go_meet
      have hk := KZ.out _ (HAL.out.setCell (p := ⟨x2.heap.size, 3, none⟩) (Nat.le_refl _) (.string (B yt)))
      exact ⟨⟨⟨ev2.kind, ev2.keys, ev2.p, yt, ev2.n, ev2.l⟩, a2, c2, E2.out.set3 _, hk.1, by show ev2.p.length ≤ 1000; omega, by dsimp only; omega, by dsimp only; omega⟩, hk.2⟩
    · go_wp2_with fail
      go_meet
      have hk := KZ.out _ (HAL.out.setCell (p := ⟨x2.heap.size, 4, none⟩) (Nat.le_refl _) (.int .i64 (wrap64 (ev2.n + w1))))
      exact ⟨⟨⟨ev2.kind, ev2.keys, ev2.p, ev2.text, wrap64 (ev2.n + w1), ev2.l⟩, a2, c2, E2.out.set4 _, hk.1, by show ev2.p.length ≤ 1000; omega, by dsimp only; omega, by dsimp only; omega⟩, hk.2⟩
    · go_wp2_with fail
      go_meet
      have hk := KZ.out _ (HAL.out.setCell (p := ⟨x2.heap.size, 5, none⟩) (Nat.le_refl _) (.int .i64 (wrap64 (ev2.l + w1))))
      exact ⟨⟨⟨ev2.kind, ev2.keys, ev2.p, ev2.text, ev2.n, wrap64 (ev2.l + w1)⟩, a2, c2, E2.out.set5 _, hk.1, by show ev2.p.length ≤ 1000; omega, by dsimp only; omega, by dsimp only; omega⟩, hk.2⟩
    · go_wp2_with fail
      go_meet
      have hk := KZ.out _ (HAL.out.setCell (p := ⟨x2.heap.size, 2, none⟩) (Nat.le_refl _) (.slice ya yp.length yc))
      exact ⟨⟨⟨ev2.kind, ev2.keys, yp, ev2.text, ev2.n, ev2.l⟩, ya, yc, E2.out.setP _, PY1.out.on hk.2, by dsimp only; omega, by dsimp only; omega, by dsimp only; omega⟩, hk.2⟩
    · go_wp2_with fail
      go_meet
      have hk := KZ.out _ (HAL.out.setCell (p := ⟨x2.heap.size, 1, none⟩) (Nat.le_refl _) (.string (B ys)))
      exact ⟨⟨⟨ev2.kind, ys, ev2.p, ev2.text, ev2.n, ev2.l⟩, a2, c2, E2.out.set1 _, hk.1, by show ev2.p.length ≤ 1000; omega, by dsimp only; omega, by dsimp only; omega⟩, hk.2⟩
  case rest =>
    obtain ⟨⟨ez, az, cz, hEz, hPz, hz1, hz2, hz3⟩, hbz⟩ := hcut
    clear g0 g1 g2 g3 g4 g5 f0 f1 f2 f3 f4 f5 y0 y1 y2 y3 y4 y5 w20 w21 hr hlen
    generalize wc = zz at *
    have EZ := Lib.hid hEz
    have PZ := Lib.hid hPz
    have E1z := Lib.hid (E1.out.below hbz)
    have P1z := Lib.hid (P1.out.on hbz)
    have Y1z := Lib.hid (Y1.out.below hbz)
    have PYz := Lib.hid (PY1.out.on hbz)
    have Hz := Lib.hid (H1.out.trans (hbz.mono H1.out.size))
    have HV := Lib.hid hv1'.out
    clear hEz hPz hbz E1 P1 Y1 PY1 H1 W1 HZ O2 P2 E2 HAL LZ KZ hv2' hv1' hz0
    have CJ : ∀ W, Below zz.heap.size zz W → Hid (W.cell? ⟨x1.heap.size, 0, none⟩ = some (.int .i64 ev1.kind) ∧ W.cell? ⟨x1.heap.size, 1, none⟩ = some (.string (B ev1.keys)) ∧ W.cell? ⟨x1.heap.size, 2, none⟩ = some (.slice a1 ev1.p.length c1) ∧ W.cell? ⟨x1.heap.size, 3, none⟩ = some (.string (B ev1.text)) ∧ W.cell? ⟨x1.heap.size, 4, none⟩ = some (.int .i64 ev1.n) ∧ W.cell? ⟨x1.heap.size, 5, none⟩ = some (.int .i64 ev1.l) ∧ W.cell? ⟨x2.heap.size, 0, none⟩ = some (.int .i64 ez.kind) ∧ W.cell? ⟨x2.heap.size, 1, none⟩ = some (.string (B ez.keys)) ∧ W.cell? ⟨x2.heap.size, 2, none⟩ = some (.slice az ez.p.length cz) ∧ W.cell? ⟨x2.heap.size, 3, none⟩ = some (.string (B ez.text)) ∧ W.cell? ⟨x2.heap.size, 4, none⟩ = some (.int .i64 ez.n) ∧ W.cell? ⟨x2.heap.size, 5, none⟩ = some (.int .i64 ez.l) ∧ W.cell? ⟨w.heap.size + 1, 0, none⟩ = some (.int .i64 yk) ∧ W.cell? ⟨w.heap.size + 1, 1, none⟩ = some (.string (B ys)) ∧ W.cell? ⟨w.heap.size + 1, 2, none⟩ = some (.slice ya yp.length yc) ∧ W.cell? ⟨w.heap.size + 1, 3, none⟩ = some (.string (B yt)) ∧ W.cell? ⟨w.heap.size + 1, 4, none⟩ = some (.int .i64 yn) ∧ W.cell? ⟨w.heap.size + 1, 5, none⟩ = some (.int .i64 yl) ∧ Below zz.heap.size zz W) := fun W hb => by
      obtain ⟨e0, e1, e2, e3, e4, e5⟩ := (E1z.out.below hb).cells
      obtain ⟨b0, b1, b2, b3, b4, b5⟩ := (EZ.out.below hb).cells
      obtain ⟨d0, d1, d2, d3, d4, d5⟩ := (Y1z.out.below hb).cells
      exact Lib.hid ⟨e0, e1, e2, e3, e4, e5, b0, b1, b2, b3, b4, b5, d0, d1, d2, d3, d4, d5, hb⟩
    have hl1m : ev1.p.length ≤ maxLen := by have := valid_pts HV.out; unfold maxLen; omega
    have hlzm : ez.p.length ≤ maxLen := by unfold maxLen; omega
    have hlym : yp.length ≤ maxLen := by unfold maxLen; omega
    obtain ⟨vz, hvz⟩ : ∃ b : Bool, b = validB ⟨ez.kind, ez.keys, ez.p, ez.text, ez.n, ez.l⟩ := ⟨_, rfl⟩
    obtain ⟨vy, hvy⟩ : ∃ b : Bool, b = validB ⟨yk, ys, yp, yt, yn, yl⟩ := ⟨_, rfl⟩
    have CV1 : ∀ W, (W.cell? ⟨x1.heap.size, 0, none⟩ = some (.int .i64 ev1.kind) ∧ W.cell? ⟨x1.heap.size, 1, none⟩ = some (.string (B ev1.keys)) ∧ W.cell? ⟨x1.heap.size, 2, none⟩ = some (.slice a1 ev1.p.length c1) ∧ W.cell? ⟨x1.heap.size, 3, none⟩ = some (.string (B ev1.text)) ∧ W.cell? ⟨x1.heap.size, 4, none⟩ = some (.int .i64 ev1.n) ∧ W.cell? ⟨x1.heap.size, 5, none⟩ = some (.int .i64 ev1.l) ∧ W.cell? ⟨x2.heap.size, 0, none⟩ = some (.int .i64 ez.kind) ∧ W.cell? ⟨x2.heap.size, 1, none⟩ = some (.string (B ez.keys)) ∧ W.cell? ⟨x2.heap.size, 2, none⟩ = some (.slice az ez.p.length cz) ∧ W.cell? ⟨x2.heap.size, 3, none⟩ = some (.string (B ez.text)) ∧ W.cell? ⟨x2.heap.size, 4, none⟩ = some (.int .i64 ez.n) ∧ W.cell? ⟨x2.heap.size, 5, none⟩ = some (.int .i64 ez.l) ∧ W.cell? ⟨w.heap.size + 1, 0, none⟩ = some (.int .i64 yk) ∧ W.cell? ⟨w.heap.size + 1, 1, none⟩ = some (.string (B ys)) ∧ W.cell? ⟨w.heap.size + 1, 2, none⟩ = some (.slice ya yp.length yc) ∧ W.cell? ⟨w.heap.size + 1, 3, none⟩ = some (.string (B yt)) ∧ W.cell? ⟨w.heap.size + 1, 4, none⟩ = some (.int .i64 yn) ∧ W.cell? ⟨w.heap.size + 1, 5, none⟩ = some (.int .i64 yl) ∧ Below zz.heap.size zz W) → Hid (Calls Tryd.prog 16 #[.agg #[.int .i64 ev1.kind, .string (B ev1.keys), .slice a1 ev1.p.length c1, .string (B ev1.text), .int .i64 ev1.n, .int .i64 ev1.l]] W fun e w' => e = .returned (.bool true) ∧ w'.cell? ⟨x1.heap.size, 0, none⟩ = some (.int .i64 ev1.kind) ∧ w'.cell? ⟨x1.heap.size, 1, none⟩ = some (.string (B ev1.keys)) ∧ w'.cell? ⟨x1.heap.size, 2, none⟩ = some (.slice a1 ev1.p.length c1) ∧ w'.cell? ⟨x1.heap.size, 3, none⟩ = some (.string (B ev1.text)) ∧ w'.cell? ⟨x1.heap.size, 4, none⟩ = some (.int .i64 ev1.n) ∧ w'.cell? ⟨x1.heap.size, 5, none⟩ = some (.int .i64 ev1.l) ∧ w'.cell? ⟨x2.heap.size, 0, none⟩ = some (.int .i64 ez.kind) ∧ w'.cell? ⟨x2.heap.size, 1, none⟩ = some (.string (B ez.keys)) ∧ w'.cell? ⟨x2.heap.size, 2, none⟩ = some (.slice az ez.p.length cz) ∧ w'.cell? ⟨x2.heap.size, 3, none⟩ = some (.string (B ez.text)) ∧ w'.cell? ⟨x2.heap.size, 4, none⟩ = some (.int .i64 ez.n) ∧ w'.cell? ⟨x2.heap.size, 5, none⟩ = some (.int .i64 ez.l) ∧ w'.cell? ⟨w.heap.size + 1, 0, none⟩ = some (.int .i64 yk) ∧ w'.cell? ⟨w.heap.size + 1, 1, none⟩ = some (.string (B ys)) ∧ w'.cell? ⟨w.heap.size + 1, 2, none⟩ = some (.slice ya yp.length yc) ∧ w'.cell? ⟨w.heap.size + 1, 3, none⟩ = some (.string (B yt)) ∧ w'.cell? ⟨w.heap.size + 1, 4, none⟩ = some (.int .i64 yn) ∧ w'.cell? ⟨w.heap.size + 1, 5, none⟩ = some (.int .i64 yl) ∧ Below zz.heap.size zz w') := fun W h => by
      obtain ⟨-, -, -, -, -, -, -, -, -, -, -, -, -, -, -, -, -, -, hb⟩ := h
      refine Lib.hid ((Valid_any ev1.kind ev1.keys a1 c1 ev1.p ev1.text ev1.n ev1.l W (P1z.out.on hb) hl1m).mono ?_)
      rintro e w' ⟨rfl, hb'⟩
      exact ⟨by rw [show validB ⟨ev1.kind, ev1.keys, ev1.p, ev1.text, ev1.n, ev1.l⟩ = true from HV.out], (CJ w' (hb.trans (hb'.mono hb.size))).out⟩
    have CVz : ∀ W, (W.cell? ⟨x1.heap.size, 0, none⟩ = some (.int .i64 ev1.kind) ∧ W.cell? ⟨x1.heap.size, 1, none⟩ = some (.string (B ev1.keys)) ∧ W.cell? ⟨x1.heap.size, 2, none⟩ = some (.slice a1 ev1.p.length c1) ∧ W.cell? ⟨x1.heap.size, 3, none⟩ = some (.string (B ev1.text)) ∧ W.cell? ⟨x1.heap.size, 4, none⟩ = some (.int .i64 ev1.n) ∧ W.cell? ⟨x1.heap.size, 5, none⟩ = some (.int .i64 ev1.l) ∧ W.cell? ⟨x2.heap.size, 0, none⟩ = some (.int .i64 ez.kind) ∧ W.cell? ⟨x2.heap.size, 1, none⟩ = some (.string (B ez.keys)) ∧ W.cell? ⟨x2.heap.size, 2, none⟩ = some (.slice az ez.p.length cz) ∧ W.cell? ⟨x2.heap.size, 3, none⟩ = some (.string (B ez.text)) ∧ W.cell? ⟨x2.heap.size, 4, none⟩ = some (.int .i64 ez.n) ∧ W.cell? ⟨x2.heap.size, 5, none⟩ = some (.int .i64 ez.l) ∧ W.cell? ⟨w.heap.size + 1, 0, none⟩ = some (.int .i64 yk) ∧ W.cell? ⟨w.heap.size + 1, 1, none⟩ = some (.string (B ys)) ∧ W.cell? ⟨w.heap.size + 1, 2, none⟩ = some (.slice ya yp.length yc) ∧ W.cell? ⟨w.heap.size + 1, 3, none⟩ = some (.string (B yt)) ∧ W.cell? ⟨w.heap.size + 1, 4, none⟩ = some (.int .i64 yn) ∧ W.cell? ⟨w.heap.size + 1, 5, none⟩ = some (.int .i64 yl) ∧ Below zz.heap.size zz W) → Hid (Calls Tryd.prog 16 #[.agg #[.int .i64 ez.kind, .string (B ez.keys), .slice az ez.p.length cz, .string (B ez.text), .int .i64 ez.n, .int .i64 ez.l]] W fun e w' => e = .returned (.bool vz) ∧ w'.cell? ⟨x1.heap.size, 0, none⟩ = some (.int .i64 ev1.kind) ∧ w'.cell? ⟨x1.heap.size, 1, none⟩ = some (.string (B ev1.keys)) ∧ w'.cell? ⟨x1.heap.size, 2, none⟩ = some (.slice a1 ev1.p.length c1) ∧ w'.cell? ⟨x1.heap.size, 3, none⟩ = some (.string (B ev1.text)) ∧ w'.cell? ⟨x1.heap.size, 4, none⟩ = some (.int .i64 ev1.n) ∧ w'.cell? ⟨x1.heap.size, 5, none⟩ = some (.int .i64 ev1.l) ∧ w'.cell? ⟨x2.heap.size, 0, none⟩ = some (.int .i64 ez.kind) ∧ w'.cell? ⟨x2.heap.size, 1, none⟩ = some (.string (B ez.keys)) ∧ w'.cell? ⟨x2.heap.size, 2, none⟩ = some (.slice az ez.p.length cz) ∧ w'.cell? ⟨x2.heap.size, 3, none⟩ = some (.string (B ez.text)) ∧ w'.cell? ⟨x2.heap.size, 4, none⟩ = some (.int .i64 ez.n) ∧ w'.cell? ⟨x2.heap.size, 5, none⟩ = some (.int .i64 ez.l) ∧ w'.cell? ⟨w.heap.size + 1, 0, none⟩ = some (.int .i64 yk) ∧ w'.cell? ⟨w.heap.size + 1, 1, none⟩ = some (.string (B ys)) ∧ w'.cell? ⟨w.heap.size + 1, 2, none⟩ = some (.slice ya yp.length yc) ∧ w'.cell? ⟨w.heap.size + 1, 3, none⟩ = some (.string (B yt)) ∧ w'.cell? ⟨w.heap.size + 1, 4, none⟩ = some (.int .i64 yn) ∧ w'.cell? ⟨w.heap.size + 1, 5, none⟩ = some (.int .i64 yl) ∧ Below zz.heap.size zz w') := fun W h => by
      obtain ⟨-, -, -, -, -, -, -, -, -, -, -, -, -, -, -, -, -, -, hb⟩ := h
      refine Lib.hid ((Valid_any ez.kind ez.keys az cz ez.p ez.text ez.n ez.l W (PZ.out.on hb) hlzm).mono ?_)
      rintro e w' ⟨rfl, hb'⟩
      exact ⟨by rw [hvz], (CJ w' (hb.trans (hb'.mono hb.size))).out⟩
    have CRz : ∀ W, (W.cell? ⟨x1.heap.size, 0, none⟩ = some (.int .i64 ev1.kind) ∧ W.cell? ⟨x1.heap.size, 1, none⟩ = some (.string (B ev1.keys)) ∧ W.cell? ⟨x1.heap.size, 2, none⟩ = some (.slice a1 ev1.p.length c1) ∧ W.cell? ⟨x1.heap.size, 3, none⟩ = some (.string (B ev1.text)) ∧ W.cell? ⟨x1.heap.size, 4, none⟩ = some (.int .i64 ev1.n) ∧ W.cell? ⟨x1.heap.size, 5, none⟩ = some (.int .i64 ev1.l) ∧ W.cell? ⟨x2.heap.size, 0, none⟩ = some (.int .i64 ez.kind) ∧ W.cell? ⟨x2.heap.size, 1, none⟩ = some (.string (B ez.keys)) ∧ W.cell? ⟨x2.heap.size, 2, none⟩ = some (.slice az ez.p.length cz) ∧ W.cell? ⟨x2.heap.size, 3, none⟩ = some (.string (B ez.text)) ∧ W.cell? ⟨x2.heap.size, 4, none⟩ = some (.int .i64 ez.n) ∧ W.cell? ⟨x2.heap.size, 5, none⟩ = some (.int .i64 ez.l) ∧ W.cell? ⟨w.heap.size + 1, 0, none⟩ = some (.int .i64 yk) ∧ W.cell? ⟨w.heap.size + 1, 1, none⟩ = some (.string (B ys)) ∧ W.cell? ⟨w.heap.size + 1, 2, none⟩ = some (.slice ya yp.length yc) ∧ W.cell? ⟨w.heap.size + 1, 3, none⟩ = some (.string (B yt)) ∧ W.cell? ⟨w.heap.size + 1, 4, none⟩ = some (.int .i64 yn) ∧ W.cell? ⟨w.heap.size + 1, 5, none⟩ = some (.int .i64 yl) ∧ Below zz.heap.size zz W) → Hid (Calls Tryd.prog 17 #[.agg #[.int .i64 ez.kind, .string (B ez.keys), .slice az ez.p.length cz, .string (B ez.text), .int .i64 ez.n, .int .i64 ez.l]] W fun e w' => e = .returned (.bool vz) ∧ w'.cell? ⟨x1.heap.size, 0, none⟩ = some (.int .i64 ev1.kind) ∧ w'.cell? ⟨x1.heap.size, 1, none⟩ = some (.string (B ev1.keys)) ∧ w'.cell? ⟨x1.heap.size, 2, none⟩ = some (.slice a1 ev1.p.length c1) ∧ w'.cell? ⟨x1.heap.size, 3, none⟩ = some (.string (B ev1.text)) ∧ w'.cell? ⟨x1.heap.size, 4, none⟩ = some (.int .i64 ev1.n) ∧ w'.cell? ⟨x1.heap.size, 5, none⟩ = some (.int .i64 ev1.l) ∧ w'.cell? ⟨x2.heap.size, 0, none⟩ = some (.int .i64 ez.kind) ∧ w'.cell? ⟨x2.heap.size, 1, none⟩ = some (.string (B ez.keys)) ∧ w'.cell? ⟨x2.heap.size, 2, none⟩ = some (.slice az ez.p.length cz) ∧ w'.cell? ⟨x2.heap.size, 3, none⟩ = some (.string (B ez.text)) ∧ w'.cell? ⟨x2.heap.size, 4, none⟩ = some (.int .i64 ez.n) ∧ w'.cell? ⟨x2.heap.size, 5, none⟩ = some (.int .i64 ez.l) ∧ w'.cell? ⟨w.heap.size + 1, 0, none⟩ = some (.int .i64 yk) ∧ w'.cell? ⟨w.heap.size + 1, 1, none⟩ = some (.string (B ys)) ∧ w'.cell? ⟨w.heap.size + 1, 2, none⟩ = some (.slice ya yp.length yc) ∧ w'.cell? ⟨w.heap.size + 1, 3, none⟩ = some (.string (B yt)) ∧ w'.cell? ⟨w.heap.size + 1, 4, none⟩ = some (.int .i64 yn) ∧ w'.cell? ⟨w.heap.size + 1, 5, none⟩ = some (.int .i64 yl) ∧ Below zz.heap.size zz w') := fun W h => by
      obtain ⟨-, -, -, -, -, -, -, -, -, -, -, -, -, -, -, -, -, -, hb⟩ := h
      refine Lib.hid ((RValid_any ez.kind ez.keys az cz ez.p ez.text ez.n ez.l W (PZ.out.on hb) (by omega) (by omega) (by omega)).mono ?_)
      rintro e w' ⟨rfl, hb'⟩
      exact ⟨by rw [hvz], (CJ w' (hb.trans (hb'.mono hb.size))).out⟩
    have CVy : ∀ W, (W.cell? ⟨x1.heap.size, 0, none⟩ = some (.int .i64 ev1.kind) ∧ W.cell? ⟨x1.heap.size, 1, none⟩ = some (.string (B ev1.keys)) ∧ W.cell? ⟨x1.heap.size, 2, none⟩ = some (.slice a1 ev1.p.length c1) ∧ W.cell? ⟨x1.heap.size, 3, none⟩ = some (.string (B ev1.text)) ∧ W.cell? ⟨x1.heap.size, 4, none⟩ = some (.int .i64 ev1.n) ∧ W.cell? ⟨x1.heap.size, 5, none⟩ = some (.int .i64 ev1.l) ∧ W.cell? ⟨x2.heap.size, 0, none⟩ = some (.int .i64 ez.kind) ∧ W.cell? ⟨x2.heap.size, 1, none⟩ = some (.string (B ez.keys)) ∧ W.cell? ⟨x2.heap.size, 2, none⟩ = some (.slice az ez.p.length cz) ∧ W.cell? ⟨x2.heap.size, 3, none⟩ = some (.string (B ez.text)) ∧ W.cell? ⟨x2.heap.size, 4, none⟩ = some (.int .i64 ez.n) ∧ W.cell? ⟨x2.heap.size, 5, none⟩ = some (.int .i64 ez.l) ∧ W.cell? ⟨w.heap.size + 1, 0, none⟩ = some (.int .i64 yk) ∧ W.cell? ⟨w.heap.size + 1, 1, none⟩ = some (.string (B ys)) ∧ W.cell? ⟨w.heap.size + 1, 2, none⟩ = some (.slice ya yp.length yc) ∧ W.cell? ⟨w.heap.size + 1, 3, none⟩ = some (.string (B yt)) ∧ W.cell? ⟨w.heap.size + 1, 4, none⟩ = some (.int .i64 yn) ∧ W.cell? ⟨w.heap.size + 1, 5, none⟩ = some (.int .i64 yl) ∧ Below zz.heap.size zz W) → Hid (Calls Tryd.prog 16 #[.agg #[.int .i64 yk, .string (B ys), .slice ya yp.length yc, .string (B yt), .int .i64 yn, .int .i64 yl]] W fun e w' => e = .returned (.bool vy) ∧ w'.cell? ⟨x1.heap.size, 0, none⟩ = some (.int .i64 ev1.kind) ∧ w'.cell? ⟨x1.heap.size, 1, none⟩ = some (.string (B ev1.keys)) ∧ w'.cell? ⟨x1.heap.size, 2, none⟩ = some (.slice a1 ev1.p.length c1) ∧ w'.cell? ⟨x1.heap.size, 3, none⟩ = some (.string (B ev1.text)) ∧ w'.cell? ⟨x1.heap.size, 4, none⟩ = some (.int .i64 ev1.n) ∧ w'.cell? ⟨x1.heap.size, 5, none⟩ = some (.int .i64 ev1.l) ∧ w'.cell? ⟨x2.heap.size, 0, none⟩ = some (.int .i64 ez.kind) ∧ w'.cell? ⟨x2.heap.size, 1, none⟩ = some (.string (B ez.keys)) ∧ w'.cell? ⟨x2.heap.size, 2, none⟩ = some (.slice az ez.p.length cz) ∧ w'.cell? ⟨x2.heap.size, 3, none⟩ = some (.string (B ez.text)) ∧ w'.cell? ⟨x2.heap.size, 4, none⟩ = some (.int .i64 ez.n) ∧ w'.cell? ⟨x2.heap.size, 5, none⟩ = some (.int .i64 ez.l) ∧ w'.cell? ⟨w.heap.size + 1, 0, none⟩ = some (.int .i64 yk) ∧ w'.cell? ⟨w.heap.size + 1, 1, none⟩ = some (.string (B ys)) ∧ w'.cell? ⟨w.heap.size + 1, 2, none⟩ = some (.slice ya yp.length yc) ∧ w'.cell? ⟨w.heap.size + 1, 3, none⟩ = some (.string (B yt)) ∧ w'.cell? ⟨w.heap.size + 1, 4, none⟩ = some (.int .i64 yn) ∧ w'.cell? ⟨w.heap.size + 1, 5, none⟩ = some (.int .i64 yl) ∧ Below zz.heap.size zz w') := fun W h => by
      obtain ⟨-, -, -, -, -, -, -, -, -, -, -, -, -, -, -, -, -, -, hb⟩ := h
      refine Lib.hid ((Valid_any yk ys ya yc yp yt yn yl W (PYz.out.on hb) hlym).mono ?_)
      rintro e w' ⟨rfl, hb'⟩
      exact ⟨by rw [hvy], (CJ w' (hb.trans (hb'.mono hb.size))).out⟩
    have CRy : ∀ W, (W.cell? ⟨x1.heap.size, 0, none⟩ = some (.int .i64 ev1.kind) ∧ W.cell? ⟨x1.heap.size, 1, none⟩ = some (.string (B ev1.keys)) ∧ W.cell? ⟨x1.heap.size, 2, none⟩ = some (.slice a1 ev1.p.length c1) ∧ W.cell? ⟨x1.heap.size, 3, none⟩ = some (.string (B ev1.text)) ∧ W.cell? ⟨x1.heap.size, 4, none⟩ = some (.int .i64 ev1.n) ∧ W.cell? ⟨x1.heap.size, 5, none⟩ = some (.int .i64 ev1.l) ∧ W.cell? ⟨x2.heap.size, 0, none⟩ = some (.int .i64 ez.kind) ∧ W.cell? ⟨x2.heap.size, 1, none⟩ = some (.string (B ez.keys)) ∧ W.cell? ⟨x2.heap.size, 2, none⟩ = some (.slice az ez.p.length cz) ∧ W.cell? ⟨x2.heap.size, 3, none⟩ = some (.string (B ez.text)) ∧ W.cell? ⟨x2.heap.size, 4, none⟩ = some (.int .i64 ez.n) ∧ W.cell? ⟨x2.heap.size, 5, none⟩ = some (.int .i64 ez.l) ∧ W.cell? ⟨w.heap.size + 1, 0, none⟩ = some (.int .i64 yk) ∧ W.cell? ⟨w.heap.size + 1, 1, none⟩ = some (.string (B ys)) ∧ W.cell? ⟨w.heap.size + 1, 2, none⟩ = some (.slice ya yp.length yc) ∧ W.cell? ⟨w.heap.size + 1, 3, none⟩ = some (.string (B yt)) ∧ W.cell? ⟨w.heap.size + 1, 4, none⟩ = some (.int .i64 yn) ∧ W.cell? ⟨w.heap.size + 1, 5, none⟩ = some (.int .i64 yl) ∧ Below zz.heap.size zz W) → Hid (Calls Tryd.prog 17 #[.agg #[.int .i64 yk, .string (B ys), .slice ya yp.length yc, .string (B yt), .int .i64 yn, .int .i64 yl]] W fun e w' => e = .returned (.bool vy) ∧ w'.cell? ⟨x1.heap.size, 0, none⟩ = some (.int .i64 ev1.kind) ∧ w'.cell? ⟨x1.heap.size, 1, none⟩ = some (.string (B ev1.keys)) ∧ w'.cell? ⟨x1.heap.size, 2, none⟩ = some (.slice a1 ev1.p.length c1) ∧ w'.cell? ⟨x1.heap.size, 3, none⟩ = some (.string (B ev1.text)) ∧ w'.cell? ⟨x1.heap.size, 4, none⟩ = some (.int .i64 ev1.n) ∧ w'.cell? ⟨x1.heap.size, 5, none⟩ = some (.int .i64 ev1.l) ∧ w'.cell? ⟨x2.heap.size, 0, none⟩ = some (.int .i64 ez.kind) ∧ w'.cell? ⟨x2.heap.size, 1, none⟩ = some (.string (B ez.keys)) ∧ w'.cell? ⟨x2.heap.size, 2, none⟩ = some (.slice az ez.p.length cz) ∧ w'.cell? ⟨x2.heap.size, 3, none⟩ = some (.string (B ez.text)) ∧ w'.cell? ⟨x2.heap.size, 4, none⟩ = some (.int .i64 ez.n) ∧ w'.cell? ⟨x2.heap.size, 5, none⟩ = some (.int .i64 ez.l) ∧ w'.cell? ⟨w.heap.size + 1, 0, none⟩ = some (.int .i64 yk) ∧ w'.cell? ⟨w.heap.size + 1, 1, none⟩ = some (.string (B ys)) ∧ w'.cell? ⟨w.heap.size + 1, 2, none⟩ = some (.slice ya yp.length yc) ∧ w'.cell? ⟨w.heap.size + 1, 3, none⟩ = some (.string (B yt)) ∧ w'.cell? ⟨w.heap.size + 1, 4, none⟩ = some (.int .i64 yn) ∧ w'.cell? ⟨w.heap.size + 1, 5, none⟩ = some (.int .i64 yl) ∧ Below zz.heap.size zz w') := fun W h => by
      obtain ⟨-, -, -, -, -, -, -, -, -, -, -, -, -, -, -, -, -, -, hb⟩ := h
      refine Lib.hid ((RValid_any yk ys ya yc yp yt yn yl W (PYz.out.on hb) (by omega) (by omega) (by omega)).mono ?_)
      rintro e w' ⟨rfl, hb'⟩
      exact ⟨by rw [hvy], (CJ w' (hb.trans (hb'.mono hb.size))).out⟩
    obtain ⟨e0, e1, e2, e3, e4, e5, b0, b1, b2, b3, b4, b5, d0, d1, d2, d3, d4, d5, hbe⟩ := (CJ zz (Below.refl _ _)).out
    have hzz := beq_self_eq_true vz
    have hyy := beq_self_eq_true vy
    clear CJ hvz hvy E1z EZ Y1z P1z PZ PYz HV hl1m hlzm hlym hz1 hz2 hz3
    go_wp2_with fail
    go_region_held3 (fun W => W.cell? ⟨x1.heap.size, 0, none⟩ = some (.int .i64 ev1.kind) ∧ W.cell? ⟨x1.heap.size, 1, none⟩ = some (.string (B ev1.keys)) ∧ W.cell? ⟨x1.heap.size, 2, none⟩ = some (.slice a1 ev1.p.length c1) ∧ W.cell? ⟨x1.heap.size, 3, none⟩ = some (.string (B ev1.text)) ∧ W.cell? ⟨x1.heap.size, 4, none⟩ = some (.int .i64 ev1.n) ∧ W.cell? ⟨x1.heap.size, 5, none⟩ = some (.int .i64 ev1.l) ∧ W.cell? ⟨x2.heap.size, 0, none⟩ = some (.int .i64 ez.kind) ∧ W.cell? ⟨x2.heap.size, 1, none⟩ = some (.string (B ez.keys)) ∧ W.cell? ⟨x2.heap.size, 2, none⟩ = some (.slice az ez.p.length cz) ∧ W.cell? ⟨x2.heap.size, 3, none⟩ = some (.string (B ez.text)) ∧ W.cell? ⟨x2.heap.size, 4, none⟩ = some (.int .i64 ez.n) ∧ W.cell? ⟨x2.heap.size, 5, none⟩ = some (.int .i64 ez.l) ∧ W.cell? ⟨w.heap.size + 1, 0, none⟩ = some (.int .i64 yk) ∧ W.cell? ⟨w.heap.size + 1, 1, none⟩ = some (.string (B ys)) ∧ W.cell? ⟨w.heap.size + 1, 2, none⟩ = some (.slice ya yp.length yc) ∧ W.cell? ⟨w.heap.size + 1, 3, none⟩ = some (.string (B yt)) ∧ W.cell? ⟨w.heap.size + 1, 4, none⟩ = some (.int .i64 yn) ∧ W.cell? ⟨w.heap.size + 1, 5, none⟩ = some (.int .i64 yl) ∧ Below zz.heap.size zz W) (first | assumption | exact Below.drew (by assumption) | (refine ⟨?_, ?_, ?_, ?_, ?_, ?_, ?_, ?_, ?_, ?_, ?_, ?_, ?_, ?_, ?_, ?_, ?_, ?_, ?_⟩ <;> first | assumption | exact Below.drew (by assumption)))
      (first
        | (go_at_call_of 16 (Value.agg #[.int .i64 ev1.kind, .string (B ev1.keys), .slice a1 ev1.p.length c1, .string (B ev1.text), .int .i64 ev1.n, .int .i64 ev1.l]); refine ((CV1 _ ?_).out).mono ?_; (assumption); rintro e w' ⟨rfl, hcj⟩)
        | (go_at_call_of 16 (Value.agg #[.int .i64 ez.kind, .string (B ez.keys), .slice az ez.p.length cz, .string (B ez.text), .int .i64 ez.n, .int .i64 ez.l]); refine ((CVz _ ?_).out).mono ?_; (assumption); rintro e w' ⟨rfl, hcj⟩)
        | (go_at_call_of 17 (Value.agg #[.int .i64 ez.kind, .string (B ez.keys), .slice az ez.p.length cz, .string (B ez.text), .int .i64 ez.n, .int .i64 ez.l]); refine ((CRz _ ?_).out).mono ?_; (assumption); rintro e w' ⟨rfl, hcj⟩)
        | (go_at_call_of 16 (Value.agg #[.int .i64 yk, .string (B ys), .slice ya yp.length yc, .string (B yt), .int .i64 yn, .int .i64 yl]); refine ((CVy _ ?_).out).mono ?_; (assumption); rintro e w' ⟨rfl, hcj⟩)
        | (go_at_call_of 17 (Value.agg #[.int .i64 yk, .string (B ys), .slice ya yp.length yc, .string (B yt), .int .i64 yn, .int .i64 yl]); refine ((CRy _ ?_).out).mono ?_; (assumption); rintro e w' ⟨rfl, hcj⟩))
    obtain ⟨-, -, -, -, -, -, -, -, -, -, -, -, -, -, -, -, -, -, hbf⟩ := hcj
    clear e0 e1 e2 e3 e4 e5 b0 b1 b2 b3 b4 b5 d0 d1 d2 d3 d4 d5 hbe CV1 CVz CRz CVy CRy
    have HF := Lib.hid (Hz.out.trans (hbf.mono Hz.out.size))
    clear hbf
    go_wp2_with fail
    go_ret
    exact ⟨rfl, HF.out⟩
end Go.Proofs.YtcbboegjegobeaaDoor
