/-
  SlipValid's walk.
-/
import Derived.Test.YtadaijepalhohaaBD
namespace Go.Proofs.Ytadaijepalhohaa
open Go.RowKit
open Pl

theorem AlsOwn.setSlips {W : World} {b b' o : Nat} {v u : Value} {l : List Al} {vs : List Value} (h : AlsOwn W b v l) (hT : Blk W b' 32 vs) : AlsOwn (W.setCell ⟨b', o, none⟩ u) b v l := by
  refine ⟨h.1, ?_⟩
  rcases h.2 with h0 | ⟨g, cap, cur, hv, hg, hh, r⟩
  · exact Or.inl h0
  · refine Or.inr ⟨g, cap, cur, hv, hg, ?_, r⟩
    rw [heap_setCell_other _ _ _ _ (fun e => ?_)]
    · exact hh
    · have e : g = b' := e
      unfold Blk at hT
      rw [← e, hh] at hT
      simp at hT
theorem AlsOwn.lt {W : World} {b : Nat} {v : Value} {l : List Al} (h : AlsOwn W b v l) : ∀ k, v.ownBlock = some k → k < W.heap.size := by
  intro k hk
  rcases h.2 with ⟨rfl, _⟩ | ⟨g, cap, cur, rfl, hg, hh, _⟩
  · cases hk
  · cases hk; exact lt_of_heap hh
theorem byte_of (y : Int) : ∃ A : UInt8, IntKind.u8.wrap y = (A.toNat : Nat) := ⟨(y % 256).toNat.toUInt8, by
  rw [show IntKind.u8.wrap y = y % 256 from rfl, show (y % 256).toNat.toUInt8.toNat = (y % 256).toNat % 256 from UInt8.toNat_ofNat' ..]; omega⟩
theorem Small.valid {s : Sl} (h : Small s) : validS s = true := by
  have h1 := h.swap
  have h2 := h.drop
  have h3 := h.add
  have h4 := h.put
  unfold validS costB
  rw [h.alike]
  simp
  omega
set_option maxHeartbeats 4000000 in
set_option maxRecDepth 100000 in
theorem SlipValid_any (c0 c1 c2 c3 : Nat) (ra : Option Addr) (rn rc : Nat) (l : Sl) (la : Option Addr) (lc : Nat) (y0 y1 y2 : Int) (w : World) (hx : c0 < 256 ∧ c1 < 256 ∧ c2 < 256 ∧ c3 < 256 ∧ rn ≤ maxLen ∧ TrisAt w w.heap.size (.slice ra rn rc) rn) (hl : l.alike.length ≤ lc ∧ lc ≤ maxLen ∧ AlsAt w w.heap.size (.slice la l.alike.length lc) l.alike) (hy : in16 y0 ∧ in16 y1 ∧ in16 y2) :
    Calls Try.prog 4 #[.agg #[.int .u8 (c0 : Nat), .int .u8 (c1 : Nat), .int .u8 (c2 : Nat), .int .u8 (c3 : Nat), .slice ra rn rc], .agg #[.int .i64 l.swap, .int .i64 l.drop, .int .i64 l.add, .int .i64 l.put, .slice la l.alike.length lc], .agg #[.int .i16 y0, .int .i16 y1, .int .i16 y2]] w fun e w' => e = .returned (.bool true) ∧ Below w.heap.size w w' := by
  obtain ⟨hx0, hx1, hx2, hx3, hxn, hxt⟩ := hx
  have HX := Lib.hid hxt
  clear hxt
  obtain ⟨hl1, hl2, hla⟩ := hl
  obtain ⟨⟨y00, y01⟩, ⟨y10, y11⟩, y20, y21⟩ := hy
  have HLA := Lib.hid hla
  have HL1 := Lib.hid (show l.alike.length ≤ lc ∧ l.alike.length ≤ maxLen from ⟨hl1, by omega⟩)
  clear hla hl1 hl2
  have B1 := Lib.hid ((((Below.refl w.heap.size w).alloc (Nat.le_refl _) (.cells #[.int .u8 (c0 : Nat), .int .u8 (c1 : Nat), .int .u8 (c2 : Nat), .int .u8 (c3 : Nat), .slice ra rn rc] 25)).alloc (by simp) (.cells #[.int .i64 l.swap, .int .i64 l.drop, .int .i64 l.add, .int .i64 l.put, .slice la l.alike.length lc] 32)).alloc (by simp; omega) (.cells #[.int .i16 y0, .int .i16 y1, .int .i16 y2] 43))
  have K0 := ((Blk.new w 25 [.int .u8 (c0 : Nat), .int .u8 (c1 : Nat), .int .u8 (c2 : Nat), .int .u8 (c3 : Nat), .slice ra rn rc]).alloc (.cells #[.int .i64 l.swap, .int .i64 l.drop, .int .i64 l.add, .int .i64 l.put, .slice la l.alike.length lc] 32)).alloc (.cells #[.int .i16 y0, .int .i16 y1, .int .i16 y2] 43)
  have K0 := Lib.hid K0
  have K1 := (Blk.new (w.alloc (.cells #[.int .u8 (c0 : Nat), .int .u8 (c1 : Nat), .int .u8 (c2 : Nat), .int .u8 (c3 : Nat), .slice ra rn rc] 25)) 32 [.int .i64 l.swap, .int .i64 l.drop, .int .i64 l.add, .int .i64 l.put, .slice la l.alike.length lc]).alloc (.cells #[.int .i16 y0, .int .i16 y1, .int .i16 y2] 43)
  rw [World.size_alloc] at K1
  have K1 := Lib.hid K1
  have K2 := Blk.new ((w.alloc (.cells #[.int .u8 (c0 : Nat), .int .u8 (c1 : Nat), .int .u8 (c2 : Nat), .int .u8 (c3 : Nat), .slice ra rn rc] 25)).alloc (.cells #[.int .i64 l.swap, .int .i64 l.drop, .int .i64 l.add, .int .i64 l.put, .slice la l.alike.length lc] 32)) 43 [.int .i16 y0, .int .i16 y1, .int .i16 y2]
  rw [World.size_alloc, World.size_alloc] at K2
  have K2 := Lib.hid K2
  go_enter Try.func4, Try.ntmps4
  go_upto_region 1 with fail
  generalize hgw : ((w.alloc _).alloc _).alloc _ = w1 at *
  clear hgw
  have CS := San_any w1
  go_wp2_with fail
  refine CS.mono ?_
  rintro e w2 ⟨rfl, hb⟩
  clear CS
  have K0 := Lib.hid (K0.out.below hb)
  have K1 := Lib.hid (K1.out.below hb)
  have K2 := Lib.hid (K2.out.below hb)
  have B2 := Lib.hid (B1.out.trans (hb.mono B1.out.size))
  clear hb B1
  have q0 := K0.out.cell 0
  have q1 := K0.out.cell 1
  have q2 := K0.out.cell 2
  have q3 := K0.out.cell 3
  have q4 := K0.out.cell 4
  simp only [List.getElem?_cons_succ, List.getElem?_cons_zero] at q0 q1 q2 q3 q4
  have v4 := K1.out.cell 4
  have m0 := K2.out.cell 0
  simp only [List.getElem?_cons_succ, List.getElem?_cons_zero] at v4 m0
  by_cases hg : (25 : Int) < (l.alike.length : Int)
  · go_wp2_with fail
    go_ret
    exact ⟨rfl, B2.out⟩
  · have CM := Made_any c0 c1 c2 c3 ra rn rc w2 hx0 hx1 hx2 hx3 (HX.out.on B2.out) hxn
    go_wp2_with fail
    refine CM.mono ?_
    rintro e w3 ⟨⟨s, sa, sc, rfl, hs, hso⟩, hb⟩
    have B3 := Lib.hid (B2.out.trans (hb.mono B2.out.size))
    have HS := Lib.hid hs
    have b4 := (Below.refl w3.heap.size w3).alloc (Nat.le_refl _) (.cells #[.int .i64 s.swap, .int .i64 s.drop, .int .i64 s.add, .int .i64 s.put, .slice sa s.alike.length sc] 32)
    have SCAP := Lib.hid hso.cap
    have AL := Lib.hid (hso.at.on b4)
    have SB := Lib.hid (SlBlock.new w3 s (.slice sa s.alike.length sc))
    have K0 := Lib.hid ((K0.out.below hb).below b4)
    have K1 := Lib.hid ((K1.out.below hb).below b4)
    have K2 := Lib.hid ((K2.out.below hb).below b4)
    have B4 := Lib.hid (B3.out.trans (b4.mono B3.out.size))
    clear CM hb hs hso b4 q0 q1 q2 q3 q4 v4 m0 B2 B3
    go_upto_region 5 with fail
    generalize hgw : w3.alloc _ = w4 at *
    generalize hgb : w3.heap.size = sb at *
    clear hgw hgb
    have q0 := K0.out.cell 0
    have q1 := K0.out.cell 1
    have q2 := K0.out.cell 2
    have q3 := K0.out.cell 3
    have q4 := K0.out.cell 4
    simp only [List.getElem?_cons_succ, List.getElem?_cons_zero] at q0 q1 q2 q3 q4
    have CM := Made_any c0 c1 c2 c3 ra rn rc w4 hx0 hx1 hx2 hx3 (HX.out.on B4.out) hxn
    clear hx0 hx1 hx2 hx3
    go_wp2_with fail
    refine CM.mono ?_
    rintro e w5 ⟨⟨t, ta, tc, rfl, ht, hto⟩, hb⟩
    have HT := Lib.hid ht
    have b6 := (Below.refl w5.heap.size w5).alloc (Nat.le_refl _) (.cells #[.int .i64 t.swap, .int .i64 t.drop, .int .i64 t.add, .int .i64 t.put, .slice ta t.alike.length tc] 32)
    have OW5 := Lib.hid hto
    have TB := Lib.hid (Blk.new w5 32 [.int .i64 t.swap, .int .i64 t.drop, .int .i64 t.add, .int .i64 t.put, .slice ta t.alike.length tc])
    have AT := Lib.hid (hto.at)
    have TCAP := Lib.hid hto.cap
    have OW := Lib.hid (hto.below b6)
    have LT5 := Lib.hid hto.lt
    have BK5 := Lib.hid hto.blk
    have B5 := Lib.hid b6
    have B6 := Lib.hid (hb.trans (b6.mono hb.size))
    have GE := Lib.hid hb.size
    clear CM hb ht hto b6 q0 q1 q2 q3 q4 K0 OW5
    go_upto_region 6 with fail
    generalize hgw : w5.alloc _ = w6 at *
    clear hgw
    have m0 := (K2.out.below B6.out).cell 0
    have m1 := (K2.out.below B6.out).cell 1
    have m2 := (K2.out.below B6.out).cell 2
    simp only [List.getElem?_cons_succ, List.getElem?_cons_zero] at m0 m1 m2
    have t0 := TB.out.cell 0
    have t1 := TB.out.cell 1
    have t2 := TB.out.cell 2
    have t3 := TB.out.cell 3
    have t4 := TB.out.cell 4
    simp only [List.getElem?_cons_succ, List.getElem?_cons_zero] at t0 t1 t2 t3 t4
    have f0 := TB.out.free 0
    have f1 := TB.out.free 1
    have f2 := TB.out.free 2
    have f3 := TB.out.free 3
    have f4 := TB.out.free 4
    obtain ⟨r, hr⟩ : ∃ r : Nat, (r : Int) = (y0 % 65536) % 8 := ⟨((y0 % 65536) % 8).toNat, by omega⟩
    have WR : (IntKind.u16.wrap y0).tmod 8 = (r : Int) := by rw [show IntKind.u16.wrap y0 = y0 % 65536 from rfl, Int.tmod_eq_emod_of_nonneg (by omega), hr]
    have hr8 : r < 8 := by omega
    go_upto_region 8 with fail
    have WR2 : y0 % 8 = (r : Int) := by omega
    first | rw [WR] | rw [WR2]
    clear hr WR WR2
    rcases (show r = 0 ∨ r = 1 ∨ r = 2 ∨ r = 3 ∨ r = 4 ∨ r = 5 ∨ r = 6 ∨ r = 7 by omega) with rfl | rfl | rfl | rfl | rfl | rfl | rfl | rfl
    · go_upto_region 20 with fail
      obtain ⟨z, hz⟩ : ∃ z : Sl, z = ⟨y1, t.drop, t.add, t.put, t.alike⟩ := ⟨_, rfl⟩
      have TZ := Lib.hid (show Blk (w6.setCell ⟨w5.heap.size, 0, none⟩ (.int .i64 y1)) w5.heap.size 32 [.int .i64 z.swap, .int .i64 z.drop, .int .i64 z.add, .int .i64 z.put, .slice ta z.alike.length tc] by rw [hz]; exact TB.out.put 0 (.int .i64 y1))
      have BZ := Lib.hid (B6.out.setCell (p := ⟨w5.heap.size, 0, none⟩) GE.out (.int .i64 y1))
      have ATZ := Lib.hid (show AlsAt (w6.setCell ⟨w5.heap.size, 0, none⟩ (.int .i64 y1)) (w6.setCell ⟨w5.heap.size, 0, none⟩ (.int .i64 y1)).heap.size (.slice ta z.alike.length tc) z.alike by rw [hz]; exact AT.out.on (B5.out.setCell (p := ⟨w5.heap.size, 0, none⟩) (Nat.le_refl _) (.int .i64 y1)))
      have LZ := Lib.hid (show z.alike.length ≤ maxLen ∧ z.alike.length ≤ tc by rw [hz]; exact ⟨Nat.le_trans HT.out.len (by decide), TCAP.out⟩)
      generalize hgw : w6.setCell _ _ = w8 at *
      clear hgw
      clear t0 t1 t2 t3 t4 f0 f1 f2 f3 f4 m0 m1 m2
      have FW := Lib.hid (show ∀ W, Below w8.heap.size w8 W → (W.cell? ⟨sb, 0, none⟩ = some (.int .i64 s.swap) ∧ W.cell? ⟨sb, 1, none⟩ = some (.int .i64 s.drop) ∧ W.cell? ⟨sb, 2, none⟩ = some (.int .i64 s.add) ∧ W.cell? ⟨sb, 3, none⟩ = some (.int .i64 s.put) ∧ W.cell? ⟨sb, 4, none⟩ = some (.slice sa s.alike.length sc)) ∧ (W.cell? ⟨w5.heap.size, 0, none⟩ = some (.int .i64 z.swap) ∧ W.cell? ⟨w5.heap.size, 1, none⟩ = some (.int .i64 z.drop) ∧ W.cell? ⟨w5.heap.size, 2, none⟩ = some (.int .i64 z.add) ∧ W.cell? ⟨w5.heap.size, 3, none⟩ = some (.int .i64 z.put) ∧ W.cell? ⟨w5.heap.size, 4, none⟩ = some (.slice ta z.alike.length tc)) ∧ W.cell? ⟨w.heap.size + 1, 0, none⟩ = some (.int .i64 l.swap) ∧ W.cell? ⟨w.heap.size + 1, 1, none⟩ = some (.int .i64 l.drop) ∧ W.cell? ⟨w.heap.size + 1, 2, none⟩ = some (.int .i64 l.add) ∧ W.cell? ⟨w.heap.size + 1, 3, none⟩ = some (.int .i64 l.put) ∧ W.cell? ⟨w.heap.size + 1, 4, none⟩ = some (.slice la l.alike.length lc) from fun W h => ⟨(SB.out.below (BZ.out.trans (h.mono BZ.out.size))).cells, slCells (TZ.out.below h), slCells (K1.out.below (BZ.out.trans (h.mono BZ.out.size)))⟩)
      have C1 := Lib.hid (show ∀ W, Below w8.heap.size w8 W → Calls Try.prog 20 #[.agg #[.int .i64 s.swap, .int .i64 s.drop, .int .i64 s.add, .int .i64 s.put, .slice sa s.alike.length sc]] W fun e w' => e = .returned (.bool true) ∧ Below w8.heap.size w8 w' from fun W h => (Valid_any s sa sc W (AL.out.on (BZ.out.trans (h.mono BZ.out.size))) (Nat.le_trans HS.out.len (by decide)) SCAP.out).mono fun e w' h2 => ⟨by rw [h2.1, HS.out.valid], h.trans (h2.2.mono h.size)⟩)
      obtain ⟨vz, hvz⟩ : ∃ b, b = validS z := ⟨_, rfl⟩
      obtain ⟨vl, hvl⟩ : ∃ b, b = validS l := ⟨_, rfl⟩
      have C2 := Lib.hid (show ∀ W, Below w8.heap.size w8 W → Calls Try.prog 20 #[.agg #[.int .i64 z.swap, .int .i64 z.drop, .int .i64 z.add, .int .i64 z.put, .slice ta z.alike.length tc]] W fun e w' => e = .returned (.bool vz) ∧ Below w8.heap.size w8 w' from fun W h => (Valid_any z ta tc W (ATZ.out.on h) LZ.out.1 LZ.out.2).mono fun e w' h2 => ⟨by rw [h2.1, hvz], h.trans (h2.2.mono h.size)⟩)
      have C3 := Lib.hid (show ∀ W, Below w8.heap.size w8 W → Calls Try.prog 21 #[.agg #[.int .i64 z.swap, .int .i64 z.drop, .int .i64 z.add, .int .i64 z.put, .slice ta z.alike.length tc]] W fun e w' => e = .returned (.bool vz) ∧ Below w8.heap.size w8 w' from fun W h => (RValid_any z ta tc W (ATZ.out.on h) LZ.out.1).mono fun e w' h2 => ⟨by rw [h2.1, hvz], h.trans (h2.2.mono h.size)⟩)
      have C4 := Lib.hid (show ∀ W, Below w8.heap.size w8 W → Calls Try.prog 20 #[.agg #[.int .i64 l.swap, .int .i64 l.drop, .int .i64 l.add, .int .i64 l.put, .slice la l.alike.length lc]] W fun e w' => e = .returned (.bool vl) ∧ Below w8.heap.size w8 w' from fun W h => (Valid_any l la lc W (HLA.out.on (B4.out.trans ((BZ.out.trans (h.mono BZ.out.size)).mono B4.out.size))) HL1.out.2 HL1.out.1).mono fun e w' h2 => ⟨by rw [h2.1, hvl], h.trans (h2.2.mono h.size)⟩)
      have C5 := Lib.hid (show ∀ W, Below w8.heap.size w8 W → Calls Try.prog 21 #[.agg #[.int .i64 l.swap, .int .i64 l.drop, .int .i64 l.add, .int .i64 l.put, .slice la l.alike.length lc]] W fun e w' => e = .returned (.bool vl) ∧ Below w8.heap.size w8 w' from fun W h => (RValid_any l la lc W (HLA.out.on (B4.out.trans ((BZ.out.trans (h.mono BZ.out.size)).mono B4.out.size))) HL1.out.2).mono fun e w' h2 => ⟨by rw [h2.1, hvl], h.trans (h2.2.mono h.size)⟩)
      clear hvz hvl hz
      refine wp_normal ?_
      refine wp_region_class (C := fun W => Below w8.heap.size w8 W) (by kernel_rfl) (by kernel_rfl) (Below.refl _ _).drew ?_
      repeat (first | go_big_quiet_skip | (go_big_quiet_want; first | (go_big_quiet_op; go_big_quiet_on) | (refine quiet_value ?_ (fun W h => ?_) ?_; rotate_left; (· obtain ⟨⟨f0, f1, f2, f3, f4⟩, ⟨f5, f6, f7, f8, f9⟩, f10, f11, f12, f13, f14⟩ := FW.out W h; go_simp; rfl); go_simp; go_big_quiet_on) | (refine quiet_call _ _ _ (fun W => ?_) C1.out ?_; (· go_simp; done); go_simp; go_big_quiet_on) | (refine quiet_call _ _ _ (fun W => ?_) C2.out ?_; (· go_simp; done); go_simp; go_big_quiet_on) | (refine quiet_call _ _ _ (fun W => ?_) C3.out ?_; (· go_simp; done); go_simp; go_big_quiet_on) | (refine quiet_call _ _ _ (fun W => ?_) C4.out ?_; (· go_simp; done); go_simp; go_big_quiet_on) | (refine quiet_call _ _ _ (fun W => ?_) C5.out ?_; (· go_simp; done); go_simp; go_big_quiet_on)))
      refine wpQuiet_nil ?_
      intro W hb
      refine ⟨rfl, ?_⟩
      have B11 := Lib.hid (B4.out.trans ((BZ.out.trans (hb.mono BZ.out.size)).mono B4.out.size))
      clear FW C1 C2 C3 C4 C5 hb
      cases vz <;> cases vl <;> (go_wp2_with fail; go_ret; exact ⟨rfl, B11.out⟩)
    · go_upto_region 20 with fail
      obtain ⟨z, hz⟩ : ∃ z : Sl, z = ⟨t.swap, y1, t.add, t.put, t.alike⟩ := ⟨_, rfl⟩
      have TZ := Lib.hid (show Blk (w6.setCell ⟨w5.heap.size, 1, none⟩ (.int .i64 y1)) w5.heap.size 32 [.int .i64 z.swap, .int .i64 z.drop, .int .i64 z.add, .int .i64 z.put, .slice ta z.alike.length tc] by rw [hz]; exact TB.out.put 1 (.int .i64 y1))
      have BZ := Lib.hid (B6.out.setCell (p := ⟨w5.heap.size, 1, none⟩) GE.out (.int .i64 y1))
      have ATZ := Lib.hid (show AlsAt (w6.setCell ⟨w5.heap.size, 1, none⟩ (.int .i64 y1)) (w6.setCell ⟨w5.heap.size, 1, none⟩ (.int .i64 y1)).heap.size (.slice ta z.alike.length tc) z.alike by rw [hz]; exact AT.out.on (B5.out.setCell (p := ⟨w5.heap.size, 1, none⟩) (Nat.le_refl _) (.int .i64 y1)))
      have LZ := Lib.hid (show z.alike.length ≤ maxLen ∧ z.alike.length ≤ tc by rw [hz]; exact ⟨Nat.le_trans HT.out.len (by decide), TCAP.out⟩)
      generalize hgw : w6.setCell _ _ = w8 at *
      clear hgw
      clear t0 t1 t2 t3 t4 f0 f1 f2 f3 f4 m0 m1 m2
      have FW := Lib.hid (show ∀ W, Below w8.heap.size w8 W → (W.cell? ⟨sb, 0, none⟩ = some (.int .i64 s.swap) ∧ W.cell? ⟨sb, 1, none⟩ = some (.int .i64 s.drop) ∧ W.cell? ⟨sb, 2, none⟩ = some (.int .i64 s.add) ∧ W.cell? ⟨sb, 3, none⟩ = some (.int .i64 s.put) ∧ W.cell? ⟨sb, 4, none⟩ = some (.slice sa s.alike.length sc)) ∧ (W.cell? ⟨w5.heap.size, 0, none⟩ = some (.int .i64 z.swap) ∧ W.cell? ⟨w5.heap.size, 1, none⟩ = some (.int .i64 z.drop) ∧ W.cell? ⟨w5.heap.size, 2, none⟩ = some (.int .i64 z.add) ∧ W.cell? ⟨w5.heap.size, 3, none⟩ = some (.int .i64 z.put) ∧ W.cell? ⟨w5.heap.size, 4, none⟩ = some (.slice ta z.alike.length tc)) ∧ W.cell? ⟨w.heap.size + 1, 0, none⟩ = some (.int .i64 l.swap) ∧ W.cell? ⟨w.heap.size + 1, 1, none⟩ = some (.int .i64 l.drop) ∧ W.cell? ⟨w.heap.size + 1, 2, none⟩ = some (.int .i64 l.add) ∧ W.cell? ⟨w.heap.size + 1, 3, none⟩ = some (.int .i64 l.put) ∧ W.cell? ⟨w.heap.size + 1, 4, none⟩ = some (.slice la l.alike.length lc) from fun W h => ⟨(SB.out.below (BZ.out.trans (h.mono BZ.out.size))).cells, slCells (TZ.out.below h), slCells (K1.out.below (BZ.out.trans (h.mono BZ.out.size)))⟩)
      have C1 := Lib.hid (show ∀ W, Below w8.heap.size w8 W → Calls Try.prog 20 #[.agg #[.int .i64 s.swap, .int .i64 s.drop, .int .i64 s.add, .int .i64 s.put, .slice sa s.alike.length sc]] W fun e w' => e = .returned (.bool true) ∧ Below w8.heap.size w8 w' from fun W h => (Valid_any s sa sc W (AL.out.on (BZ.out.trans (h.mono BZ.out.size))) (Nat.le_trans HS.out.len (by decide)) SCAP.out).mono fun e w' h2 => ⟨by rw [h2.1, HS.out.valid], h.trans (h2.2.mono h.size)⟩)
      obtain ⟨vz, hvz⟩ : ∃ b, b = validS z := ⟨_, rfl⟩
      obtain ⟨vl, hvl⟩ : ∃ b, b = validS l := ⟨_, rfl⟩
      have C2 := Lib.hid (show ∀ W, Below w8.heap.size w8 W → Calls Try.prog 20 #[.agg #[.int .i64 z.swap, .int .i64 z.drop, .int .i64 z.add, .int .i64 z.put, .slice ta z.alike.length tc]] W fun e w' => e = .returned (.bool vz) ∧ Below w8.heap.size w8 w' from fun W h => (Valid_any z ta tc W (ATZ.out.on h) LZ.out.1 LZ.out.2).mono fun e w' h2 => ⟨by rw [h2.1, hvz], h.trans (h2.2.mono h.size)⟩)
      have C3 := Lib.hid (show ∀ W, Below w8.heap.size w8 W → Calls Try.prog 21 #[.agg #[.int .i64 z.swap, .int .i64 z.drop, .int .i64 z.add, .int .i64 z.put, .slice ta z.alike.length tc]] W fun e w' => e = .returned (.bool vz) ∧ Below w8.heap.size w8 w' from fun W h => (RValid_any z ta tc W (ATZ.out.on h) LZ.out.1).mono fun e w' h2 => ⟨by rw [h2.1, hvz], h.trans (h2.2.mono h.size)⟩)
      have C4 := Lib.hid (show ∀ W, Below w8.heap.size w8 W → Calls Try.prog 20 #[.agg #[.int .i64 l.swap, .int .i64 l.drop, .int .i64 l.add, .int .i64 l.put, .slice la l.alike.length lc]] W fun e w' => e = .returned (.bool vl) ∧ Below w8.heap.size w8 w' from fun W h => (Valid_any l la lc W (HLA.out.on (B4.out.trans ((BZ.out.trans (h.mono BZ.out.size)).mono B4.out.size))) HL1.out.2 HL1.out.1).mono fun e w' h2 => ⟨by rw [h2.1, hvl], h.trans (h2.2.mono h.size)⟩)
      have C5 := Lib.hid (show ∀ W, Below w8.heap.size w8 W → Calls Try.prog 21 #[.agg #[.int .i64 l.swap, .int .i64 l.drop, .int .i64 l.add, .int .i64 l.put, .slice la l.alike.length lc]] W fun e w' => e = .returned (.bool vl) ∧ Below w8.heap.size w8 w' from fun W h => (RValid_any l la lc W (HLA.out.on (B4.out.trans ((BZ.out.trans (h.mono BZ.out.size)).mono B4.out.size))) HL1.out.2).mono fun e w' h2 => ⟨by rw [h2.1, hvl], h.trans (h2.2.mono h.size)⟩)
      clear hvz hvl hz
      refine wp_normal ?_
      refine wp_region_class (C := fun W => Below w8.heap.size w8 W) (by kernel_rfl) (by kernel_rfl) (Below.refl _ _).drew ?_
      repeat (first | go_big_quiet_skip | (go_big_quiet_want; first | (go_big_quiet_op; go_big_quiet_on) | (refine quiet_value ?_ (fun W h => ?_) ?_; rotate_left; (· obtain ⟨⟨f0, f1, f2, f3, f4⟩, ⟨f5, f6, f7, f8, f9⟩, f10, f11, f12, f13, f14⟩ := FW.out W h; go_simp; rfl); go_simp; go_big_quiet_on) | (refine quiet_call _ _ _ (fun W => ?_) C1.out ?_; (· go_simp; done); go_simp; go_big_quiet_on) | (refine quiet_call _ _ _ (fun W => ?_) C2.out ?_; (· go_simp; done); go_simp; go_big_quiet_on) | (refine quiet_call _ _ _ (fun W => ?_) C3.out ?_; (· go_simp; done); go_simp; go_big_quiet_on) | (refine quiet_call _ _ _ (fun W => ?_) C4.out ?_; (· go_simp; done); go_simp; go_big_quiet_on) | (refine quiet_call _ _ _ (fun W => ?_) C5.out ?_; (· go_simp; done); go_simp; go_big_quiet_on)))
      refine wpQuiet_nil ?_
      intro W hb
      refine ⟨rfl, ?_⟩
      have B11 := Lib.hid (B4.out.trans ((BZ.out.trans (hb.mono BZ.out.size)).mono B4.out.size))
      clear FW C1 C2 C3 C4 C5 hb
      cases vz <;> cases vl <;> (go_wp2_with fail; go_ret; exact ⟨rfl, B11.out⟩)
    · go_upto_region 20 with fail
      obtain ⟨z, hz⟩ : ∃ z : Sl, z = ⟨t.swap, t.drop, y1, t.put, t.alike⟩ := ⟨_, rfl⟩
      have TZ := Lib.hid (show Blk (w6.setCell ⟨w5.heap.size, 2, none⟩ (.int .i64 y1)) w5.heap.size 32 [.int .i64 z.swap, .int .i64 z.drop, .int .i64 z.add, .int .i64 z.put, .slice ta z.alike.length tc] by rw [hz]; exact TB.out.put 2 (.int .i64 y1))
      have BZ := Lib.hid (B6.out.setCell (p := ⟨w5.heap.size, 2, none⟩) GE.out (.int .i64 y1))
      have ATZ := Lib.hid (show AlsAt (w6.setCell ⟨w5.heap.size, 2, none⟩ (.int .i64 y1)) (w6.setCell ⟨w5.heap.size, 2, none⟩ (.int .i64 y1)).heap.size (.slice ta z.alike.length tc) z.alike by rw [hz]; exact AT.out.on (B5.out.setCell (p := ⟨w5.heap.size, 2, none⟩) (Nat.le_refl _) (.int .i64 y1)))
      have LZ := Lib.hid (show z.alike.length ≤ maxLen ∧ z.alike.length ≤ tc by rw [hz]; exact ⟨Nat.le_trans HT.out.len (by decide), TCAP.out⟩)
      generalize hgw : w6.setCell _ _ = w8 at *
      clear hgw
      clear t0 t1 t2 t3 t4 f0 f1 f2 f3 f4 m0 m1 m2
      have FW := Lib.hid (show ∀ W, Below w8.heap.size w8 W → (W.cell? ⟨sb, 0, none⟩ = some (.int .i64 s.swap) ∧ W.cell? ⟨sb, 1, none⟩ = some (.int .i64 s.drop) ∧ W.cell? ⟨sb, 2, none⟩ = some (.int .i64 s.add) ∧ W.cell? ⟨sb, 3, none⟩ = some (.int .i64 s.put) ∧ W.cell? ⟨sb, 4, none⟩ = some (.slice sa s.alike.length sc)) ∧ (W.cell? ⟨w5.heap.size, 0, none⟩ = some (.int .i64 z.swap) ∧ W.cell? ⟨w5.heap.size, 1, none⟩ = some (.int .i64 z.drop) ∧ W.cell? ⟨w5.heap.size, 2, none⟩ = some (.int .i64 z.add) ∧ W.cell? ⟨w5.heap.size, 3, none⟩ = some (.int .i64 z.put) ∧ W.cell? ⟨w5.heap.size, 4, none⟩ = some (.slice ta z.alike.length tc)) ∧ W.cell? ⟨w.heap.size + 1, 0, none⟩ = some (.int .i64 l.swap) ∧ W.cell? ⟨w.heap.size + 1, 1, none⟩ = some (.int .i64 l.drop) ∧ W.cell? ⟨w.heap.size + 1, 2, none⟩ = some (.int .i64 l.add) ∧ W.cell? ⟨w.heap.size + 1, 3, none⟩ = some (.int .i64 l.put) ∧ W.cell? ⟨w.heap.size + 1, 4, none⟩ = some (.slice la l.alike.length lc) from fun W h => ⟨(SB.out.below (BZ.out.trans (h.mono BZ.out.size))).cells, slCells (TZ.out.below h), slCells (K1.out.below (BZ.out.trans (h.mono BZ.out.size)))⟩)
      have C1 := Lib.hid (show ∀ W, Below w8.heap.size w8 W → Calls Try.prog 20 #[.agg #[.int .i64 s.swap, .int .i64 s.drop, .int .i64 s.add, .int .i64 s.put, .slice sa s.alike.length sc]] W fun e w' => e = .returned (.bool true) ∧ Below w8.heap.size w8 w' from fun W h => (Valid_any s sa sc W (AL.out.on (BZ.out.trans (h.mono BZ.out.size))) (Nat.le_trans HS.out.len (by decide)) SCAP.out).mono fun e w' h2 => ⟨by rw [h2.1, HS.out.valid], h.trans (h2.2.mono h.size)⟩)
      obtain ⟨vz, hvz⟩ : ∃ b, b = validS z := ⟨_, rfl⟩
      obtain ⟨vl, hvl⟩ : ∃ b, b = validS l := ⟨_, rfl⟩
      have C2 := Lib.hid (show ∀ W, Below w8.heap.size w8 W → Calls Try.prog 20 #[.agg #[.int .i64 z.swap, .int .i64 z.drop, .int .i64 z.add, .int .i64 z.put, .slice ta z.alike.length tc]] W fun e w' => e = .returned (.bool vz) ∧ Below w8.heap.size w8 w' from fun W h => (Valid_any z ta tc W (ATZ.out.on h) LZ.out.1 LZ.out.2).mono fun e w' h2 => ⟨by rw [h2.1, hvz], h.trans (h2.2.mono h.size)⟩)
      have C3 := Lib.hid (show ∀ W, Below w8.heap.size w8 W → Calls Try.prog 21 #[.agg #[.int .i64 z.swap, .int .i64 z.drop, .int .i64 z.add, .int .i64 z.put, .slice ta z.alike.length tc]] W fun e w' => e = .returned (.bool vz) ∧ Below w8.heap.size w8 w' from fun W h => (RValid_any z ta tc W (ATZ.out.on h) LZ.out.1).mono fun e w' h2 => ⟨by rw [h2.1, hvz], h.trans (h2.2.mono h.size)⟩)
      have C4 := Lib.hid (show ∀ W, Below w8.heap.size w8 W → Calls Try.prog 20 #[.agg #[.int .i64 l.swap, .int .i64 l.drop, .int .i64 l.add, .int .i64 l.put, .slice la l.alike.length lc]] W fun e w' => e = .returned (.bool vl) ∧ Below w8.heap.size w8 w' from fun W h => (Valid_any l la lc W (HLA.out.on (B4.out.trans ((BZ.out.trans (h.mono BZ.out.size)).mono B4.out.size))) HL1.out.2 HL1.out.1).mono fun e w' h2 => ⟨by rw [h2.1, hvl], h.trans (h2.2.mono h.size)⟩)
      have C5 := Lib.hid (show ∀ W, Below w8.heap.size w8 W → Calls Try.prog 21 #[.agg #[.int .i64 l.swap, .int .i64 l.drop, .int .i64 l.add, .int .i64 l.put, .slice la l.alike.length lc]] W fun e w' => e = .returned (.bool vl) ∧ Below w8.heap.size w8 w' from fun W h => (RValid_any l la lc W (HLA.out.on (B4.out.trans ((BZ.out.trans (h.mono BZ.out.size)).mono B4.out.size))) HL1.out.2).mono fun e w' h2 => ⟨by rw [h2.1, hvl], h.trans (h2.2.mono h.size)⟩)
      clear hvz hvl hz
      refine wp_normal ?_
      refine wp_region_class (C := fun W => Below w8.heap.size w8 W) (by kernel_rfl) (by kernel_rfl) (Below.refl _ _).drew ?_
      repeat (first | go_big_quiet_skip | (go_big_quiet_want; first | (go_big_quiet_op; go_big_quiet_on) | (refine quiet_value ?_ (fun W h => ?_) ?_; rotate_left; (· obtain ⟨⟨f0, f1, f2, f3, f4⟩, ⟨f5, f6, f7, f8, f9⟩, f10, f11, f12, f13, f14⟩ := FW.out W h; go_simp; rfl); go_simp; go_big_quiet_on) | (refine quiet_call _ _ _ (fun W => ?_) C1.out ?_; (· go_simp; done); go_simp; go_big_quiet_on) | (refine quiet_call _ _ _ (fun W => ?_) C2.out ?_; (· go_simp; done); go_simp; go_big_quiet_on) | (refine quiet_call _ _ _ (fun W => ?_) C3.out ?_; (· go_simp; done); go_simp; go_big_quiet_on) | (refine quiet_call _ _ _ (fun W => ?_) C4.out ?_; (· go_simp; done); go_simp; go_big_quiet_on) | (refine quiet_call _ _ _ (fun W => ?_) C5.out ?_; (· go_simp; done); go_simp; go_big_quiet_on)))
      refine wpQuiet_nil ?_
      intro W hb
      refine ⟨rfl, ?_⟩
      have B11 := Lib.hid (B4.out.trans ((BZ.out.trans (hb.mono BZ.out.size)).mono B4.out.size))
      clear FW C1 C2 C3 C4 C5 hb
      cases vz <;> cases vl <;> (go_wp2_with fail; go_ret; exact ⟨rfl, B11.out⟩)
    · go_upto_region 20 with fail
      obtain ⟨z, hz⟩ : ∃ z : Sl, z = ⟨t.swap, t.drop, t.add, y1, t.alike⟩ := ⟨_, rfl⟩
      have TZ := Lib.hid (show Blk (w6.setCell ⟨w5.heap.size, 3, none⟩ (.int .i64 y1)) w5.heap.size 32 [.int .i64 z.swap, .int .i64 z.drop, .int .i64 z.add, .int .i64 z.put, .slice ta z.alike.length tc] by rw [hz]; exact TB.out.put 3 (.int .i64 y1))
      have BZ := Lib.hid (B6.out.setCell (p := ⟨w5.heap.size, 3, none⟩) GE.out (.int .i64 y1))
      have ATZ := Lib.hid (show AlsAt (w6.setCell ⟨w5.heap.size, 3, none⟩ (.int .i64 y1)) (w6.setCell ⟨w5.heap.size, 3, none⟩ (.int .i64 y1)).heap.size (.slice ta z.alike.length tc) z.alike by rw [hz]; exact AT.out.on (B5.out.setCell (p := ⟨w5.heap.size, 3, none⟩) (Nat.le_refl _) (.int .i64 y1)))
      have LZ := Lib.hid (show z.alike.length ≤ maxLen ∧ z.alike.length ≤ tc by rw [hz]; exact ⟨Nat.le_trans HT.out.len (by decide), TCAP.out⟩)
      generalize hgw : w6.setCell _ _ = w8 at *
      clear hgw
      clear t0 t1 t2 t3 t4 f0 f1 f2 f3 f4 m0 m1 m2
      have FW := Lib.hid (show ∀ W, Below w8.heap.size w8 W → (W.cell? ⟨sb, 0, none⟩ = some (.int .i64 s.swap) ∧ W.cell? ⟨sb, 1, none⟩ = some (.int .i64 s.drop) ∧ W.cell? ⟨sb, 2, none⟩ = some (.int .i64 s.add) ∧ W.cell? ⟨sb, 3, none⟩ = some (.int .i64 s.put) ∧ W.cell? ⟨sb, 4, none⟩ = some (.slice sa s.alike.length sc)) ∧ (W.cell? ⟨w5.heap.size, 0, none⟩ = some (.int .i64 z.swap) ∧ W.cell? ⟨w5.heap.size, 1, none⟩ = some (.int .i64 z.drop) ∧ W.cell? ⟨w5.heap.size, 2, none⟩ = some (.int .i64 z.add) ∧ W.cell? ⟨w5.heap.size, 3, none⟩ = some (.int .i64 z.put) ∧ W.cell? ⟨w5.heap.size, 4, none⟩ = some (.slice ta z.alike.length tc)) ∧ W.cell? ⟨w.heap.size + 1, 0, none⟩ = some (.int .i64 l.swap) ∧ W.cell? ⟨w.heap.size + 1, 1, none⟩ = some (.int .i64 l.drop) ∧ W.cell? ⟨w.heap.size + 1, 2, none⟩ = some (.int .i64 l.add) ∧ W.cell? ⟨w.heap.size + 1, 3, none⟩ = some (.int .i64 l.put) ∧ W.cell? ⟨w.heap.size + 1, 4, none⟩ = some (.slice la l.alike.length lc) from fun W h => ⟨(SB.out.below (BZ.out.trans (h.mono BZ.out.size))).cells, slCells (TZ.out.below h), slCells (K1.out.below (BZ.out.trans (h.mono BZ.out.size)))⟩)
      have C1 := Lib.hid (show ∀ W, Below w8.heap.size w8 W → Calls Try.prog 20 #[.agg #[.int .i64 s.swap, .int .i64 s.drop, .int .i64 s.add, .int .i64 s.put, .slice sa s.alike.length sc]] W fun e w' => e = .returned (.bool true) ∧ Below w8.heap.size w8 w' from fun W h => (Valid_any s sa sc W (AL.out.on (BZ.out.trans (h.mono BZ.out.size))) (Nat.le_trans HS.out.len (by decide)) SCAP.out).mono fun e w' h2 => ⟨by rw [h2.1, HS.out.valid], h.trans (h2.2.mono h.size)⟩)
      obtain ⟨vz, hvz⟩ : ∃ b, b = validS z := ⟨_, rfl⟩
      obtain ⟨vl, hvl⟩ : ∃ b, b = validS l := ⟨_, rfl⟩
      have C2 := Lib.hid (show ∀ W, Below w8.heap.size w8 W → Calls Try.prog 20 #[.agg #[.int .i64 z.swap, .int .i64 z.drop, .int .i64 z.add, .int .i64 z.put, .slice ta z.alike.length tc]] W fun e w' => e = .returned (.bool vz) ∧ Below w8.heap.size w8 w' from fun W h => (Valid_any z ta tc W (ATZ.out.on h) LZ.out.1 LZ.out.2).mono fun e w' h2 => ⟨by rw [h2.1, hvz], h.trans (h2.2.mono h.size)⟩)
      have C3 := Lib.hid (show ∀ W, Below w8.heap.size w8 W → Calls Try.prog 21 #[.agg #[.int .i64 z.swap, .int .i64 z.drop, .int .i64 z.add, .int .i64 z.put, .slice ta z.alike.length tc]] W fun e w' => e = .returned (.bool vz) ∧ Below w8.heap.size w8 w' from fun W h => (RValid_any z ta tc W (ATZ.out.on h) LZ.out.1).mono fun e w' h2 => ⟨by rw [h2.1, hvz], h.trans (h2.2.mono h.size)⟩)
      have C4 := Lib.hid (show ∀ W, Below w8.heap.size w8 W → Calls Try.prog 20 #[.agg #[.int .i64 l.swap, .int .i64 l.drop, .int .i64 l.add, .int .i64 l.put, .slice la l.alike.length lc]] W fun e w' => e = .returned (.bool vl) ∧ Below w8.heap.size w8 w' from fun W h => (Valid_any l la lc W (HLA.out.on (B4.out.trans ((BZ.out.trans (h.mono BZ.out.size)).mono B4.out.size))) HL1.out.2 HL1.out.1).mono fun e w' h2 => ⟨by rw [h2.1, hvl], h.trans (h2.2.mono h.size)⟩)
      have C5 := Lib.hid (show ∀ W, Below w8.heap.size w8 W → Calls Try.prog 21 #[.agg #[.int .i64 l.swap, .int .i64 l.drop, .int .i64 l.add, .int .i64 l.put, .slice la l.alike.length lc]] W fun e w' => e = .returned (.bool vl) ∧ Below w8.heap.size w8 w' from fun W h => (RValid_any l la lc W (HLA.out.on (B4.out.trans ((BZ.out.trans (h.mono BZ.out.size)).mono B4.out.size))) HL1.out.2).mono fun e w' h2 => ⟨by rw [h2.1, hvl], h.trans (h2.2.mono h.size)⟩)
      clear hvz hvl hz
      refine wp_normal ?_
      refine wp_region_class (C := fun W => Below w8.heap.size w8 W) (by kernel_rfl) (by kernel_rfl) (Below.refl _ _).drew ?_
      repeat (first | go_big_quiet_skip | (go_big_quiet_want; first | (go_big_quiet_op; go_big_quiet_on) | (refine quiet_value ?_ (fun W h => ?_) ?_; rotate_left; (· obtain ⟨⟨f0, f1, f2, f3, f4⟩, ⟨f5, f6, f7, f8, f9⟩, f10, f11, f12, f13, f14⟩ := FW.out W h; go_simp; rfl); go_simp; go_big_quiet_on) | (refine quiet_call _ _ _ (fun W => ?_) C1.out ?_; (· go_simp; done); go_simp; go_big_quiet_on) | (refine quiet_call _ _ _ (fun W => ?_) C2.out ?_; (· go_simp; done); go_simp; go_big_quiet_on) | (refine quiet_call _ _ _ (fun W => ?_) C3.out ?_; (· go_simp; done); go_simp; go_big_quiet_on) | (refine quiet_call _ _ _ (fun W => ?_) C4.out ?_; (· go_simp; done); go_simp; go_big_quiet_on) | (refine quiet_call _ _ _ (fun W => ?_) C5.out ?_; (· go_simp; done); go_simp; go_big_quiet_on)))
      refine wpQuiet_nil ?_
      intro W hb
      refine ⟨rfl, ?_⟩
      have B11 := Lib.hid (B4.out.trans ((BZ.out.trans (hb.mono BZ.out.size)).mono B4.out.size))
      clear FW C1 C2 C3 C4 C5 hb
      cases vz <;> cases vl <;> (go_wp2_with fail; go_ret; exact ⟨rfl, B11.out⟩)
    · obtain ⟨A, e1⟩ := byte_of y1
      obtain ⟨E, e2⟩ := byte_of y2
      have one := Lib.hid (show AlsOwn (w6.alloc (.cells #[.int .u8 (A.toNat : Nat), .int .u8 (E.toNat : Nat), .int .i64 4] 46)) w6.heap.size (.slice (some ⟨w6.heap.size, 0, none⟩) 1 1) [(⟨A, E, 4⟩ : Al)] by exact AlsOwn.one w6 (⟨A, E, 4⟩ : Al))
      have b7 := (Below.refl w6.heap.size w6).alloc (Nat.le_refl _) (.cells #[.int .u8 (A.toNat : Nat), .int .u8 (E.toNat : Nat), .int .i64 4] 46)
      have O7 := Lib.hid (OW.out.below b7)
      have T7 := Lib.hid (TB.out.below b7)
      have B7 := Lib.hid (B6.out.trans (b7.mono B6.out.size))
      have hz7 : w4.heap.size ≤ (w6.alloc (.cells #[.int .u8 (A.toNat : Nat), .int .u8 (E.toNat : Nat), .int .i64 4] 46)).heap.size := B7.out.size
      have HL5 := HT.out.len
      go_upto_region 20 with (first | (at_builtin; refine wpList_append_als rfl _ _ rfl w4.heap.size _ t.alike rfl O7.out w6.heap.size _ [(⟨A, E, 4⟩ : Al)] rfl one.out (by first | omega | (simp; omega)) hz7 ?_; intro v8 w7 own8 grow8; have T8 := Lib.hid (T7.out.grown grow8 (fun e => Nat.lt_irrefl _ (LT5.out _ e))); have u4 := T8.out.cell 4; have u4f := T8.out.free 4; simp only [List.getElem?_cons_succ, List.getElem?_cons_zero] at u4; obtain ⟨za, zc, rfl⟩ := own8.shape; have BG := Lib.hid (B7.out.grown grow8 hz7 (fun k hk => BK5.out k hk)); have OG := Lib.hid own8; clear own8 grow8) | fail)
      obtain ⟨z, hz⟩ : ∃ z : Sl, z = ⟨t.swap, t.drop, t.add, t.put, t.alike ++ [(⟨A, E, 4⟩ : Al)]⟩ := ⟨_, rfl⟩
      have TZ := Lib.hid (show Blk (w7.setCell ⟨w5.heap.size, 4, none⟩ (.slice za (t.alike ++ [(⟨A, E, 4⟩ : Al)]).length zc)) w5.heap.size 32 [.int .i64 z.swap, .int .i64 z.drop, .int .i64 z.add, .int .i64 z.put, .slice za z.alike.length zc] by rw [hz]; exact T8.out.put 4 _)
      have BZ := Lib.hid (BG.out.setCell (p := ⟨w5.heap.size, 4, none⟩) GE.out (.slice za (t.alike ++ [(⟨A, E, 4⟩ : Al)]).length zc))
      have OZ := OG.out.setSlips (o := 4) (u := .slice za (t.alike ++ [(⟨A, E, 4⟩ : Al)]).length zc) T8.out
      have ATZ := Lib.hid (show AlsAt (w7.setCell ⟨w5.heap.size, 4, none⟩ (.slice za (t.alike ++ [(⟨A, E, 4⟩ : Al)]).length zc)) (w7.setCell ⟨w5.heap.size, 4, none⟩ (.slice za (t.alike ++ [(⟨A, E, 4⟩ : Al)]).length zc)).heap.size (.slice za z.alike.length zc) z.alike by rw [hz]; exact OZ.at)
      have LZ := Lib.hid (show z.alike.length ≤ maxLen ∧ z.alike.length ≤ zc by rw [hz]; exact ⟨Nat.le_trans (show (t.alike ++ [(⟨A, E, 4⟩ : Al)]).length ≤ 10 by rw [List.length_append]; first | omega | (simp; omega)) (by decide), OZ.cap⟩)
      clear OZ OG T8 BG T7 B7 u4 u4f
      first | rw [← List.length_append] | (try simp only [List.length_append, List.length_cons, List.length_nil, Nat.zero_add] at TZ BZ ATZ)
      generalize hgw : w7.setCell _ _ = w8 at *
      clear hgw
      clear t0 t1 t2 t3 t4 f0 f1 f2 f3 f4 m0 m1 m2
      have FW := Lib.hid (show ∀ W, Below w8.heap.size w8 W → (W.cell? ⟨sb, 0, none⟩ = some (.int .i64 s.swap) ∧ W.cell? ⟨sb, 1, none⟩ = some (.int .i64 s.drop) ∧ W.cell? ⟨sb, 2, none⟩ = some (.int .i64 s.add) ∧ W.cell? ⟨sb, 3, none⟩ = some (.int .i64 s.put) ∧ W.cell? ⟨sb, 4, none⟩ = some (.slice sa s.alike.length sc)) ∧ (W.cell? ⟨w5.heap.size, 0, none⟩ = some (.int .i64 z.swap) ∧ W.cell? ⟨w5.heap.size, 1, none⟩ = some (.int .i64 z.drop) ∧ W.cell? ⟨w5.heap.size, 2, none⟩ = some (.int .i64 z.add) ∧ W.cell? ⟨w5.heap.size, 3, none⟩ = some (.int .i64 z.put) ∧ W.cell? ⟨w5.heap.size, 4, none⟩ = some (.slice za z.alike.length zc)) ∧ W.cell? ⟨w.heap.size + 1, 0, none⟩ = some (.int .i64 l.swap) ∧ W.cell? ⟨w.heap.size + 1, 1, none⟩ = some (.int .i64 l.drop) ∧ W.cell? ⟨w.heap.size + 1, 2, none⟩ = some (.int .i64 l.add) ∧ W.cell? ⟨w.heap.size + 1, 3, none⟩ = some (.int .i64 l.put) ∧ W.cell? ⟨w.heap.size + 1, 4, none⟩ = some (.slice la l.alike.length lc) from fun W h => ⟨(SB.out.below (BZ.out.trans (h.mono BZ.out.size))).cells, slCells (TZ.out.below h), slCells (K1.out.below (BZ.out.trans (h.mono BZ.out.size)))⟩)
      have C1 := Lib.hid (show ∀ W, Below w8.heap.size w8 W → Calls Try.prog 20 #[.agg #[.int .i64 s.swap, .int .i64 s.drop, .int .i64 s.add, .int .i64 s.put, .slice sa s.alike.length sc]] W fun e w' => e = .returned (.bool true) ∧ Below w8.heap.size w8 w' from fun W h => (Valid_any s sa sc W (AL.out.on (BZ.out.trans (h.mono BZ.out.size))) (Nat.le_trans HS.out.len (by decide)) SCAP.out).mono fun e w' h2 => ⟨by rw [h2.1, HS.out.valid], h.trans (h2.2.mono h.size)⟩)
      obtain ⟨vz, hvz⟩ : ∃ b, b = validS z := ⟨_, rfl⟩
      obtain ⟨vl, hvl⟩ : ∃ b, b = validS l := ⟨_, rfl⟩
      have C2 := Lib.hid (show ∀ W, Below w8.heap.size w8 W → Calls Try.prog 20 #[.agg #[.int .i64 z.swap, .int .i64 z.drop, .int .i64 z.add, .int .i64 z.put, .slice za z.alike.length zc]] W fun e w' => e = .returned (.bool vz) ∧ Below w8.heap.size w8 w' from fun W h => (Valid_any z za zc W (ATZ.out.on h) LZ.out.1 LZ.out.2).mono fun e w' h2 => ⟨by rw [h2.1, hvz], h.trans (h2.2.mono h.size)⟩)
      have C3 := Lib.hid (show ∀ W, Below w8.heap.size w8 W → Calls Try.prog 21 #[.agg #[.int .i64 z.swap, .int .i64 z.drop, .int .i64 z.add, .int .i64 z.put, .slice za z.alike.length zc]] W fun e w' => e = .returned (.bool vz) ∧ Below w8.heap.size w8 w' from fun W h => (RValid_any z za zc W (ATZ.out.on h) LZ.out.1).mono fun e w' h2 => ⟨by rw [h2.1, hvz], h.trans (h2.2.mono h.size)⟩)
      have C4 := Lib.hid (show ∀ W, Below w8.heap.size w8 W → Calls Try.prog 20 #[.agg #[.int .i64 l.swap, .int .i64 l.drop, .int .i64 l.add, .int .i64 l.put, .slice la l.alike.length lc]] W fun e w' => e = .returned (.bool vl) ∧ Below w8.heap.size w8 w' from fun W h => (Valid_any l la lc W (HLA.out.on (B4.out.trans ((BZ.out.trans (h.mono BZ.out.size)).mono B4.out.size))) HL1.out.2 HL1.out.1).mono fun e w' h2 => ⟨by rw [h2.1, hvl], h.trans (h2.2.mono h.size)⟩)
      have C5 := Lib.hid (show ∀ W, Below w8.heap.size w8 W → Calls Try.prog 21 #[.agg #[.int .i64 l.swap, .int .i64 l.drop, .int .i64 l.add, .int .i64 l.put, .slice la l.alike.length lc]] W fun e w' => e = .returned (.bool vl) ∧ Below w8.heap.size w8 w' from fun W h => (RValid_any l la lc W (HLA.out.on (B4.out.trans ((BZ.out.trans (h.mono BZ.out.size)).mono B4.out.size))) HL1.out.2).mono fun e w' h2 => ⟨by rw [h2.1, hvl], h.trans (h2.2.mono h.size)⟩)
      clear hvz hvl hz
      refine wp_normal ?_
      refine wp_region_class (C := fun W => Below w8.heap.size w8 W) (by kernel_rfl) (by kernel_rfl) (Below.refl _ _).drew ?_
      repeat (first | go_big_quiet_skip | (go_big_quiet_want; first | (go_big_quiet_op; go_big_quiet_on) | (refine quiet_value ?_ (fun W h => ?_) ?_; rotate_left; (· obtain ⟨⟨f0, f1, f2, f3, f4⟩, ⟨f5, f6, f7, f8, f9⟩, f10, f11, f12, f13, f14⟩ := FW.out W h; go_simp; rfl); go_simp; go_big_quiet_on) | (refine quiet_call _ _ _ (fun W => ?_) C1.out ?_; (· go_simp; done); go_simp; go_big_quiet_on) | (refine quiet_call _ _ _ (fun W => ?_) C2.out ?_; (· go_simp; done); go_simp; go_big_quiet_on) | (refine quiet_call _ _ _ (fun W => ?_) C3.out ?_; (· go_simp; done); go_simp; go_big_quiet_on) | (refine quiet_call _ _ _ (fun W => ?_) C4.out ?_; (· go_simp; done); go_simp; go_big_quiet_on) | (refine quiet_call _ _ _ (fun W => ?_) C5.out ?_; (· go_simp; done); go_simp; go_big_quiet_on)))
      refine wpQuiet_nil ?_
      intro W hb
      refine ⟨rfl, ?_⟩
      have B11 := Lib.hid (B4.out.trans ((BZ.out.trans (hb.mono BZ.out.size)).mono B4.out.size))
      clear FW C1 C2 C3 C4 C5 hb
      cases vz <;> cases vl <;> (go_wp2_with fail; go_ret; exact ⟨rfl, B11.out⟩)
    · have one := Lib.hid (show AlsOwn (w6.alloc (.cells #[.int .u8 120, .int .u8 121, .int .i64 y1] 46)) w6.heap.size (.slice (some ⟨w6.heap.size, 0, none⟩) 1 1) [(⟨120, 121, y1⟩ : Al)] by exact AlsOwn.one w6 (⟨120, 121, y1⟩ : Al))
      have b7 := (Below.refl w6.heap.size w6).alloc (Nat.le_refl _) (.cells #[.int .u8 120, .int .u8 121, .int .i64 y1] 46)
      have O7 := Lib.hid (OW.out.below b7)
      have T7 := Lib.hid (TB.out.below b7)
      have B7 := Lib.hid (B6.out.trans (b7.mono B6.out.size))
      have hz7 : w4.heap.size ≤ (w6.alloc (.cells #[.int .u8 120, .int .u8 121, .int .i64 y1] 46)).heap.size := B7.out.size
      have HL5 := HT.out.len
      go_upto_region 20 with (first | (at_builtin; refine wpList_append_als rfl _ _ rfl w4.heap.size _ t.alike rfl O7.out w6.heap.size _ [(⟨120, 121, y1⟩ : Al)] rfl one.out (by first | omega | (simp; omega)) hz7 ?_; intro v8 w7 own8 grow8; have T8 := Lib.hid (T7.out.grown grow8 (fun e => Nat.lt_irrefl _ (LT5.out _ e))); have u4 := T8.out.cell 4; have u4f := T8.out.free 4; simp only [List.getElem?_cons_succ, List.getElem?_cons_zero] at u4; obtain ⟨za, zc, rfl⟩ := own8.shape; have BG := Lib.hid (B7.out.grown grow8 hz7 (fun k hk => BK5.out k hk)); have OG := Lib.hid own8; clear own8 grow8) | fail)
      obtain ⟨z, hz⟩ : ∃ z : Sl, z = ⟨t.swap, t.drop, t.add, t.put, t.alike ++ [(⟨120, 121, y1⟩ : Al)]⟩ := ⟨_, rfl⟩
      have TZ := Lib.hid (show Blk (w7.setCell ⟨w5.heap.size, 4, none⟩ (.slice za (t.alike ++ [(⟨120, 121, y1⟩ : Al)]).length zc)) w5.heap.size 32 [.int .i64 z.swap, .int .i64 z.drop, .int .i64 z.add, .int .i64 z.put, .slice za z.alike.length zc] by rw [hz]; exact T8.out.put 4 _)
      have BZ := Lib.hid (BG.out.setCell (p := ⟨w5.heap.size, 4, none⟩) GE.out (.slice za (t.alike ++ [(⟨120, 121, y1⟩ : Al)]).length zc))
      have OZ := OG.out.setSlips (o := 4) (u := .slice za (t.alike ++ [(⟨120, 121, y1⟩ : Al)]).length zc) T8.out
      have ATZ := Lib.hid (show AlsAt (w7.setCell ⟨w5.heap.size, 4, none⟩ (.slice za (t.alike ++ [(⟨120, 121, y1⟩ : Al)]).length zc)) (w7.setCell ⟨w5.heap.size, 4, none⟩ (.slice za (t.alike ++ [(⟨120, 121, y1⟩ : Al)]).length zc)).heap.size (.slice za z.alike.length zc) z.alike by rw [hz]; exact OZ.at)
      have LZ := Lib.hid (show z.alike.length ≤ maxLen ∧ z.alike.length ≤ zc by rw [hz]; exact ⟨Nat.le_trans (show (t.alike ++ [(⟨120, 121, y1⟩ : Al)]).length ≤ 10 by rw [List.length_append]; first | omega | (simp; omega)) (by decide), OZ.cap⟩)
      clear OZ OG T8 BG T7 B7 u4 u4f
      first | rw [← List.length_append] | (try simp only [List.length_append, List.length_cons, List.length_nil, Nat.zero_add] at TZ BZ ATZ)
      generalize hgw : w7.setCell _ _ = w8 at *
      clear hgw
      clear t0 t1 t2 t3 t4 f0 f1 f2 f3 f4 m0 m1 m2
      have FW := Lib.hid (show ∀ W, Below w8.heap.size w8 W → (W.cell? ⟨sb, 0, none⟩ = some (.int .i64 s.swap) ∧ W.cell? ⟨sb, 1, none⟩ = some (.int .i64 s.drop) ∧ W.cell? ⟨sb, 2, none⟩ = some (.int .i64 s.add) ∧ W.cell? ⟨sb, 3, none⟩ = some (.int .i64 s.put) ∧ W.cell? ⟨sb, 4, none⟩ = some (.slice sa s.alike.length sc)) ∧ (W.cell? ⟨w5.heap.size, 0, none⟩ = some (.int .i64 z.swap) ∧ W.cell? ⟨w5.heap.size, 1, none⟩ = some (.int .i64 z.drop) ∧ W.cell? ⟨w5.heap.size, 2, none⟩ = some (.int .i64 z.add) ∧ W.cell? ⟨w5.heap.size, 3, none⟩ = some (.int .i64 z.put) ∧ W.cell? ⟨w5.heap.size, 4, none⟩ = some (.slice za z.alike.length zc)) ∧ W.cell? ⟨w.heap.size + 1, 0, none⟩ = some (.int .i64 l.swap) ∧ W.cell? ⟨w.heap.size + 1, 1, none⟩ = some (.int .i64 l.drop) ∧ W.cell? ⟨w.heap.size + 1, 2, none⟩ = some (.int .i64 l.add) ∧ W.cell? ⟨w.heap.size + 1, 3, none⟩ = some (.int .i64 l.put) ∧ W.cell? ⟨w.heap.size + 1, 4, none⟩ = some (.slice la l.alike.length lc) from fun W h => ⟨(SB.out.below (BZ.out.trans (h.mono BZ.out.size))).cells, slCells (TZ.out.below h), slCells (K1.out.below (BZ.out.trans (h.mono BZ.out.size)))⟩)
      have C1 := Lib.hid (show ∀ W, Below w8.heap.size w8 W → Calls Try.prog 20 #[.agg #[.int .i64 s.swap, .int .i64 s.drop, .int .i64 s.add, .int .i64 s.put, .slice sa s.alike.length sc]] W fun e w' => e = .returned (.bool true) ∧ Below w8.heap.size w8 w' from fun W h => (Valid_any s sa sc W (AL.out.on (BZ.out.trans (h.mono BZ.out.size))) (Nat.le_trans HS.out.len (by decide)) SCAP.out).mono fun e w' h2 => ⟨by rw [h2.1, HS.out.valid], h.trans (h2.2.mono h.size)⟩)
      obtain ⟨vz, hvz⟩ : ∃ b, b = validS z := ⟨_, rfl⟩
      obtain ⟨vl, hvl⟩ : ∃ b, b = validS l := ⟨_, rfl⟩
      have C2 := Lib.hid (show ∀ W, Below w8.heap.size w8 W → Calls Try.prog 20 #[.agg #[.int .i64 z.swap, .int .i64 z.drop, .int .i64 z.add, .int .i64 z.put, .slice za z.alike.length zc]] W fun e w' => e = .returned (.bool vz) ∧ Below w8.heap.size w8 w' from fun W h => (Valid_any z za zc W (ATZ.out.on h) LZ.out.1 LZ.out.2).mono fun e w' h2 => ⟨by rw [h2.1, hvz], h.trans (h2.2.mono h.size)⟩)
      have C3 := Lib.hid (show ∀ W, Below w8.heap.size w8 W → Calls Try.prog 21 #[.agg #[.int .i64 z.swap, .int .i64 z.drop, .int .i64 z.add, .int .i64 z.put, .slice za z.alike.length zc]] W fun e w' => e = .returned (.bool vz) ∧ Below w8.heap.size w8 w' from fun W h => (RValid_any z za zc W (ATZ.out.on h) LZ.out.1).mono fun e w' h2 => ⟨by rw [h2.1, hvz], h.trans (h2.2.mono h.size)⟩)
      have C4 := Lib.hid (show ∀ W, Below w8.heap.size w8 W → Calls Try.prog 20 #[.agg #[.int .i64 l.swap, .int .i64 l.drop, .int .i64 l.add, .int .i64 l.put, .slice la l.alike.length lc]] W fun e w' => e = .returned (.bool vl) ∧ Below w8.heap.size w8 w' from fun W h => (Valid_any l la lc W (HLA.out.on (B4.out.trans ((BZ.out.trans (h.mono BZ.out.size)).mono B4.out.size))) HL1.out.2 HL1.out.1).mono fun e w' h2 => ⟨by rw [h2.1, hvl], h.trans (h2.2.mono h.size)⟩)
      have C5 := Lib.hid (show ∀ W, Below w8.heap.size w8 W → Calls Try.prog 21 #[.agg #[.int .i64 l.swap, .int .i64 l.drop, .int .i64 l.add, .int .i64 l.put, .slice la l.alike.length lc]] W fun e w' => e = .returned (.bool vl) ∧ Below w8.heap.size w8 w' from fun W h => (RValid_any l la lc W (HLA.out.on (B4.out.trans ((BZ.out.trans (h.mono BZ.out.size)).mono B4.out.size))) HL1.out.2).mono fun e w' h2 => ⟨by rw [h2.1, hvl], h.trans (h2.2.mono h.size)⟩)
      clear hvz hvl hz
      refine wp_normal ?_
      refine wp_region_class (C := fun W => Below w8.heap.size w8 W) (by kernel_rfl) (by kernel_rfl) (Below.refl _ _).drew ?_
      repeat (first | go_big_quiet_skip | (go_big_quiet_want; first | (go_big_quiet_op; go_big_quiet_on) | (refine quiet_value ?_ (fun W h => ?_) ?_; rotate_left; (· obtain ⟨⟨f0, f1, f2, f3, f4⟩, ⟨f5, f6, f7, f8, f9⟩, f10, f11, f12, f13, f14⟩ := FW.out W h; go_simp; rfl); go_simp; go_big_quiet_on) | (refine quiet_call _ _ _ (fun W => ?_) C1.out ?_; (· go_simp; done); go_simp; go_big_quiet_on) | (refine quiet_call _ _ _ (fun W => ?_) C2.out ?_; (· go_simp; done); go_simp; go_big_quiet_on) | (refine quiet_call _ _ _ (fun W => ?_) C3.out ?_; (· go_simp; done); go_simp; go_big_quiet_on) | (refine quiet_call _ _ _ (fun W => ?_) C4.out ?_; (· go_simp; done); go_simp; go_big_quiet_on) | (refine quiet_call _ _ _ (fun W => ?_) C5.out ?_; (· go_simp; done); go_simp; go_big_quiet_on)))
      refine wpQuiet_nil ?_
      intro W hb
      refine ⟨rfl, ?_⟩
      have B11 := Lib.hid (B4.out.trans ((BZ.out.trans (hb.mono BZ.out.size)).mono B4.out.size))
      clear FW C1 C2 C3 C4 C5 hb
      cases vz <;> cases vl <;> (go_wp2_with fail; go_ret; exact ⟨rfl, B11.out⟩)
    · have O7 := Lib.hid OW.out
      have T7 := Lib.hid TB.out
      have B7 := Lib.hid B6.out
      have hz7 : w4.heap.size ≤ w6.heap.size := B7.out.size
      have HL5 := HT.out.len
      go_upto_region 20 with (first | (at_builtin; refine wpList_append_als rfl _ _ rfl w4.heap.size _ t.alike rfl O7.out w4.heap.size _ t.alike rfl O7.out (by first | omega | (simp; omega)) hz7 ?_; intro v8 w7 own8 grow8; have T8 := Lib.hid (T7.out.grown grow8 (fun e => Nat.lt_irrefl _ (LT5.out _ e))); have u4 := T8.out.cell 4; have u4f := T8.out.free 4; simp only [List.getElem?_cons_succ, List.getElem?_cons_zero] at u4; obtain ⟨za, zc, rfl⟩ := own8.shape; have BG := Lib.hid (B7.out.grown grow8 hz7 (fun k hk => BK5.out k hk)); have OG := Lib.hid own8; clear own8 grow8) | fail)
      obtain ⟨z, hz⟩ : ∃ z : Sl, z = ⟨t.swap, t.drop, t.add, t.put, t.alike ++ t.alike⟩ := ⟨_, rfl⟩
      have TZ := Lib.hid (show Blk (w7.setCell ⟨w5.heap.size, 4, none⟩ (.slice za (t.alike ++ t.alike).length zc)) w5.heap.size 32 [.int .i64 z.swap, .int .i64 z.drop, .int .i64 z.add, .int .i64 z.put, .slice za z.alike.length zc] by rw [hz]; exact T8.out.put 4 _)
      have BZ := Lib.hid (BG.out.setCell (p := ⟨w5.heap.size, 4, none⟩) GE.out (.slice za (t.alike ++ t.alike).length zc))
      have OZ := OG.out.setSlips (o := 4) (u := .slice za (t.alike ++ t.alike).length zc) T8.out
      have ATZ := Lib.hid (show AlsAt (w7.setCell ⟨w5.heap.size, 4, none⟩ (.slice za (t.alike ++ t.alike).length zc)) (w7.setCell ⟨w5.heap.size, 4, none⟩ (.slice za (t.alike ++ t.alike).length zc)).heap.size (.slice za z.alike.length zc) z.alike by rw [hz]; exact OZ.at)
      have LZ := Lib.hid (show z.alike.length ≤ maxLen ∧ z.alike.length ≤ zc by rw [hz]; exact ⟨Nat.le_trans (show (t.alike ++ t.alike).length ≤ 10 by rw [List.length_append]; first | omega | (simp; omega)) (by decide), OZ.cap⟩)
      clear OZ OG T8 BG T7 B7 u4 u4f
      first | rw [← List.length_append] | (try simp only [List.length_append, List.length_cons, List.length_nil, Nat.zero_add] at TZ BZ ATZ)
      generalize hgw : w7.setCell _ _ = w8 at *
      clear hgw
      clear t0 t1 t2 t3 t4 f0 f1 f2 f3 f4 m0 m1 m2
      have FW := Lib.hid (show ∀ W, Below w8.heap.size w8 W → (W.cell? ⟨sb, 0, none⟩ = some (.int .i64 s.swap) ∧ W.cell? ⟨sb, 1, none⟩ = some (.int .i64 s.drop) ∧ W.cell? ⟨sb, 2, none⟩ = some (.int .i64 s.add) ∧ W.cell? ⟨sb, 3, none⟩ = some (.int .i64 s.put) ∧ W.cell? ⟨sb, 4, none⟩ = some (.slice sa s.alike.length sc)) ∧ (W.cell? ⟨w5.heap.size, 0, none⟩ = some (.int .i64 z.swap) ∧ W.cell? ⟨w5.heap.size, 1, none⟩ = some (.int .i64 z.drop) ∧ W.cell? ⟨w5.heap.size, 2, none⟩ = some (.int .i64 z.add) ∧ W.cell? ⟨w5.heap.size, 3, none⟩ = some (.int .i64 z.put) ∧ W.cell? ⟨w5.heap.size, 4, none⟩ = some (.slice za z.alike.length zc)) ∧ W.cell? ⟨w.heap.size + 1, 0, none⟩ = some (.int .i64 l.swap) ∧ W.cell? ⟨w.heap.size + 1, 1, none⟩ = some (.int .i64 l.drop) ∧ W.cell? ⟨w.heap.size + 1, 2, none⟩ = some (.int .i64 l.add) ∧ W.cell? ⟨w.heap.size + 1, 3, none⟩ = some (.int .i64 l.put) ∧ W.cell? ⟨w.heap.size + 1, 4, none⟩ = some (.slice la l.alike.length lc) from fun W h => ⟨(SB.out.below (BZ.out.trans (h.mono BZ.out.size))).cells, slCells (TZ.out.below h), slCells (K1.out.below (BZ.out.trans (h.mono BZ.out.size)))⟩)
      have C1 := Lib.hid (show ∀ W, Below w8.heap.size w8 W → Calls Try.prog 20 #[.agg #[.int .i64 s.swap, .int .i64 s.drop, .int .i64 s.add, .int .i64 s.put, .slice sa s.alike.length sc]] W fun e w' => e = .returned (.bool true) ∧ Below w8.heap.size w8 w' from fun W h => (Valid_any s sa sc W (AL.out.on (BZ.out.trans (h.mono BZ.out.size))) (Nat.le_trans HS.out.len (by decide)) SCAP.out).mono fun e w' h2 => ⟨by rw [h2.1, HS.out.valid], h.trans (h2.2.mono h.size)⟩)
      obtain ⟨vz, hvz⟩ : ∃ b, b = validS z := ⟨_, rfl⟩
      obtain ⟨vl, hvl⟩ : ∃ b, b = validS l := ⟨_, rfl⟩
      have C2 := Lib.hid (show ∀ W, Below w8.heap.size w8 W → Calls Try.prog 20 #[.agg #[.int .i64 z.swap, .int .i64 z.drop, .int .i64 z.add, .int .i64 z.put, .slice za z.alike.length zc]] W fun e w' => e = .returned (.bool vz) ∧ Below w8.heap.size w8 w' from fun W h => (Valid_any z za zc W (ATZ.out.on h) LZ.out.1 LZ.out.2).mono fun e w' h2 => ⟨by rw [h2.1, hvz], h.trans (h2.2.mono h.size)⟩)
      have C3 := Lib.hid (show ∀ W, Below w8.heap.size w8 W → Calls Try.prog 21 #[.agg #[.int .i64 z.swap, .int .i64 z.drop, .int .i64 z.add, .int .i64 z.put, .slice za z.alike.length zc]] W fun e w' => e = .returned (.bool vz) ∧ Below w8.heap.size w8 w' from fun W h => (RValid_any z za zc W (ATZ.out.on h) LZ.out.1).mono fun e w' h2 => ⟨by rw [h2.1, hvz], h.trans (h2.2.mono h.size)⟩)
      have C4 := Lib.hid (show ∀ W, Below w8.heap.size w8 W → Calls Try.prog 20 #[.agg #[.int .i64 l.swap, .int .i64 l.drop, .int .i64 l.add, .int .i64 l.put, .slice la l.alike.length lc]] W fun e w' => e = .returned (.bool vl) ∧ Below w8.heap.size w8 w' from fun W h => (Valid_any l la lc W (HLA.out.on (B4.out.trans ((BZ.out.trans (h.mono BZ.out.size)).mono B4.out.size))) HL1.out.2 HL1.out.1).mono fun e w' h2 => ⟨by rw [h2.1, hvl], h.trans (h2.2.mono h.size)⟩)
      have C5 := Lib.hid (show ∀ W, Below w8.heap.size w8 W → Calls Try.prog 21 #[.agg #[.int .i64 l.swap, .int .i64 l.drop, .int .i64 l.add, .int .i64 l.put, .slice la l.alike.length lc]] W fun e w' => e = .returned (.bool vl) ∧ Below w8.heap.size w8 w' from fun W h => (RValid_any l la lc W (HLA.out.on (B4.out.trans ((BZ.out.trans (h.mono BZ.out.size)).mono B4.out.size))) HL1.out.2).mono fun e w' h2 => ⟨by rw [h2.1, hvl], h.trans (h2.2.mono h.size)⟩)
      clear hvz hvl hz
      refine wp_normal ?_
      refine wp_region_class (C := fun W => Below w8.heap.size w8 W) (by kernel_rfl) (by kernel_rfl) (Below.refl _ _).drew ?_
      repeat (first | go_big_quiet_skip | (go_big_quiet_want; first | (go_big_quiet_op; go_big_quiet_on) | (refine quiet_value ?_ (fun W h => ?_) ?_; rotate_left; (· obtain ⟨⟨f0, f1, f2, f3, f4⟩, ⟨f5, f6, f7, f8, f9⟩, f10, f11, f12, f13, f14⟩ := FW.out W h; go_simp; rfl); go_simp; go_big_quiet_on) | (refine quiet_call _ _ _ (fun W => ?_) C1.out ?_; (· go_simp; done); go_simp; go_big_quiet_on) | (refine quiet_call _ _ _ (fun W => ?_) C2.out ?_; (· go_simp; done); go_simp; go_big_quiet_on) | (refine quiet_call _ _ _ (fun W => ?_) C3.out ?_; (· go_simp; done); go_simp; go_big_quiet_on) | (refine quiet_call _ _ _ (fun W => ?_) C4.out ?_; (· go_simp; done); go_simp; go_big_quiet_on) | (refine quiet_call _ _ _ (fun W => ?_) C5.out ?_; (· go_simp; done); go_simp; go_big_quiet_on)))
      refine wpQuiet_nil ?_
      intro W hb
      refine ⟨rfl, ?_⟩
      have B11 := Lib.hid (B4.out.trans ((BZ.out.trans (hb.mono BZ.out.size)).mono B4.out.size))
      clear FW C1 C2 C3 C4 C5 hb
      cases vz <;> cases vl <;> (go_wp2_with fail; go_ret; exact ⟨rfl, B11.out⟩)
    · have O7 := Lib.hid OW.out
      have T7 := Lib.hid TB.out
      have B7 := Lib.hid B6.out
      have hz7 : w4.heap.size ≤ w6.heap.size := B7.out.size
      have HL5 := HT.out.len
      go_upto_region 20 with (first | (at_builtin; refine wpList_append_als rfl _ _ rfl w4.heap.size _ t.alike rfl O7.out w4.heap.size _ t.alike rfl O7.out (by first | omega | (simp; omega)) hz7 ?_; intro v8 w7 own8 grow8; have T8 := Lib.hid (T7.out.grown grow8 (fun e => Nat.lt_irrefl _ (LT5.out _ e))); have u4 := T8.out.cell 4; have u4f := T8.out.free 4; simp only [List.getElem?_cons_succ, List.getElem?_cons_zero] at u4; obtain ⟨za, zc, rfl⟩ := own8.shape; have BG := Lib.hid (B7.out.grown grow8 hz7 (fun k hk => BK5.out k hk)); have OG := Lib.hid own8; clear own8 grow8) | fail)
      obtain ⟨z, hz⟩ : ∃ z : Sl, z = ⟨t.swap, t.drop, t.add, t.put, t.alike ++ t.alike⟩ := ⟨_, rfl⟩
      have TZ := Lib.hid (show Blk (w7.setCell ⟨w5.heap.size, 4, none⟩ (.slice za (t.alike ++ t.alike).length zc)) w5.heap.size 32 [.int .i64 z.swap, .int .i64 z.drop, .int .i64 z.add, .int .i64 z.put, .slice za z.alike.length zc] by rw [hz]; exact T8.out.put 4 _)
      have BZ := Lib.hid (BG.out.setCell (p := ⟨w5.heap.size, 4, none⟩) GE.out (.slice za (t.alike ++ t.alike).length zc))
      have OZ := OG.out.setSlips (o := 4) (u := .slice za (t.alike ++ t.alike).length zc) T8.out
      have ATZ := Lib.hid (show AlsAt (w7.setCell ⟨w5.heap.size, 4, none⟩ (.slice za (t.alike ++ t.alike).length zc)) (w7.setCell ⟨w5.heap.size, 4, none⟩ (.slice za (t.alike ++ t.alike).length zc)).heap.size (.slice za z.alike.length zc) z.alike by rw [hz]; exact OZ.at)
      have LZ := Lib.hid (show z.alike.length ≤ maxLen ∧ z.alike.length ≤ zc by rw [hz]; exact ⟨Nat.le_trans (show (t.alike ++ t.alike).length ≤ 10 by rw [List.length_append]; first | omega | (simp; omega)) (by decide), OZ.cap⟩)
      clear OZ OG T8 BG T7 B7 u4 u4f
      first | rw [← List.length_append] | (try simp only [List.length_append, List.length_cons, List.length_nil, Nat.zero_add] at TZ BZ ATZ)
      generalize hgw : w7.setCell _ _ = w8 at *
      clear hgw
      clear t0 t1 t2 t3 t4 f0 f1 f2 f3 f4 m0 m1 m2
      have FW := Lib.hid (show ∀ W, Below w8.heap.size w8 W → (W.cell? ⟨sb, 0, none⟩ = some (.int .i64 s.swap) ∧ W.cell? ⟨sb, 1, none⟩ = some (.int .i64 s.drop) ∧ W.cell? ⟨sb, 2, none⟩ = some (.int .i64 s.add) ∧ W.cell? ⟨sb, 3, none⟩ = some (.int .i64 s.put) ∧ W.cell? ⟨sb, 4, none⟩ = some (.slice sa s.alike.length sc)) ∧ (W.cell? ⟨w5.heap.size, 0, none⟩ = some (.int .i64 z.swap) ∧ W.cell? ⟨w5.heap.size, 1, none⟩ = some (.int .i64 z.drop) ∧ W.cell? ⟨w5.heap.size, 2, none⟩ = some (.int .i64 z.add) ∧ W.cell? ⟨w5.heap.size, 3, none⟩ = some (.int .i64 z.put) ∧ W.cell? ⟨w5.heap.size, 4, none⟩ = some (.slice za z.alike.length zc)) ∧ W.cell? ⟨w.heap.size + 1, 0, none⟩ = some (.int .i64 l.swap) ∧ W.cell? ⟨w.heap.size + 1, 1, none⟩ = some (.int .i64 l.drop) ∧ W.cell? ⟨w.heap.size + 1, 2, none⟩ = some (.int .i64 l.add) ∧ W.cell? ⟨w.heap.size + 1, 3, none⟩ = some (.int .i64 l.put) ∧ W.cell? ⟨w.heap.size + 1, 4, none⟩ = some (.slice la l.alike.length lc) from fun W h => ⟨(SB.out.below (BZ.out.trans (h.mono BZ.out.size))).cells, slCells (TZ.out.below h), slCells (K1.out.below (BZ.out.trans (h.mono BZ.out.size)))⟩)
      have C1 := Lib.hid (show ∀ W, Below w8.heap.size w8 W → Calls Try.prog 20 #[.agg #[.int .i64 s.swap, .int .i64 s.drop, .int .i64 s.add, .int .i64 s.put, .slice sa s.alike.length sc]] W fun e w' => e = .returned (.bool true) ∧ Below w8.heap.size w8 w' from fun W h => (Valid_any s sa sc W (AL.out.on (BZ.out.trans (h.mono BZ.out.size))) (Nat.le_trans HS.out.len (by decide)) SCAP.out).mono fun e w' h2 => ⟨by rw [h2.1, HS.out.valid], h.trans (h2.2.mono h.size)⟩)
      obtain ⟨vz, hvz⟩ : ∃ b, b = validS z := ⟨_, rfl⟩
      obtain ⟨vl, hvl⟩ : ∃ b, b = validS l := ⟨_, rfl⟩
      have C2 := Lib.hid (show ∀ W, Below w8.heap.size w8 W → Calls Try.prog 20 #[.agg #[.int .i64 z.swap, .int .i64 z.drop, .int .i64 z.add, .int .i64 z.put, .slice za z.alike.length zc]] W fun e w' => e = .returned (.bool vz) ∧ Below w8.heap.size w8 w' from fun W h => (Valid_any z za zc W (ATZ.out.on h) LZ.out.1 LZ.out.2).mono fun e w' h2 => ⟨by rw [h2.1, hvz], h.trans (h2.2.mono h.size)⟩)
      have C3 := Lib.hid (show ∀ W, Below w8.heap.size w8 W → Calls Try.prog 21 #[.agg #[.int .i64 z.swap, .int .i64 z.drop, .int .i64 z.add, .int .i64 z.put, .slice za z.alike.length zc]] W fun e w' => e = .returned (.bool vz) ∧ Below w8.heap.size w8 w' from fun W h => (RValid_any z za zc W (ATZ.out.on h) LZ.out.1).mono fun e w' h2 => ⟨by rw [h2.1, hvz], h.trans (h2.2.mono h.size)⟩)
      have C4 := Lib.hid (show ∀ W, Below w8.heap.size w8 W → Calls Try.prog 20 #[.agg #[.int .i64 l.swap, .int .i64 l.drop, .int .i64 l.add, .int .i64 l.put, .slice la l.alike.length lc]] W fun e w' => e = .returned (.bool vl) ∧ Below w8.heap.size w8 w' from fun W h => (Valid_any l la lc W (HLA.out.on (B4.out.trans ((BZ.out.trans (h.mono BZ.out.size)).mono B4.out.size))) HL1.out.2 HL1.out.1).mono fun e w' h2 => ⟨by rw [h2.1, hvl], h.trans (h2.2.mono h.size)⟩)
      have C5 := Lib.hid (show ∀ W, Below w8.heap.size w8 W → Calls Try.prog 21 #[.agg #[.int .i64 l.swap, .int .i64 l.drop, .int .i64 l.add, .int .i64 l.put, .slice la l.alike.length lc]] W fun e w' => e = .returned (.bool vl) ∧ Below w8.heap.size w8 w' from fun W h => (RValid_any l la lc W (HLA.out.on (B4.out.trans ((BZ.out.trans (h.mono BZ.out.size)).mono B4.out.size))) HL1.out.2).mono fun e w' h2 => ⟨by rw [h2.1, hvl], h.trans (h2.2.mono h.size)⟩)
      clear hvz hvl hz
      refine wp_normal ?_
      refine wp_region_class (C := fun W => Below w8.heap.size w8 W) (by kernel_rfl) (by kernel_rfl) (Below.refl _ _).drew ?_
      repeat (first | go_big_quiet_skip | (go_big_quiet_want; first | (go_big_quiet_op; go_big_quiet_on) | (refine quiet_value ?_ (fun W h => ?_) ?_; rotate_left; (· obtain ⟨⟨f0, f1, f2, f3, f4⟩, ⟨f5, f6, f7, f8, f9⟩, f10, f11, f12, f13, f14⟩ := FW.out W h; go_simp; rfl); go_simp; go_big_quiet_on) | (refine quiet_call _ _ _ (fun W => ?_) C1.out ?_; (· go_simp; done); go_simp; go_big_quiet_on) | (refine quiet_call _ _ _ (fun W => ?_) C2.out ?_; (· go_simp; done); go_simp; go_big_quiet_on) | (refine quiet_call _ _ _ (fun W => ?_) C3.out ?_; (· go_simp; done); go_simp; go_big_quiet_on) | (refine quiet_call _ _ _ (fun W => ?_) C4.out ?_; (· go_simp; done); go_simp; go_big_quiet_on) | (refine quiet_call _ _ _ (fun W => ?_) C5.out ?_; (· go_simp; done); go_simp; go_big_quiet_on)))
      refine wpQuiet_nil ?_
      intro W hb
      refine ⟨rfl, ?_⟩
      have B11 := Lib.hid (B4.out.trans ((BZ.out.trans (hb.mono BZ.out.size)).mono B4.out.size))
      clear FW C1 C2 C3 C4 C5 hb
      cases vz <;> cases vl <;> (go_wp2_with fail; go_ret; exact ⟨rfl, B11.out⟩)
end Go.Proofs.Ytadaijepalhohaa
