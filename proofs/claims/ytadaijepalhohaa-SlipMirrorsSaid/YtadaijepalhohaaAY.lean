/-
  SlipMirrors' walk.
-/
import Derived.Test.YtadaijepalhohaaAX
namespace Go.Proofs.Ytadaijepalhohaa
open Go.RowKit
open Pl

theorem Bd.turn {s : Sl} (h : Bd s) : Bd { s with drop := s.add, add := s.drop } := ⟨⟨h.pos.swap, h.pos.add, h.pos.drop, h.pos.put, h.pos.alike⟩, h.swap, h.add, h.drop, h.put⟩
set_option maxHeartbeats 4000000 in
set_option maxRecDepth 100000 in
theorem SlipMirrors_any (c0 c1 c2 c3 : Nat) (ra : Option Addr) (rn rc : Nat) (a1 : Option Addr) (n1 k1 : Nat) (a2 : Option Addr) (n2 k2 : Nat) (w : World) (hx : c0 < 256 ∧ c1 < 256 ∧ c2 < 256 ∧ c3 < 256 ∧ rn ≤ maxLen ∧ TrisAt w w.heap.size (.slice ra rn rc) rn) (h1 : n1 ≤ maxLen ∧ U8At w w.heap.size (.slice a1 n1 k1) n1) (h2 : n2 ≤ maxLen ∧ U8At w w.heap.size (.slice a2 n2 k2) n2) :
    Calls Try.prog 8 #[.agg #[.int .u8 (c0 : Nat), .int .u8 (c1 : Nat), .int .u8 (c2 : Nat), .int .u8 (c3 : Nat), .slice ra rn rc], .agg #[.slice a1 n1 k1, .slice a2 n2 k2]] w fun e w' => e = .returned (.bool true) ∧ Below w.heap.size w w' := by
  obtain ⟨hx0, hx1, hx2, hx3, hxn, hxt⟩ := hx
  have HX := Lib.hid hxt
  clear hxt
  obtain ⟨hn1, hu1⟩ := h1
  obtain ⟨hn2, hu2⟩ := h2
  have U1 := Lib.hid hu1
  have U2 := Lib.hid hu2
  clear hu1 hu2
  have B1 := Lib.hid (((Below.refl w.heap.size w).alloc (Nat.le_refl _) (.cells #[.int .u8 (c0 : Nat), .int .u8 (c1 : Nat), .int .u8 (c2 : Nat), .int .u8 (c3 : Nat), .slice ra rn rc] 25)).alloc (by simp) (.cells #[.slice a1 n1 k1, .slice a2 n2 k2] 27))
  have K0 := (Blk.new w 25 [.int .u8 (c0 : Nat), .int .u8 (c1 : Nat), .int .u8 (c2 : Nat), .int .u8 (c3 : Nat), .slice ra rn rc]).alloc (.cells #[.slice a1 n1 k1, .slice a2 n2 k2] 27)
  have K0 := Lib.hid K0
  have K1 := Blk.new (w.alloc (.cells #[.int .u8 (c0 : Nat), .int .u8 (c1 : Nat), .int .u8 (c2 : Nat), .int .u8 (c3 : Nat), .slice ra rn rc] 25)) 27 [.slice a1 n1 k1, .slice a2 n2 k2]
  rw [World.size_alloc] at K1
  have K1 := Lib.hid K1
  go_enter Try.func8, Try.ntmps8
  go_upto_region 1 with fail
  generalize hgw : (w.alloc _).alloc _ = w1 at *
  clear hgw
  have CS := San_any w1
  go_wp2_with fail
  refine CS.mono ?_
  rintro e w2 ⟨rfl, hb⟩
  clear CS
  have K0 := Lib.hid (K0.out.below hb)
  have K1 := Lib.hid (K1.out.below hb)
  have B2 := Lib.hid (B1.out.trans (hb.mono B1.out.size))
  clear hb B1
  have q0 := K0.out.cell 0
  have q1 := K0.out.cell 1
  have q2 := K0.out.cell 2
  have q3 := K0.out.cell 3
  have q4 := K0.out.cell 4
  simp only [List.getElem?_cons_succ, List.getElem?_cons_zero] at q0 q1 q2 q3 q4
  have CM := Made_any c0 c1 c2 c3 ra rn rc w2 hx0 hx1 hx2 hx3 (HX.out.on B2.out) hxn
  clear hx0 hx1 hx2 hx3
  go_wp2_with fail
  refine CM.mono ?_
  rintro e w3 ⟨⟨s, sa, sc, rfl, hs, hso⟩, hb⟩
  have B3 := Lib.hid (B2.out.trans (hb.mono B2.out.size))
  have K1 := Lib.hid (K1.out.below hb)
  have HS := Lib.hid hs
  have b4 := (Below.refl w3.heap.size w3).alloc (Nat.le_refl _) (.cells #[.int .i64 s.swap, .int .i64 s.drop, .int .i64 s.add, .int .i64 s.put, .slice sa s.alike.length sc] 32)
  have AL := Lib.hid (hso.at.on b4)
  have SB := Lib.hid (SlBlock.new w3 s (.slice sa s.alike.length sc))
  have K1 := Lib.hid (K1.out.below b4)
  have B4 := Lib.hid (B3.out.trans (b4.mono B3.out.size))
  clear CM hb hs hso b4 q0 q1 q2 q3 q4 K0 B2 B3
  go_upto_region 3 with fail
  generalize hgw : w3.alloc _ = w4 at *
  generalize hgb : w3.heap.size = sb at *
  clear hgw hgb
  have PK := fun (W : World) (h : Below w4.heap.size w4 W) => (show AlsAt W W.heap.size (.slice sa s.alike.length sc) s.alike from AL.out.on h)
  have PC := fun (W : World) (h : Below w4.heap.size w4 W) => (SB.out.below h).cells
  have q0 := K1.out.cell 0
  simp only [List.getElem?_cons_zero] at q0
  have CT := Text_any a1 n1 k1 12 w4 (U1.out.on B4.out) hn1 (by decide)
  go_wp2_with fail
  refine CT.mono ?_
  rintro e w5 ⟨⟨ta, rfl, hta⟩, hb⟩
  have B5 := Lib.hid hb
  clear CT hb q0
  have q1 := (K1.out.below B5.out).cell 1
  simp only [List.getElem?_cons_succ, List.getElem?_cons_zero] at q1
  have CT := Text_any a2 n2 k2 12 w5 (U2.out.on (B4.out.trans (B5.out.mono B4.out.size))) hn2 (by decide)
  go_wp2_with fail
  refine CT.mono ?_
  rintro e w6 ⟨⟨tb, rfl, htb⟩, hb⟩
  have B6 := Lib.hid (B5.out.trans (hb.mono B5.out.size))
  clear CT hb q1 B5 U1 U2 K1 SB AL
  have LS : s.alike.length ≤ 1000000 := Nat.le_trans HS.out.len (by decide)
  obtain ⟨q0, q1, q2, q3, q4⟩ := PC w6 B6.out
  go_upto_region 6 with fail
  have T7 := Lib.hid (Blk.new w6 32 [.int .i64 s.swap, .int .i64 s.drop, .int .i64 s.add, .int .i64 s.put, .slice sa s.alike.length sc])
  have B7 := Lib.hid (B6.out.alloc B6.out.size (.cells #[.int .i64 s.swap, .int .i64 s.drop, .int .i64 s.add, .int .i64 s.put, .slice sa s.alike.length sc] 32))
  have G7 := Lib.hid B6.out.size
  clear q0 q1 q2 q3 q4 B6
  generalize hgw : w6.alloc _ = w7 at *
  generalize hgb : w6.heap.size = tg at *
  clear hgw hgb
  obtain ⟨-, -, q2, -, -⟩ := PC w7 B7.out
  have z1 := T7.out.free 1
  have y1 := T7.out.cell 1
  simp only [List.getElem?_cons_succ, List.getElem?_cons_zero] at y1
  go_upto_region 7 with fail
  have T8 := Lib.hid (T7.out.put 1 (.int .i64 s.add))
  have B8 := Lib.hid (B7.out.setCell (p := ⟨tg, 1, none⟩) G7.out (.int .i64 s.add))
  clear q2 z1 y1 T7 B7
  generalize hgw : w7.setCell _ _ = w8 at *
  clear hgw
  obtain ⟨-, q1, -, -, -⟩ := PC w8 B8.out
  have z1 := T8.out.free 2
  have y1 := T8.out.cell 2
  simp only [List.set_cons_succ, List.set_cons_zero, List.getElem?_cons_succ, List.getElem?_cons_zero] at y1
  go_upto_region 8 with fail
  have T9 := Lib.hid (T8.out.put 2 (.int .i64 s.drop))
  have B9 := Lib.hid (B8.out.setCell (p := ⟨tg, 2, none⟩) G7.out (.int .i64 s.drop))
  clear q1 z1 y1 T8 B8
  generalize hgw : w8.setCell _ _ = w9 at *
  clear hgw
  obtain ⟨q0, q1, q2, q3, q4⟩ := PC w9 B9.out
  have CD := Distance_any s HS.out.bd sa sc ta tb w9 (PK w9 B9.out) LS (by omega) (by omega)
  obtain ⟨d, hd⟩ : ∃ d, d = D s tb ta := ⟨_, rfl⟩
  rw [← hd] at CD
  go_wp2_with fail
  refine CD.mono ?_
  rintro e w10 ⟨rfl, hb⟩
  have B10 := Lib.hid (B9.out.trans (hb.mono B9.out.size))
  have T10 := Lib.hid (T9.out.below hb)
  clear CD hb q0 q1 q2 q3 q4 B9 T9
  have C1 : ∀ W, Below w10.heap.size w10 W → Calls Try.prog 22 #[.string (B ta)] W fun e w' => e = .returned (.string (B ta.reverse)) ∧ Below w10.heap.size w10 w' := fun W h => (Back_any ta W (by omega)).mono fun e w' h2 => ⟨h2.1, h.trans (h2.2.mono h.size)⟩
  have C2 : ∀ W, Below w10.heap.size w10 W → Calls Try.prog 22 #[.string (B tb)] W fun e w' => e = .returned (.string (B tb.reverse)) ∧ Below w10.heap.size w10 w' := fun W h => (Back_any tb W (by omega)).mono fun e w' h2 => ⟨h2.1, h.trans (h2.2.mono h.size)⟩
  have C3 : ∀ W, Below w10.heap.size w10 W → Calls Try.prog 15 #[.agg #[.int .i64 s.swap, .int .i64 s.drop, .int .i64 s.add, .int .i64 s.put, .slice sa s.alike.length sc], .string (B ta.reverse), .string (B tb.reverse)] W fun e w' => e = .returned (.int .i64 d) ∧ Below w10.heap.size w10 w' := fun W h => (Distance_any s HS.out.bd sa sc ta.reverse tb.reverse W (PK W (B10.out.trans (h.mono B10.out.size))) LS (by rw [List.length_reverse]; omega) (by rw [List.length_reverse]; omega)).mono fun e w' h2 => ⟨by rw [h2.1, D_back, hd], h.trans (h2.2.mono h.size)⟩
  have C4 : ∀ W, Below w10.heap.size w10 W → Calls Try.prog 15 #[.agg #[.int .i64 s.swap, .int .i64 s.add, .int .i64 s.drop, .int .i64 s.put, .slice sa s.alike.length sc], .string (B tb), .string (B ta)] W fun e w' => e = .returned (.int .i64 d) ∧ Below w10.heap.size w10 w' := fun W h => (Distance_any { s with drop := s.add, add := s.drop } HS.out.bd.turn sa sc tb ta W (PK W (B10.out.trans (h.mono B10.out.size))) LS (by omega) (by omega)).mono fun e w' h2 => ⟨by rw [h2.1, D_turn, hd], h.trans (h2.2.mono h.size)⟩
  have FW := Lib.hid (show ∀ W, Below w10.heap.size w10 W → (W.cell? ⟨sb, 0, none⟩ = some (.int .i64 s.swap) ∧ W.cell? ⟨sb, 1, none⟩ = some (.int .i64 s.drop) ∧ W.cell? ⟨sb, 2, none⟩ = some (.int .i64 s.add) ∧ W.cell? ⟨sb, 3, none⟩ = some (.int .i64 s.put) ∧ W.cell? ⟨sb, 4, none⟩ = some (.slice sa s.alike.length sc)) ∧ W.cell? ⟨tg, 0, none⟩ = some (.int .i64 s.swap) ∧ W.cell? ⟨tg, 1, none⟩ = some (.int .i64 s.add) ∧ W.cell? ⟨tg, 2, none⟩ = some (.int .i64 s.drop) ∧ W.cell? ⟨tg, 3, none⟩ = some (.int .i64 s.put) ∧ W.cell? ⟨tg, 4, none⟩ = some (.slice sa s.alike.length sc) from fun W h => ⟨PC W (B10.out.trans (h.mono B10.out.size)), slCells (T10.out.below h)⟩)
  have C1 := Lib.hid C1
  have C2 := Lib.hid C2
  have C3 := Lib.hid C3
  have C4 := Lib.hid C4
  clear hd hta htb T10
  go_upto_region 9 with fail
  refine wp_normal ?_
  refine wp_region_class (C := fun W => Below w10.heap.size w10 W) (by kernel_rfl) (by kernel_rfl) (Below.refl _ _).drew ?_
  repeat (first | go_big_quiet_skip | (go_big_quiet_want; first | (go_big_quiet_op; go_big_quiet_on) | (refine quiet_value ?_ (fun W h => ?_) ?_; rotate_left; (· obtain ⟨⟨f0, f1, f2, f3, f4⟩, f5, f6, f7, f8, f9⟩ := FW.out W h; go_simp; rfl); go_simp; go_big_quiet_on) | (refine quiet_call _ _ _ (fun W => ?_) C1.out ?_; (· go_simp; done); go_simp; go_big_quiet_on) | (refine quiet_call _ _ _ (fun W => ?_) C2.out ?_; (· go_simp; done); go_simp; go_big_quiet_on) | (refine quiet_call _ _ _ (fun W => ?_) C3.out ?_; (· go_simp; done); go_simp; go_big_quiet_on) | (refine quiet_call _ _ _ (fun W => ?_) C4.out ?_; (· go_simp; done); go_simp; go_big_quiet_on)))
  refine wpQuiet_nil ?_
  intro W hb
  refine ⟨rfl, ?_⟩
  have B11 := Lib.hid (B4.out.trans ((B10.out.trans (hb.mono B10.out.size)).mono B4.out.size))
  clear FW C1 C2 C3 C4 hb
  go_wp2_with fail
  go_ret
  exact ⟨rfl, B11.out⟩
end Go.Proofs.Ytadaijepalhohaa
