/-
  SlipParts' walk.
-/
import Derived.Test.YtadaijepalhohaaAZ
namespace Go.Proofs.Ytadaijepalhohaa
open Go.RowKit
open Pl

theorem B_append (a b : List UInt8) : B (a ++ b) = B a ++ B b := by
  simp only [B]
  apply ByteArray.ext
  simp
set_option maxHeartbeats 4000000 in
set_option maxRecDepth 100000 in
theorem SlipParts_any (c0 c1 c2 c3 : Nat) (ra : Option Addr) (rn rc : Nat) (a0 : Option Addr) (n0 k0 : Nat) (a1 : Option Addr) (n1 k1 : Nat) (a2 : Option Addr) (n2 k2 : Nat) (a3 : Option Addr) (n3 k3 : Nat) (w : World) (hx : c0 < 256 ∧ c1 < 256 ∧ c2 < 256 ∧ c3 < 256 ∧ rn ≤ maxLen ∧ TrisAt w w.heap.size (.slice ra rn rc) rn) (h0 : n0 ≤ maxLen ∧ U8At w w.heap.size (.slice a0 n0 k0) n0) (h1 : n1 ≤ maxLen ∧ U8At w w.heap.size (.slice a1 n1 k1) n1) (h2 : n2 ≤ maxLen ∧ U8At w w.heap.size (.slice a2 n2 k2) n2) (h3 : n3 ≤ maxLen ∧ U8At w w.heap.size (.slice a3 n3 k3) n3) :
    Calls Try.prog 7 #[.agg #[.int .u8 (c0 : Nat), .int .u8 (c1 : Nat), .int .u8 (c2 : Nat), .int .u8 (c3 : Nat), .slice ra rn rc], .agg #[.slice a0 n0 k0, .slice a1 n1 k1, .slice a2 n2 k2, .slice a3 n3 k3]] w fun e w' => e = .returned (.bool true) ∧ Below w.heap.size w w' := by
  obtain ⟨hx0, hx1, hx2, hx3, hxn, hxt⟩ := hx
  have HX := Lib.hid hxt
  clear hxt
  obtain ⟨hn0, hu0⟩ := h0
  have U0 := Lib.hid hu0
  clear hu0
  obtain ⟨hn1, hu1⟩ := h1
  have U1 := Lib.hid hu1
  clear hu1
  obtain ⟨hn2, hu2⟩ := h2
  have U2 := Lib.hid hu2
  clear hu2
  obtain ⟨hn3, hu3⟩ := h3
  have U3 := Lib.hid hu3
  clear hu3
  have B1 := Lib.hid (((Below.refl w.heap.size w).alloc (Nat.le_refl _) (.cells #[.int .u8 (c0 : Nat), .int .u8 (c1 : Nat), .int .u8 (c2 : Nat), .int .u8 (c3 : Nat), .slice ra rn rc] 25)).alloc (by simp) (.cells #[.slice a0 n0 k0, .slice a1 n1 k1, .slice a2 n2 k2, .slice a3 n3 k3] 52))
  have K0 := (Blk.new w 25 [.int .u8 (c0 : Nat), .int .u8 (c1 : Nat), .int .u8 (c2 : Nat), .int .u8 (c3 : Nat), .slice ra rn rc]).alloc (.cells #[.slice a0 n0 k0, .slice a1 n1 k1, .slice a2 n2 k2, .slice a3 n3 k3] 52)
  have K0 := Lib.hid K0
  have K1 := Blk.new (w.alloc (.cells #[.int .u8 (c0 : Nat), .int .u8 (c1 : Nat), .int .u8 (c2 : Nat), .int .u8 (c3 : Nat), .slice ra rn rc] 25)) 52 [.slice a0 n0 k0, .slice a1 n1 k1, .slice a2 n2 k2, .slice a3 n3 k3]
  rw [World.size_alloc] at K1
  have K1 := Lib.hid K1
  go_enter Try.func7, Try.ntmps7
  go_upto_region 1 with fail
  generalize hgw : (w.alloc _).alloc _ = w1 at *
  clear hgw
  have CS := San_any w1
  go_wp2_with fail
  refine CS.mono ?_
  rintro e w2 ⟨rfl, hb⟩
  clear CS
  have K0 := Lib.hid (K0.out.below hb)
  have K1 := Lib.hid (K1.out.below hb)
  have B2 := Lib.hid (B1.out.trans (hb.mono B1.out.size))
  clear hb B1
  have q0 := K0.out.cell 0
  have q1 := K0.out.cell 1
  have q2 := K0.out.cell 2
  have q3 := K0.out.cell 3
  have q4 := K0.out.cell 4
  simp only [List.getElem?_cons_succ, List.getElem?_cons_zero] at q0 q1 q2 q3 q4
  have CM := Made_any c0 c1 c2 c3 ra rn rc w2 hx0 hx1 hx2 hx3 (HX.out.on B2.out) hxn
  clear hx0 hx1 hx2 hx3
  go_wp2_with fail
  refine CM.mono ?_
  rintro e w3 ⟨⟨s, sa, sc, rfl, hs, hso⟩, hb⟩
  have B3 := Lib.hid (B2.out.trans (hb.mono B2.out.size))
  have K1 := Lib.hid (K1.out.below hb)
  have HS := Lib.hid hs
  have b4 := (Below.refl w3.heap.size w3).alloc (Nat.le_refl _) (.cells #[.int .i64 s.swap, .int .i64 s.drop, .int .i64 s.add, .int .i64 s.put, .slice sa s.alike.length sc] 32)
  have AL := Lib.hid (hso.at.on b4)
  have SB := Lib.hid (SlBlock.new w3 s (.slice sa s.alike.length sc))
  have K1 := Lib.hid (K1.out.below b4)
  have B4 := Lib.hid (B3.out.trans (b4.mono B3.out.size))
  clear CM hb hs hso b4 q0 q1 q2 q3 q4 K0 B2 B3
  go_upto_region 3 with fail
  generalize hgw : w3.alloc _ = w4 at *
  generalize hgb : w3.heap.size = sb at *
  clear hgw hgb
  have PK := fun (W : World) (h : Below w4.heap.size w4 W) => (show AlsAt W W.heap.size (.slice sa s.alike.length sc) s.alike from AL.out.on h)
  have PC := fun (W : World) (h : Below w4.heap.size w4 W) => (SB.out.below h).cells
  have D4 := Lib.hid (Below.refl w4.heap.size w4)
  have q0 := (K1.out.below D4.out).cell 0
  simp only [List.getElem?_cons_zero] at q0
  have CT := Text_any a0 n0 k0 6 w4 (U0.out.on (B4.out.trans (D4.out.mono B4.out.size))) hn0 (by decide)
  go_wp2_with fail
  refine CT.mono ?_
  rintro e w5 ⟨⟨ta, rfl, hta⟩, hb⟩
  have D5 := Lib.hid (D4.out.trans (hb.mono D4.out.size))
  clear CT hb q0 D4
  have q1 := (K1.out.below D5.out).cell 1
  simp only [List.getElem?_cons_succ, List.getElem?_cons_zero] at q1
  have CT := Text_any a1 n1 k1 6 w5 (U1.out.on (B4.out.trans (D5.out.mono B4.out.size))) hn1 (by decide)
  go_wp2_with fail
  refine CT.mono ?_
  rintro e w6 ⟨⟨tb, rfl, htb⟩, hb⟩
  have D6 := Lib.hid (D5.out.trans (hb.mono D5.out.size))
  clear CT hb q1 D5
  have q2 := (K1.out.below D6.out).cell 2
  simp only [List.getElem?_cons_succ, List.getElem?_cons_zero] at q2
  have CT := Text_any a2 n2 k2 6 w6 (U2.out.on (B4.out.trans (D6.out.mono B4.out.size))) hn2 (by decide)
  go_wp2_with fail
  refine CT.mono ?_
  rintro e w7 ⟨⟨tc, rfl, htc⟩, hb⟩
  have D7 := Lib.hid (D6.out.trans (hb.mono D6.out.size))
  clear CT hb q2 D6
  have q3 := (K1.out.below D7.out).cell 3
  simp only [List.getElem?_cons_succ, List.getElem?_cons_zero] at q3
  have CT := Text_any a3 n3 k3 6 w7 (U3.out.on (B4.out.trans (D7.out.mono B4.out.size))) hn3 (by decide)
  go_wp2_with fail
  refine CT.mono ?_
  rintro e w8 ⟨⟨td, rfl, htd⟩, hb⟩
  have D8 := Lib.hid (D7.out.trans (hb.mono D7.out.size))
  clear CT hb q3 D7
  clear U0 U1 U2 U3 K1 SB AL
  have LS : s.alike.length ≤ 1000000 := Nat.le_trans HS.out.len (by decide)
  obtain ⟨q0, q1, q2, q3, q4⟩ := PC w8 D8.out
  have CD := Distance_any s HS.out.bd sa sc ta tb w8 (PK w8 D8.out) LS (by omega) (by omega)
  obtain ⟨d, hd⟩ : ∃ d, d = D s tb ta := ⟨_, rfl⟩
  rw [← hd] at CD
  go_wp2_with fail
  refine CD.mono ?_
  rintro e w9 ⟨rfl, hb⟩
  have D9 := Lib.hid (D8.out.trans (hb.mono D8.out.size))
  clear CD hb q0 q1 q2 q3 q4 D8
  have hp := HS.out.bd.pos
  obtain ⟨d1, hd1⟩ : ∃ d, d = D s (tb ++ td) (ta ++ tc) := ⟨_, rfl⟩
  obtain ⟨d2, hd2⟩ : ∃ d, d = D s td tc := ⟨_, rfl⟩
  obtain ⟨d3, hd3⟩ : ∃ d, d = D s (tc ++ tb) (tc ++ ta) := ⟨_, rfl⟩
  obtain ⟨d4, hd4⟩ : ∃ d, d = D s (tb ++ tc) (ta ++ tc) := ⟨_, rfl⟩
  have C1 : ∀ W, Below w9.heap.size w9 W → Calls Try.prog 15 #[.agg #[.int .i64 s.swap, .int .i64 s.drop, .int .i64 s.add, .int .i64 s.put, .slice sa s.alike.length sc], .string (B ta ++ B tc), .string (B tb ++ B td)] W fun e w' => e = .returned (.int .i64 d1) ∧ Below w9.heap.size w9 w' := fun W h => by
    have h1 := Distance_any s HS.out.bd sa sc (ta ++ tc) (tb ++ td) W (PK W (D9.out.trans (h.mono D9.out.size))) LS (by simp only [List.length_append]; omega) (by simp only [List.length_append]; omega)
    rw [← hd1] at h1
    simp only [B_append] at h1
    exact h1.mono fun e w' h2 => ⟨h2.1, h.trans (h2.2.mono h.size)⟩
  have C2 : ∀ W, Below w9.heap.size w9 W → Calls Try.prog 15 #[.agg #[.int .i64 s.swap, .int .i64 s.drop, .int .i64 s.add, .int .i64 s.put, .slice sa s.alike.length sc], .string (B tc), .string (B td)] W fun e w' => e = .returned (.int .i64 d2) ∧ Below w9.heap.size w9 w' := fun W h => by
    have h1 := Distance_any s HS.out.bd sa sc tc td W (PK W (D9.out.trans (h.mono D9.out.size))) LS (by omega) (by omega)
    rw [← hd2] at h1
    exact h1.mono fun e w' h2 => ⟨h2.1, h.trans (h2.2.mono h.size)⟩
  have C3 : ∀ W, Below w9.heap.size w9 W → Calls Try.prog 15 #[.agg #[.int .i64 s.swap, .int .i64 s.drop, .int .i64 s.add, .int .i64 s.put, .slice sa s.alike.length sc], .string (B tc ++ B ta), .string (B tc ++ B tb)] W fun e w' => e = .returned (.int .i64 d3) ∧ Below w9.heap.size w9 w' := fun W h => by
    have h1 := Distance_any s HS.out.bd sa sc (tc ++ ta) (tc ++ tb) W (PK W (D9.out.trans (h.mono D9.out.size))) LS (by simp only [List.length_append]; omega) (by simp only [List.length_append]; omega)
    rw [← hd3] at h1
    simp only [B_append] at h1
    exact h1.mono fun e w' h2 => ⟨h2.1, h.trans (h2.2.mono h.size)⟩
  have C4 : ∀ W, Below w9.heap.size w9 W → Calls Try.prog 15 #[.agg #[.int .i64 s.swap, .int .i64 s.drop, .int .i64 s.add, .int .i64 s.put, .slice sa s.alike.length sc], .string (B ta ++ B tc), .string (B tb ++ B tc)] W fun e w' => e = .returned (.int .i64 d4) ∧ Below w9.heap.size w9 w' := fun W h => by
    have h1 := Distance_any s HS.out.bd sa sc (ta ++ tc) (tb ++ tc) W (PK W (D9.out.trans (h.mono D9.out.size))) LS (by simp only [List.length_append]; omega) (by simp only [List.length_append]; omega)
    rw [← hd4] at h1
    simp only [B_append] at h1
    exact h1.mono fun e w' h2 => ⟨h2.1, h.trans (h2.2.mono h.size)⟩
  have g1 : d1 ≤ d + d2 := by rw [hd, hd1, hd2]; exact D_parts s tb ta td tc
  have g3 : d3 ≤ d := by
    have h := D_parts s tc tc tb ta
    rw [D_self hp] at h
    rw [hd, hd3]; omega
  have g4 : d4 ≤ d := by
    have h := D_parts s tb ta tc tc
    rw [D_self hp] at h
    rw [hd, hd4]; omega
  have r0 : 0 ≤ d ∧ d ≤ 4000 := by
    have h1 := D_nonneg hp tb ta
    have h2 := D_le s tb ta
    have h3 := HS.out.drop
    have h4 := HS.out.add
    have h5 := Int.mul_le_mul (show (tb.length : Int) ≤ 6 by omega) h3.2 (by omega) (by omega)
    have h6 := Int.mul_le_mul (show (ta.length : Int) ≤ 6 by omega) h4.2 (by omega) (by omega)
    omega
  have r1 : 0 ≤ d2 ∧ d2 ≤ 4000 := by
    have h1 := D_nonneg hp td tc
    have h2 := D_le s td tc
    have h3 := HS.out.drop
    have h4 := HS.out.add
    have h5 := Int.mul_le_mul (show (td.length : Int) ≤ 6 by omega) h3.2 (by omega) (by omega)
    have h6 := Int.mul_le_mul (show (tc.length : Int) ≤ 6 by omega) h4.2 (by omega) (by omega)
    omega
  have L0 : ¬ 9223372036854775807 < (B ta).size + (B tc).size := by rw [size_B, size_B]; omega
  have L1 : ¬ 9223372036854775807 < (B tb).size + (B td).size := by rw [size_B, size_B]; omega
  have L2 : ¬ 9223372036854775807 < (B tc).size + (B ta).size := by rw [size_B, size_B]; omega
  have L3 : ¬ 9223372036854775807 < (B tc).size + (B tb).size := by rw [size_B, size_B]; omega
  have L4 : ¬ 9223372036854775807 < (B tb).size + (B tc).size := by rw [size_B, size_B]; omega
  have W1 : IntKind.i64.wrap (d + d2) = d + d2 := IntWalk.i64_in _ (by omega)
  have G1 : (d1 ≤ d + d2) = True := eq_true g1
  have G3 : (d3 ≤ d) = True := eq_true g3
  have G4 : (d4 ≤ d) = True := eq_true g4
  have FW := Lib.hid (show ∀ W, Below w9.heap.size w9 W → (W.cell? ⟨sb, 0, none⟩ = some (.int .i64 s.swap) ∧ W.cell? ⟨sb, 1, none⟩ = some (.int .i64 s.drop) ∧ W.cell? ⟨sb, 2, none⟩ = some (.int .i64 s.add) ∧ W.cell? ⟨sb, 3, none⟩ = some (.int .i64 s.put) ∧ W.cell? ⟨sb, 4, none⟩ = some (.slice sa s.alike.length sc)) from fun W h => PC W (D9.out.trans (h.mono D9.out.size)))
  have C1 := Lib.hid C1
  have C2 := Lib.hid C2
  have C3 := Lib.hid C3
  have C4 := Lib.hid C4
  clear hd hd1 hd2 hd3 hd4 hta htb htc htd g1 g3 g4 r0 r1
  go_upto_region 8 with fail
  refine wp_normal ?_
  refine wp_region_class (C := fun W => Below w9.heap.size w9 W) (by kernel_rfl) (by kernel_rfl) (Below.refl _ _).drew ?_
  repeat (first | go_big_quiet_skip | (go_big_quiet_want; first | (go_big_quiet_op; go_big_quiet_on) | (refine quiet_value ?_ (fun W h => ?_) ?_; rotate_left; (· obtain ⟨f0, f1, f2, f3, f4⟩ := FW.out W h; go_simp; rfl); go_simp; go_big_quiet_on) | (refine quiet_call _ _ _ (fun W => ?_) C1.out ?_; (· go_simp; done); go_simp; go_big_quiet_on) | (refine quiet_call _ _ _ (fun W => ?_) C2.out ?_; (· go_simp; done); go_simp; go_big_quiet_on) | (refine quiet_call _ _ _ (fun W => ?_) C3.out ?_; (· go_simp; done); go_simp; go_big_quiet_on) | (refine quiet_call _ _ _ (fun W => ?_) C4.out ?_; (· go_simp; done); go_simp; go_big_quiet_on)))
  refine wpQuiet_nil ?_
  intro W hb
  refine ⟨rfl, ?_⟩
  have B11 := Lib.hid (B4.out.trans ((D9.out.trans (hb.mono D9.out.size)).mono B4.out.size))
  clear FW C1 C2 C3 C4 hb
  go_wp2_with fail
  go_ret
  exact ⟨rfl, B11.out⟩
end Go.Proofs.Ytadaijepalhohaa
