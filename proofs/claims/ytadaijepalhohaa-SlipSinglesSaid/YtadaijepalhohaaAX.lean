/-
  SlipNothing's walk.
-/
import Derived.Test.YtadaijepalhohaaAW
namespace Go.Proofs.Ytadaijepalhohaa
open Go.RowKit
open Pl

theorem B_inj {a b : List UInt8} (h : B a = B b) : a = b := by
  have := congrArg (fun x : ByteArray => x.data.toList) h
  simpa [B] using this
theorem w64 {x : Int} (h0 : -9223372036854775808 ≤ x) (h1 : x ≤ 9223372036854775807) : wrap64 x = x := by
  unfold wrap64; omega
theorem Small.bd {s : Sl} (h : Small s) : Bd s := ⟨⟨h.swap.1, h.drop.1, h.add.1, h.put.1, fun x hx => (h.low x hx).1⟩, by have := h.swap.2; omega, by have := h.drop.2; omega, by have := h.add.2; omega, by have := h.put.2; omega⟩
set_option maxHeartbeats 4000000 in
set_option maxRecDepth 100000 in
theorem SlipNothing_any (c0 c1 c2 c3 : Nat) (ra : Option Addr) (rn rc : Nat) (a1 : Option Addr) (n1 k1 : Nat) (a2 : Option Addr) (n2 k2 : Nat) (w : World) (hx : c0 < 256 ∧ c1 < 256 ∧ c2 < 256 ∧ c3 < 256 ∧ rn ≤ maxLen ∧ TrisAt w w.heap.size (.slice ra rn rc) rn) (h1 : n1 ≤ maxLen ∧ U8At w w.heap.size (.slice a1 n1 k1) n1) (h2 : n2 ≤ maxLen ∧ U8At w w.heap.size (.slice a2 n2 k2) n2) :
    Calls Try.prog 5 #[.agg #[.int .u8 (c0 : Nat), .int .u8 (c1 : Nat), .int .u8 (c2 : Nat), .int .u8 (c3 : Nat), .slice ra rn rc], .agg #[.slice a1 n1 k1, .slice a2 n2 k2]] w fun e w' => e = .returned (.bool true) ∧ Below w.heap.size w w' := by
  obtain ⟨hx0, hx1, hx2, hx3, hxn, hxt⟩ := hx
  have HX := Lib.hid hxt
  clear hxt
  obtain ⟨hn1, hu1⟩ := h1
  obtain ⟨hn2, hu2⟩ := h2
  have U1 := Lib.hid hu1
  have U2 := Lib.hid hu2
  clear hu1 hu2
  have B1 := Lib.hid (((Below.refl w.heap.size w).alloc (Nat.le_refl _) (.cells #[.int .u8 (c0 : Nat), .int .u8 (c1 : Nat), .int .u8 (c2 : Nat), .int .u8 (c3 : Nat), .slice ra rn rc] 25)).alloc (by simp) (.cells #[.slice a1 n1 k1, .slice a2 n2 k2] 27))
  have K0 := (Blk.new w 25 [.int .u8 (c0 : Nat), .int .u8 (c1 : Nat), .int .u8 (c2 : Nat), .int .u8 (c3 : Nat), .slice ra rn rc]).alloc (.cells #[.slice a1 n1 k1, .slice a2 n2 k2] 27)
  have K0 := Lib.hid K0
  have K1 := Blk.new (w.alloc (.cells #[.int .u8 (c0 : Nat), .int .u8 (c1 : Nat), .int .u8 (c2 : Nat), .int .u8 (c3 : Nat), .slice ra rn rc] 25)) 27 [.slice a1 n1 k1, .slice a2 n2 k2]
  rw [World.size_alloc] at K1
  have K1 := Lib.hid K1
  go_enter Try.func5, Try.ntmps5
  go_upto_region 1 with fail
  generalize hgw : (w.alloc _).alloc _ = w1 at *
  clear hgw
  have CS := San_any w1
  go_wp2_with fail
  refine CS.mono ?_
  rintro e w2 ⟨rfl, hb⟩
  clear CS
  have K0 := Lib.hid (K0.out.below hb)
  have K1 := Lib.hid (K1.out.below hb)
  have B2 := Lib.hid (B1.out.trans (hb.mono B1.out.size))
  clear hb B1
  have q0 := K0.out.cell 0
  have q1 := K0.out.cell 1
  have q2 := K0.out.cell 2
  have q3 := K0.out.cell 3
  have q4 := K0.out.cell 4
  simp only [List.getElem?_cons_succ, List.getElem?_cons_zero] at q0 q1 q2 q3 q4
  have CM := Made_any c0 c1 c2 c3 ra rn rc w2 hx0 hx1 hx2 hx3 (HX.out.on B2.out) hxn
  clear hx0 hx1 hx2 hx3
  go_wp2_with fail
  refine CM.mono ?_
  rintro e w3 ⟨⟨s, sa, sc, rfl, hs, hso⟩, hb⟩
  have B3 := Lib.hid (B2.out.trans (hb.mono B2.out.size))
  have K1 := Lib.hid (K1.out.below hb)
  have HS := Lib.hid hs
  have b4 := (Below.refl w3.heap.size w3).alloc (Nat.le_refl _) (.cells #[.int .i64 s.swap, .int .i64 s.drop, .int .i64 s.add, .int .i64 s.put, .slice sa s.alike.length sc] 32)
  have AL := Lib.hid (hso.at.on b4)
  have SB := Lib.hid (SlBlock.new w3 s (.slice sa s.alike.length sc))
  have K1 := Lib.hid (K1.out.below b4)
  have B4 := Lib.hid (B3.out.trans (b4.mono B3.out.size))
  clear CM hb hs hso b4 q0 q1 q2 q3 q4 K0 B2 B3
  go_upto_region 3 with fail
  generalize hgw : w3.alloc _ = w4 at *
  generalize hgb : w3.heap.size = sb at *
  clear hgw hgb
  have PK := fun (W : World) (h : Below w4.heap.size w4 W) => (show AlsAt W W.heap.size (.slice sa s.alike.length sc) s.alike from AL.out.on h)
  have PC := fun (W : World) (h : Below w4.heap.size w4 W) => (SB.out.below h).cells
  have q0 := K1.out.cell 0
  simp only [List.getElem?_cons_zero] at q0
  have CT := Text_any a1 n1 k1 12 w4 (U1.out.on B4.out) hn1 (by decide)
  go_wp2_with fail
  refine CT.mono ?_
  rintro e w5 ⟨⟨ta, rfl, hta⟩, hb⟩
  have B5 := Lib.hid hb
  clear CT hb q0
  have q1 := (K1.out.below B5.out).cell 1
  simp only [List.getElem?_cons_succ, List.getElem?_cons_zero] at q1
  have CT := Text_any a2 n2 k2 12 w5 (U2.out.on (B4.out.trans (B5.out.mono B4.out.size))) hn2 (by decide)
  go_wp2_with fail
  refine CT.mono ?_
  rintro e w6 ⟨⟨tb, rfl, htb⟩, hb⟩
  have B6 := Lib.hid (B5.out.trans (hb.mono B5.out.size))
  clear CT hb q1 B5 U1 U2 K1 SB AL
  have LS : s.alike.length ≤ 1000000 := Nat.le_trans HS.out.len (by decide)
  obtain ⟨q0, q1, q2, q3, q4⟩ := PC w6 B6.out
  have CD := Distance_any s HS.out.bd sa sc ta tb w6 (PK w6 B6.out) LS (by omega) (by omega)
  go_wp2_with fail
  refine CD.mono ?_
  rintro e w7 ⟨rfl, hb⟩
  have B7 := Lib.hid (B6.out.trans (hb.mono B6.out.size))
  clear CD hb q0 q1 q2 q3 q4 B6
  obtain ⟨q0, q1, q2, q3, q4⟩ := PC w7 B7.out
  have CD := Distance_any s HS.out.bd sa sc ta ta w7 (PK w7 B7.out) LS (by omega) (by omega)
  have hp := HS.out.bd.pos
  rw [D_self hp] at CD
  have d0 := D_nonneg hp tb ta
  have dz := D_zero hp tb ta
  have dl := D_le s tb ta
  have sa1 := size_B ta
  have sb1 := size_B tb
  obtain ⟨d, hd⟩ : ∃ d, d = D s tb ta := ⟨_, rfl⟩
  rw [← hd] at d0 dz dl ⊢
  obtain ⟨k1, hk1⟩ : ∃ k, k = (tb.length : Int) * s.drop := ⟨_, rfl⟩
  obtain ⟨k2, hk2⟩ : ∃ k, k = (ta.length : Int) * s.add := ⟨_, rfl⟩
  rw [← hk1, ← hk2] at dl
  have r1 : 0 ≤ k1 ∧ k1 ≤ 96 := by
    have h := HS.out.drop
    rw [hk1]
    exact ⟨Int.mul_nonneg (by omega) (by omega), by
      have := Int.mul_le_mul (show (tb.length : Int) ≤ 12 by omega) h.2 (by omega) (by omega)
      omega⟩
  have r2 : 0 ≤ k2 ∧ k2 ≤ 96 := by
    have h := HS.out.add
    rw [hk2]
    exact ⟨Int.mul_nonneg (by omega) (by omega), by
      have := Int.mul_le_mul (show (ta.length : Int) ≤ 12 by omega) h.2 (by omega) (by omega)
      omega⟩
  have W0 : wrap64 (k1 + k2) = k1 + k2 := w64 (by omega) (by omega)
  have W1 : wrap64 ((tb.length : Int) * s.drop) = k1 := by rw [← hk1]; exact w64 (by omega) (by omega)
  have W2 : wrap64 ((ta.length : Int) * s.add) = k2 := by rw [← hk2]; exact w64 (by omega) (by omega)
  have g0 : (0 ≤ d) = True := eq_true d0
  have g1 : (d ≤ k1 + k2) = True := eq_true dl
  have CD := Lib.hid CD
  by_cases hab : tb = ta
  · have hd0 : d = 0 := dz.2 hab
    subst hd0
    subst hab
    clear hd dz dl d0 hk1 hk2 r1 r2 hta htb
    go_wp2_with fail
    refine CD.out.mono ?_
    rintro e w8 ⟨rfl, hb⟩
    go_wp2_with fail
    go_ret
    exact ⟨rfl, B4.out.trans ((B7.out.trans (hb.mono B7.out.size)).mono B4.out.size)⟩
  · have hd0 : ¬ d = 0 := fun e => hab (dz.1 e)
    have f1 : (d == 0) = false := by simpa using hd0
    have f2 : ((B ta).toList == (B tb).toList) = false := by rw [ByteArray.toList_eq, ByteArray.toList_eq]; simpa [B] using fun e => hab e.symm
    clear hd dz dl d0 hk1 hk2 r1 r2 hta htb
    go_wp2_with fail
    refine CD.out.mono ?_
    rintro e w8 ⟨rfl, hb⟩
    go_wp2_with fail
    go_ret
    exact ⟨rfl, B4.out.trans ((B7.out.trans (hb.mono B7.out.size)).mono B4.out.size)⟩
end Go.Proofs.Ytadaijepalhohaa
