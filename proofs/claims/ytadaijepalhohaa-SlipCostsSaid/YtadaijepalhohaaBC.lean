/-
  SlipCosts' walk.
-/
import Derived.Test.YtadaijepalhohaaBB
namespace Go.Proofs.Ytadaijepalhohaa
open Go.RowKit
open Pl

theorem AlsOwn.setCell {W : World} {b b' o : Nat} {v u : Value} {l : List Al} (h : AlsOwn W b v l) (hb : b' < b) : AlsOwn (W.setCell ⟨b', o, none⟩ u) b v l := by
  refine ⟨h.1, ?_⟩
  rcases h.2 with h0 | ⟨g, cap, cur, hv, hg, hh, r⟩
  · exact Or.inl h0
  · exact Or.inr ⟨g, cap, cur, hv, hg, by rw [heap_setCell_other _ _ _ _ (by show g ≠ b'; omega)]; exact hh, r⟩
/-- What the loop over the letters keeps. -/
def CoRel (w0 : World) (s : Sl) (i : Nat) (W : World) : Prop :=
  ∃ (l : List Al) (a : Option Addr) (c : Nat), l = (s.alike.take i).map twoA ∧
    Blk W w0.heap.size 32 [.int .i64 (2 * s.swap), .int .i64 (2 * s.drop), .int .i64 (2 * s.add), .int .i64 (2 * s.put), .slice a l.length c] ∧
    AlsOwn W (w0.heap.size + 1) (.slice a l.length c) l ∧ Below w0.heap.size w0 W
set_option maxHeartbeats 4000000 in
set_option maxRecDepth 100000 in
theorem SlipCosts_any (c0 c1 c2 c3 : Nat) (ra : Option Addr) (rn rc : Nat) (a1 : Option Addr) (n1 k1 : Nat) (a2 : Option Addr) (n2 k2 : Nat) (e0 e1 e2 e3 : Nat) (w : World) (hx : c0 < 256 ∧ c1 < 256 ∧ c2 < 256 ∧ c3 < 256 ∧ rn ≤ maxLen ∧ TrisAt w w.heap.size (.slice ra rn rc) rn) (h1 : n1 ≤ maxLen ∧ U8At w w.heap.size (.slice a1 n1 k1) n1) (h2 : n2 ≤ maxLen ∧ U8At w w.heap.size (.slice a2 n2 k2) n2) (he : e0 < 256 ∧ e1 < 256 ∧ e2 < 256 ∧ e3 < 256) :
    Calls Try.prog 9 #[.agg #[.int .u8 (c0 : Nat), .int .u8 (c1 : Nat), .int .u8 (c2 : Nat), .int .u8 (c3 : Nat), .slice ra rn rc], .agg #[.slice a1 n1 k1, .slice a2 n2 k2], .agg #[.int .u8 (e0 : Nat), .int .u8 (e1 : Nat), .int .u8 (e2 : Nat), .int .u8 (e3 : Nat)]] w fun e w' => e = .returned (.bool true) ∧ Below w.heap.size w w' := by
  obtain ⟨hx0, hx1, hx2, hx3, hxn, hxt⟩ := hx
  have HX := Lib.hid hxt
  clear hxt
  obtain ⟨he0, he1, he2, he3⟩ := he
  obtain ⟨hn1, hu1⟩ := h1
  obtain ⟨hn2, hu2⟩ := h2
  have U1 := Lib.hid hu1
  have U2 := Lib.hid hu2
  clear hu1 hu2
  have B1 := Lib.hid ((((Below.refl w.heap.size w).alloc (Nat.le_refl _) (.cells #[.int .u8 (c0 : Nat), .int .u8 (c1 : Nat), .int .u8 (c2 : Nat), .int .u8 (c3 : Nat), .slice ra rn rc] 25)).alloc (by simp) (.cells #[.slice a1 n1 k1, .slice a2 n2 k2] 27)).alloc (by simp; omega) (.cells #[.int .u8 (e0 : Nat), .int .u8 (e1 : Nat), .int .u8 (e2 : Nat), .int .u8 (e3 : Nat)] 22))
  have K0 := ((Blk.new w 25 [.int .u8 (c0 : Nat), .int .u8 (c1 : Nat), .int .u8 (c2 : Nat), .int .u8 (c3 : Nat), .slice ra rn rc]).alloc (.cells #[.slice a1 n1 k1, .slice a2 n2 k2] 27)).alloc (.cells #[.int .u8 (e0 : Nat), .int .u8 (e1 : Nat), .int .u8 (e2 : Nat), .int .u8 (e3 : Nat)] 22)
  have K0 := Lib.hid K0
  have K1 := (Blk.new (w.alloc (.cells #[.int .u8 (c0 : Nat), .int .u8 (c1 : Nat), .int .u8 (c2 : Nat), .int .u8 (c3 : Nat), .slice ra rn rc] 25)) 27 [.slice a1 n1 k1, .slice a2 n2 k2]).alloc (.cells #[.int .u8 (e0 : Nat), .int .u8 (e1 : Nat), .int .u8 (e2 : Nat), .int .u8 (e3 : Nat)] 22)
  rw [World.size_alloc] at K1
  have K1 := Lib.hid K1
  have K2 := Blk.new ((w.alloc (.cells #[.int .u8 (c0 : Nat), .int .u8 (c1 : Nat), .int .u8 (c2 : Nat), .int .u8 (c3 : Nat), .slice ra rn rc] 25)).alloc (.cells #[.slice a1 n1 k1, .slice a2 n2 k2] 27)) 22 [.int .u8 (e0 : Nat), .int .u8 (e1 : Nat), .int .u8 (e2 : Nat), .int .u8 (e3 : Nat)]
  rw [World.size_alloc, World.size_alloc] at K2
  have K2 := Lib.hid K2
  go_enter Try.func9, Try.ntmps9
  go_upto_region 1 with fail
  generalize hgw : ((w.alloc _).alloc _).alloc _ = w1 at *
  clear hgw
  have CS := San_any w1
  go_wp2_with fail
  refine CS.mono ?_
  rintro e w2 ⟨rfl, hb⟩
  clear CS
  have K0 := Lib.hid (K0.out.below hb)
  have K1 := Lib.hid (K1.out.below hb)
  have K2 := Lib.hid (K2.out.below hb)
  have B2 := Lib.hid (B1.out.trans (hb.mono B1.out.size))
  clear hb B1
  have q0 := K0.out.cell 0
  have q1 := K0.out.cell 1
  have q2 := K0.out.cell 2
  have q3 := K0.out.cell 3
  have q4 := K0.out.cell 4
  simp only [List.getElem?_cons_succ, List.getElem?_cons_zero] at q0 q1 q2 q3 q4
  have CM := Made_any c0 c1 c2 c3 ra rn rc w2 hx0 hx1 hx2 hx3 (HX.out.on B2.out) hxn
  clear hx0 hx1 hx2 hx3
  go_wp2_with fail
  refine CM.mono ?_
  rintro e w3 ⟨⟨s, sa, sc, rfl, hs, hso⟩, hb⟩
  have B3 := Lib.hid (B2.out.trans (hb.mono B2.out.size))
  have K1 := Lib.hid (K1.out.below hb)
  have K2 := Lib.hid (K2.out.below hb)
  have HS := Lib.hid hs
  have b4 := (Below.refl w3.heap.size w3).alloc (Nat.le_refl _) (.cells #[.int .i64 s.swap, .int .i64 s.drop, .int .i64 s.add, .int .i64 s.put, .slice sa s.alike.length sc] 32)
  have AL := Lib.hid (hso.at.on b4)
  have SB := Lib.hid (SlBlock.new w3 s (.slice sa s.alike.length sc))
  have K1 := Lib.hid (K1.out.below b4)
  have K2 := Lib.hid (K2.out.below b4)
  have B4 := Lib.hid (B3.out.trans (b4.mono B3.out.size))
  clear CM hb hs hso b4 q0 q1 q2 q3 q4 K0 B2 B3
  go_upto_region 3 with fail
  generalize hgw : w3.alloc _ = w4 at *
  generalize hgb : w3.heap.size = sb at *
  clear hgw hgb
  have PK := fun (W : World) (h : Below w4.heap.size w4 W) => (show AlsAt W W.heap.size (.slice sa s.alike.length sc) s.alike from AL.out.on h)
  have PC := fun (W : World) (h : Below w4.heap.size w4 W) => (SB.out.below h).cells
  have q0 := K1.out.cell 0
  simp only [List.getElem?_cons_zero] at q0
  have CT := Text_any a1 n1 k1 12 w4 (U1.out.on B4.out) hn1 (by decide)
  go_wp2_with fail
  refine CT.mono ?_
  rintro e w5 ⟨⟨ta, rfl, hta⟩, hb⟩
  have B5 := Lib.hid hb
  clear CT hb q0
  have q1 := (K1.out.below B5.out).cell 1
  simp only [List.getElem?_cons_succ, List.getElem?_cons_zero] at q1
  have CT := Text_any a2 n2 k2 12 w5 (U2.out.on (B4.out.trans (B5.out.mono B4.out.size))) hn2 (by decide)
  go_wp2_with fail
  refine CT.mono ?_
  rintro e w6 ⟨⟨tb, rfl, htb⟩, hb⟩
  have B6 := Lib.hid (B5.out.trans (hb.mono B5.out.size))
  clear CT hb q1 B5 U1 U2 K1 SB AL
  have LS : s.alike.length ≤ 1000000 := Nat.le_trans HS.out.len (by decide)
  obtain ⟨q0, q1, q2, q3, q4⟩ := PC w6 B6.out
  go_upto_region 6 with fail
  have T0 := Lib.hid (Blk.new w6 32 [.int .i64 s.swap, .int .i64 s.drop, .int .i64 s.add, .int .i64 s.put, .slice sa s.alike.length sc])
  have KD6 := (K2.out.below B6.out).lt
  have K2 := Lib.hid ((K2.out.below B6.out).alloc (.cells #[.int .i64 s.swap, .int .i64 s.drop, .int .i64 s.add, .int .i64 s.put, .slice sa s.alike.length sc] 32))
  have G7 := Lib.hid B6.out.size
  have D0 := Lib.hid (B6.out.alloc B6.out.size (.cells #[.int .i64 s.swap, .int .i64 s.drop, .int .i64 s.add, .int .i64 s.put, .slice sa s.alike.length sc] 32))
  have KDG := Lib.hid (show w.heap.size + 2 < w6.heap.size from KD6)
  clear q0 q1 q2 q3 q4 B6 KD6
  generalize hgw : w6.alloc _ = x0 at *
  generalize hgb : w6.heap.size = dg at *
  clear hgw hgb
  obtain ⟨sw1, sw2⟩ := HS.out.swap
  obtain ⟨sd1, sd2⟩ := HS.out.drop
  obtain ⟨sa1, sa2⟩ := HS.out.add
  obtain ⟨sp1, sp2⟩ := HS.out.put
  obtain ⟨f0, hf0⟩ : ∃ f, f = e0 % 4 := ⟨_, rfl⟩
  have o1 : (e0 : Int) % 4 = (f0 : Int) := by omega
  have o2 : (0 : Int) ≤ (f0 : Int) := by omega
  have o3 : (f0 : Int) ≤ 3 := by omega
  have o4 : (0 : Int) ≤ (e0 : Int) := by omega
  have o5 : (e0 : Int) ≤ 255 := by omega
  have y1 := T0.out.cell 0
  have z1 := T0.out.free 0
  have m1 := K2.out.cell 0
  simp only [List.getElem?_cons_zero] at y1 m1
  clear hf0
  go_upto_region 7 with fail
  have T1 := Lib.hid (T0.out.put 0 (.int .i64 (s.swap + (f0 : Nat))))
  have D1 := Lib.hid (D0.out.setCell (p := ⟨dg, 0, none⟩) G7.out (.int .i64 (s.swap + (f0 : Nat))))
  have H0 : (0 : Int) ≤ (f0 : Int) ∧ (f0 : Int) ≤ 3 := ⟨o2, o3⟩
  have K2 := Lib.hid (K2.out.setCell (b' := dg) (o := 0) (u := .int .i64 (s.swap + (f0 : Nat))) (by have := KDG.out; omega))
  clear y1 z1 m1 T0 D0 o1 o2 o3 o4 o5
  generalize hgw : x0.setCell _ _ = x1 at *
  clear hgw
  obtain ⟨f1, hf1⟩ : ∃ f, f = e1 % 4 := ⟨_, rfl⟩
  have o1 : (e1 : Int) % 4 = (f1 : Int) := by omega
  have o2 : (0 : Int) ≤ (f1 : Int) := by omega
  have o3 : (f1 : Int) ≤ 3 := by omega
  have o4 : (0 : Int) ≤ (e1 : Int) := by omega
  have o5 : (e1 : Int) ≤ 255 := by omega
  have y1 := T1.out.cell 1
  have z1 := T1.out.free 1
  have m1 := K2.out.cell 1
  simp only [List.getElem?_cons_succ, List.getElem?_cons_zero] at y1 m1
  clear hf1
  go_upto_region 8 with fail
  have T2 := Lib.hid (T1.out.put 1 (.int .i64 (s.drop + (f1 : Nat))))
  have D2 := Lib.hid (D1.out.setCell (p := ⟨dg, 1, none⟩) G7.out (.int .i64 (s.drop + (f1 : Nat))))
  have H1 : (0 : Int) ≤ (f1 : Int) ∧ (f1 : Int) ≤ 3 := ⟨o2, o3⟩
  have K2 := Lib.hid (K2.out.setCell (b' := dg) (o := 1) (u := .int .i64 (s.drop + (f1 : Nat))) (by have := KDG.out; omega))
  clear y1 z1 m1 T1 D1 o1 o2 o3 o4 o5
  generalize hgw : x1.setCell _ _ = x2 at *
  clear hgw
  obtain ⟨f2, hf2⟩ : ∃ f, f = e2 % 4 := ⟨_, rfl⟩
  have o1 : (e2 : Int) % 4 = (f2 : Int) := by omega
  have o2 : (0 : Int) ≤ (f2 : Int) := by omega
  have o3 : (f2 : Int) ≤ 3 := by omega
  have o4 : (0 : Int) ≤ (e2 : Int) := by omega
  have o5 : (e2 : Int) ≤ 255 := by omega
  have y1 := T2.out.cell 2
  have z1 := T2.out.free 2
  have m1 := K2.out.cell 2
  simp only [List.getElem?_cons_succ, List.getElem?_cons_zero] at y1 m1
  clear hf2
  go_upto_region 9 with fail
  have T3 := Lib.hid (T2.out.put 2 (.int .i64 (s.add + (f2 : Nat))))
  have D3 := Lib.hid (D2.out.setCell (p := ⟨dg, 2, none⟩) G7.out (.int .i64 (s.add + (f2 : Nat))))
  have H2 : (0 : Int) ≤ (f2 : Int) ∧ (f2 : Int) ≤ 3 := ⟨o2, o3⟩
  have K2 := Lib.hid (K2.out.setCell (b' := dg) (o := 2) (u := .int .i64 (s.add + (f2 : Nat))) (by have := KDG.out; omega))
  clear y1 z1 m1 T2 D2 o1 o2 o3 o4 o5
  generalize hgw : x2.setCell _ _ = x3 at *
  clear hgw
  obtain ⟨f3, hf3⟩ : ∃ f, f = e3 % 4 := ⟨_, rfl⟩
  have o1 : (e3 : Int) % 4 = (f3 : Int) := by omega
  have o2 : (0 : Int) ≤ (f3 : Int) := by omega
  have o3 : (f3 : Int) ≤ 3 := by omega
  have o4 : (0 : Int) ≤ (e3 : Int) := by omega
  have o5 : (e3 : Int) ≤ 255 := by omega
  have y1 := T3.out.cell 3
  have z1 := T3.out.free 3
  have m1 := K2.out.cell 3
  simp only [List.getElem?_cons_succ, List.getElem?_cons_zero] at y1 m1
  clear hf3
  go_upto_region 10 with fail
  have T4 := Lib.hid (T3.out.put 3 (.int .i64 (s.put + (f3 : Nat))))
  have D4 := Lib.hid (D3.out.setCell (p := ⟨dg, 3, none⟩) G7.out (.int .i64 (s.put + (f3 : Nat))))
  have H3 : (0 : Int) ≤ (f3 : Int) ∧ (f3 : Int) ≤ 3 := ⟨o2, o3⟩
  have K2 := Lib.hid (K2.out.setCell (b' := dg) (o := 3) (u := .int .i64 (s.put + (f3 : Nat))) (by have := KDG.out; omega))
  clear y1 z1 m1 T3 D3 o1 o2 o3 o4 o5
  generalize hgw : x3.setCell _ _ = x4 at *
  clear hgw
  have T4 := Lib.hid (show Blk x4 dg 32 [.int .i64 (s.swap + (f0 : Nat)), .int .i64 (s.drop + (f1 : Nat)), .int .i64 (s.add + (f2 : Nat)), .int .i64 (s.put + (f3 : Nat)), .slice sa s.alike.length sc] from T4.out)
  obtain ⟨q0, q1, q2, q3, q4⟩ := PC x4 D4.out
  go_upto_region 11 with fail
  have RR := Lib.hid (show CoRel x4 s 0 (x4.alloc (.cells #[.int .i64 (2 * s.swap), .int .i64 (2 * s.drop), .int .i64 (2 * s.add), .int .i64 (2 * s.put), .slice none 0 0] 32)) from
    ⟨[], none, 0, by simp, Blk.new x4 32 [.int .i64 (2 * s.swap), .int .i64 (2 * s.drop), .int .i64 (2 * s.add), .int .i64 (2 * s.put), .slice none 0 0], AlsOwn.nil _ _, (Below.refl _ _).alloc (Nat.le_refl _) _⟩)
  have DE := Lib.hid (show Dearer s ⟨s.swap + (f0 : Nat), s.drop + (f1 : Nat), s.add + (f2 : Nat), s.put + (f3 : Nat), s.alike⟩ from ⟨by show s.swap ≤ s.swap + (f0 : Int) ∧ s.swap + (f0 : Int) ≤ s.swap + 3; omega, by show s.drop ≤ s.drop + (f1 : Int) ∧ s.drop + (f1 : Int) ≤ s.drop + 3; omega, by show s.add ≤ s.add + (f2 : Int) ∧ s.add + (f2 : Int) ≤ s.add + 3; omega, by show s.put ≤ s.put + (f3 : Int) ∧ s.put + (f3 : Int) ≤ s.put + 3; omega, rfl⟩)
  clear q0 q1 q2 q3 q4 K2 H0 H1 H2 H3
  generalize hgw : x4.alloc _ = x5 at *
  generalize hgb : x4.heap.size = tg at *
  have HTG := Lib.hid hgb
  clear hgw hgb
  go_wp2_with fail
  go_loopw [13] (fun iv wr => ∃ i : Nat, iv = .int .i64 (i : Nat) ∧ i ≤ s.alike.length ∧ CoRel x4 s i wr) (fun iv _ => s.alike.length - (intOf iv).toNat)
  case atStart => exact ⟨0, rfl, Nat.zero_le _, RR.out⟩
  case round =>
    obtain ⟨i, rfl, hi, l, la, lc, hl, hT, hO, hb⟩ := hrel
    clear RR
    have HL := Lib.hid hl
    rw [HTG.out] at hT hO
    have TB := Lib.hid hT
    have OW := Lib.hid hO
    have HB := Lib.hid hb
    have BD := Lib.hid (D4.out.trans (hb.mono D4.out.size))
    clear hl hT hO hb
    have i0' : (0 : Int) ≤ (i : Int) := by omega
    obtain ⟨q0, q1, q2, q3, q4⟩ := PC wr BD.out
    by_cases h1 : (i : Int) < (s.alike.length : Int)
    · obtain ⟨a', c', hv, hP⟩ := PK wr BD.out
      obtain ⟨rfl, rfl⟩ : sa = a' ∧ sc = c' := by simpa using hv
      have hi' : i < s.alike.length := by omega
      obtain ⟨b, off, ha, hlt, hc⟩ := hP (by omega)
      subst ha
      obtain ⟨p0, p1, p2⟩ := hc i hi'
      obtain ⟨x, hxe⟩ : ∃ x, x = s.alike[i] := ⟨_, rfl⟩
      rw [← hxe] at p0 p1 p2
      obtain ⟨x1, x2⟩ := HS.out.low x (by rw [hxe]; exact List.getElem_mem _)
      have HLN := Lib.hid (show l ++ [twoA x] = (s.alike.take (i + 1)).map twoA by rw [HL.out, List.take_succ_eq_append_getElem hi', List.map_append, hxe]; rfl)
      clear hc hP hv hlt hxe
      go_upto_region 15 with fail
      have YB := Lib.hid (Blk.new wr 46 [.int .u8 (x.a.toNat : Nat), .int .u8 (x.b.toNat : Nat), .int .i64 x.c])
      have BA := Lib.hid ((Below.refl wr.heap.size wr).alloc (Nat.le_refl _) (.cells #[.int .u8 (x.a.toNat : Nat), .int .u8 (x.b.toNat : Nat), .int .i64 x.c] 46))
      clear p0 p1 p2 q0 q1 q2 q3 q4
      generalize hgw : wr.alloc _ = wa at *
      clear hgw
      have y2 := YB.out.cell 2
      have z2 := YB.out.free 2
      simp only [List.getElem?_cons_succ, List.getElem?_cons_zero] at y2
      go_upto_region 16 with fail
      have YB2 := Lib.hid (show Blk (wa.setCell ⟨wr.heap.size, 2, none⟩ (.int .i64 (2 * x.c))) wr.heap.size 46 [.int .u8 (x.a.toNat : Nat), .int .u8 (x.b.toNat : Nat), .int .i64 (2 * x.c)] from YB.out.put 2 (.int .i64 (2 * x.c)))
      have BA2 := Lib.hid (BA.out.setCell (p := ⟨wr.heap.size, 2, none⟩) (Nat.le_refl _) (.int .i64 (2 * x.c)))
      clear y2 z2 YB BA
      generalize hgw : wa.setCell _ _ = wb at *
      clear hgw
      have o0 := YB2.out.cell 0
      have o1 := YB2.out.cell 1
      have o2 := YB2.out.cell 2
      have t4 := (TB.out.below BA2.out).cell 4
      simp only [List.getElem?_cons_succ, List.getElem?_cons_zero] at o0 o1 o2 t4
      have one := Lib.hid (show AlsOwn (wb.alloc (.cells #[.int .u8 (x.a.toNat : Nat), .int .u8 (x.b.toNat : Nat), .int .i64 (2 * x.c)] 46)) wb.heap.size (.slice (some ⟨wb.heap.size, 0, none⟩) 1 1) [twoA x] from AlsOwn.one wb (twoA x))
      have b5 := (Below.refl wb.heap.size wb).alloc (Nat.le_refl _) (.cells #[.int .u8 (x.a.toNat : Nat), .int .u8 (x.b.toNat : Nat), .int .i64 (2 * x.c)] 46)
      have OW5 := Lib.hid ((OW.out.below BA2.out).below b5)
      have TB5 := Lib.hid ((TB.out.below BA2.out).below b5)
      have BB5 := Lib.hid ((HB.out.trans (BA2.out.mono HB.out.size)).alloc (HB.out.trans (BA2.out.mono HB.out.size)).size (.cells #[.int .u8 (x.a.toNat : Nat), .int .u8 (x.b.toNat : Nat), .int .i64 (2 * x.c)] 46))
      have hz5 : tg + 1 ≤ (wb.alloc (.cells #[.int .u8 (x.a.toNat : Nat), .int .u8 (x.b.toNat : Nat), .int .i64 (2 * x.c)] 46)).heap.size := TB5.out.lt
      have l5 : l.length ≤ 5 := by rw [HL.out]; simp; have := HS.out.len; omega
      have BK := Lib.hid OW.out.blk
      have HZ := Lib.hid (show x4.heap.size ≤ (wb.alloc (.cells #[.int .u8 (x.a.toNat : Nat), .int .u8 (x.b.toNat : Nat), .int .i64 (2 * x.c)] 46)).heap.size from BB5.out.size)
      clear b5
      go_upto_region 13 with (first | (at_builtin; refine wpList_append_als rfl _ _ rfl (tg + 1) _ l rfl OW5.out wb.heap.size _ [twoA x] rfl one.out (by simp; omega) hz5 ?_; intro v6 w6' own6 grow6; have T6 := Lib.hid (TB5.out.grown grow6 (fun e => by have := BK.out tg e; omega)); have t6 := T6.out.cell 4; have t6f := T6.out.free 4; simp only [List.getElem?_cons_succ, List.getElem?_cons_zero] at t6; obtain ⟨va6, vc6, rfl⟩ := own6.shape; have RN := Lib.hid (show CoRel x4 s (i + 1) (w6'.setCell ⟨tg, 4, none⟩ (.slice va6 (l ++ [twoA x]).length vc6)) from ⟨l ++ [twoA x], va6, vc6, HLN.out, by rw [HTG.out]; exact T6.out.put 4 _, by rw [HTG.out]; exact own6.setCell (by omega), (BB5.out.grown grow6 HZ.out (fun k hk => by have := BK.out k hk; have := HTG.out; omega)).setCell (by show x4.heap.size ≤ tg; have := HTG.out; omega) _⟩); clear own6 grow6) | fail)
      go_wp2_with fail
      go_roundw
      case rel => exact ⟨i + 1, by go_num, by omega, by simpa only [List.length_append, List.length_cons, List.length_nil, Nat.zero_add] using RN.out⟩
      case measure => simp [intOf]; omega
    · have HI := Lib.hid (show i = s.alike.length by omega)
      have hle : l = s.alike.map twoA := by rw [HL.out, HI.out, List.take_length]
      subst hle
      have CD := Distance_any s HS.out.bd sa sc ta tb wr (PK wr BD.out) LS (by omega) (by omega)
      have TT := Lib.hid (show Blk wr tg 32 [.int .i64 (2 * s.swap), .int .i64 (2 * s.drop), .int .i64 (2 * s.add), .int .i64 (2 * s.put), .slice la (s.alike.map twoA).length lc] from TB.out)
      have hp := HS.out.bd.pos
      have nn := D_nonneg hp tb ta
      have nl := D_le s tb ta
      obtain ⟨k1, hk1⟩ : ∃ k, k = (tb.length : Int) * s.drop := ⟨_, rfl⟩
      obtain ⟨k2, hk2⟩ : ∃ k, k = (ta.length : Int) * s.add := ⟨_, rfl⟩
      rw [← hk1, ← hk2] at nl
      have r1 : k1 ≤ 96 := by
        rw [hk1]
        have := Int.mul_le_mul (show (tb.length : Int) ≤ 12 by omega) sd2 (by omega) (by omega)
        omega
      have r2 : k2 ≤ 96 := by
        rw [hk2]
        have := Int.mul_le_mul (show (ta.length : Int) ≤ 12 by omega) sa2 (by omega) (by omega)
        omega
      have dd := D_dear DE.out tb ta
      have d2 := D_two s tb ta
      obtain ⟨d, hd⟩ : ∃ d, d = D s tb ta := ⟨_, rfl⟩
      obtain ⟨e', he'⟩ : ∃ e', e' = D ⟨s.swap + (f0 : Nat), s.drop + (f1 : Nat), s.add + (f2 : Nat), s.put + (f3 : Nat), s.alike⟩ tb ta := ⟨_, rfl⟩
      rw [← hd] at CD nn nl dd d2
      rw [← he'] at dd
      have HD := Lib.hid hd
      have HE := Lib.hid he'
      have H2 := Lib.hid d2
      clear hd he' d2 hk1 hk2
      go_wp2_with fail
      refine CD.mono ?_
      rintro e w17 ⟨rfl, hb⟩
      have D17 := Lib.hid (BD.out.trans (hb.mono BD.out.size))
      have TT := Lib.hid (TT.out.below hb)
      have OW := Lib.hid (OW.out.below hb)
      have X17 := Lib.hid ((HB.out.trans (hb.mono HB.out.size)))
      clear CD hb q0 q1 q2 q3 q4 BD TB
      obtain ⟨q0, q1, q2, q3, q4⟩ := slCells (T4.out.below X17.out)
      have CD := Distance_any ⟨s.swap + (f0 : Nat), s.drop + (f1 : Nat), s.add + (f2 : Nat), s.put + (f3 : Nat), s.alike⟩ (DE.out.bd HS.out) sa sc ta tb w17 (PK w17 D17.out) LS (by omega) (by omega)
      rw [← HE.out] at CD
      go_wp2_with fail
      refine CD.mono ?_
      rintro e w18 ⟨rfl, hb⟩
      have D18 := Lib.hid (D17.out.trans (hb.mono D17.out.size))
      have TT := Lib.hid (TT.out.below hb)
      have OW := Lib.hid (OW.out.below hb)
      clear CD hb q0 q1 q2 q3 q4 D17
      obtain ⟨q0, q1, q2, q3, q4⟩ := slCells TT.out
      have hlm : (s.alike.map twoA).length = s.alike.length := List.length_map _
      have CD := Distance_any (twoS s) (twoS_bd HS.out) la lc ta tb w18 OW.out.at (by show (s.alike.map twoA).length ≤ 1000000; rw [hlm]; exact LS) (by omega) (by omega)
      rw [H2.out, show (twoS s).alike.length = s.alike.length from hlm] at CD
      have g1 : (d ≤ e') = True := eq_true dd.1
      have g2 : (e' ≤ d + 3 * ((ta.length : Int) + (tb.length : Int))) = True := eq_true (by omega)
      have sz1 := size_B ta
      have sz2 := size_B tb
      have WA : wrap64 (3 * ((ta.length : Int) + (tb.length : Int))) = 3 * ((ta.length : Int) + (tb.length : Int)) := w64 (by omega) (by omega)
      have WB : wrap64 (d + 3 * ((ta.length : Int) + (tb.length : Int))) = d + 3 * ((ta.length : Int) + (tb.length : Int)) := w64 (by omega) (by omega)
      have WC : wrap64 (2 * d) = 2 * d := w64 (by omega) (by omega)
      clear dd nl r1 r2
      go_wp2_with fail
      refine CD.mono ?_
      rintro e w19 ⟨rfl, hb⟩
      have D19 := Lib.hid (B4.out.trans ((D18.out.trans (hb.mono D18.out.size)).mono B4.out.size))
      clear CD hb q0 q1 q2 q3 q4
      go_wp2_with fail
      go_ret
      exact ⟨rfl, D19.out⟩
end Go.Proofs.Ytadaijepalhohaa
