/-
  The walk of the law EventParses: it answers true, whatever its raw event, its text and its byte are.
-/
import Derived.Test.YtcbboegjegobeaaDoorPP
import Derived.Test.YtcbboegjegobeaaDoorKK
import Derived.Laws.IdiomStrings
import Derived.Deep.RegionWith
import Derived.Deep.RegionHeld
import Derived.Deep.DeepCutAuto
namespace Go.Proofs.YtcbboegjegobeaaDoor
open Go.RowKit
open Pl

/-- The block of the two texts. -/
def TwoAt (W : World) (b : Nat) (s t : List UInt8) : Prop := W.heap[b]? = some (.cells #[.string (B s), .string (B t)] 9 (0, 0))
theorem TwoAt.below {W W' : World} {b : Nat} {s t : List UInt8} (h : TwoAt W b s t) (hb : Below W.heap.size W W') : TwoAt W' b s t := by
  have hlt := lt_of_heap h
  unfold TwoAt at h ⊢; rw [hb.block b hlt]; exact h
theorem TwoAt.cells {W : World} {b : Nat} {s t : List UInt8} (h : TwoAt W b s t) : W.cell? ⟨b, 0, none⟩ = some (.string (B s)) ∧ W.cell? ⟨b, 1, none⟩ = some (.string (B t)) := by
  unfold TwoAt at h
  refine ⟨?_, ?_⟩ <;> simp [World.cell?, h]

theorem below_al {W0 W : World} {o : Obj} (h : Below W0.heap.size W0 W) : Below W0.heap.size W0 (W.alloc o) := h.alloc h.size o
theorem cell_al {W : World} {o : Obj} {a : Addr} {v : Value} (h : W.cell? a = some v) : (W.alloc o).cell? a = some v := by
  have hlt := World.block_lt_of_cell? W _ h
  have hs := World.cell?_spot h
  obtain ⟨b, off, sp⟩ := a
  obtain rfl : sp = none := hs
  exact (World.cell?_alloc_past _ _ _ hlt).trans h
theorem conv_any (u : UInt8) (g : Nat) (W : World) (h : W.cell? ⟨g, 0, none⟩ = some (.int .u8 (u.toNat : Int))) : (convert 22 9 (.slice (some ⟨g, 0, none⟩) 1 1)).run Tryd.prog W = .ok (.string (B [u])) W :=
  run_convert_bytes_back W 22 9 5 ⟨g, 0, none⟩ 1 [u] Tryd.underlying22 Tryd.underlying5 Tryd.underlying9 (fun j hj => by
    obtain rfl : j = 0 := by simpa using hj
    rw [add_none]
    exact h)
/-- Another line than the one that was read: another event, or none. -/
theorem parse_try (q t : List UInt8) (ev : Ev) (hq : parseS q = some ev) (hne : q ≠ t) (hl : t.length ≤ 1000000) (w : World) :
    Calls Tryd.prog 12 #[.string (B t)] w fun e w' => ∃ e2 a2 c2 r, e = .returned (.tuple #[evV e2 a2 c2, .int .i64 r]) ∧ OwnsP w' w.heap.size (.slice a2 e2.p.length c2) e2.p ∧ (r = 0 ∨ r = 3) ∧ (r = 0 → sameB ev e2 = false) ∧ Below w.heap.size w w' := by
  have h := Parse_any t w (by unfold maxLen; omega)
  cases hp : parseS t with
  | none =>
    refine (parse_bad t hp hl w).mono ?_
    rintro e w' ⟨rfl, hb⟩
    exact ⟨Ev.zero, none, 0, 3, rfl, OwnsP.nil _ _, Or.inr rfl, (fun h => absurd h (by decide)), hb⟩
  | some e2 =>
    rw [hp] at h
    refine h.mono ?_
    rintro e w' ⟨⟨v, rfl, hO⟩, hb⟩
    obtain ⟨a2, c2, rfl⟩ := own_form hO
    exact ⟨e2, a2, c2, 0, rfl, hO, Or.inl rfl, fun _ => parse_other hq hp hne, hb⟩
theorem EvBlock.set0 {W : World} {b : Nat} {c0 c1 c2 c3 c4 c5 : Value} (h : EvBlock W b c0 c1 c2 c3 c4 c5) (v : Value) : EvBlock (W.setCell ⟨b, 0, none⟩ v) b v c1 c2 c3 c4 c5 := by
  unfold EvBlock at h ⊢
  rw [heap_setCell_same W b 0 _ 31 v h]; rfl
theorem sets_end {W x : World} {b N : Nat} {z0 z1 z2 z3 z4 z5 v0 v1 v3 v4 v5 : Value} {a : Option Addr} {c : Nat} {ps : List (Int × Int)} (hz : EvBlock W b z0 z1 z2 z3 z4 z5) (hO : OwnsP W N (.slice a ps.length c) ps) (hbN : b < N) (hx : Below x.heap.size x W) (hxb : x.heap.size ≤ b) :
    EvBlock ((((((W.setCell ⟨b, 0, none⟩ v0).setCell ⟨b, 1, none⟩ v1).setCell ⟨b, 2, none⟩ (.slice a ps.length c)).setCell ⟨b, 3, none⟩ v3).setCell ⟨b, 4, none⟩ v4).setCell ⟨b, 5, none⟩ v5) b v0 v1 (.slice a ps.length c) v3 v4 v5 ∧
    PtsAt ((((((W.setCell ⟨b, 0, none⟩ v0).setCell ⟨b, 1, none⟩ v1).setCell ⟨b, 2, none⟩ (.slice a ps.length c)).setCell ⟨b, 3, none⟩ v3).setCell ⟨b, 4, none⟩ v4).setCell ⟨b, 5, none⟩ v5) ((((((W.setCell ⟨b, 0, none⟩ v0).setCell ⟨b, 1, none⟩ v1).setCell ⟨b, 2, none⟩ (.slice a ps.length c)).setCell ⟨b, 3, none⟩ v3).setCell ⟨b, 4, none⟩ v4).setCell ⟨b, 5, none⟩ v5).heap.size (.slice a ps.length c) ps ∧
    Below x.heap.size x ((((((W.setCell ⟨b, 0, none⟩ v0).setCell ⟨b, 1, none⟩ v1).setCell ⟨b, 2, none⟩ (.slice a ps.length c)).setCell ⟨b, 3, none⟩ v3).setCell ⟨b, 4, none⟩ v4).setCell ⟨b, 5, none⟩ v5) :=
  ⟨(((((hz.set0 v0).set1 v1).setP _).set3 v3).set4 v4).set5 v5,
   OwnsP.pts (ownsRow_setCell_below (ownsRow_setCell_below (ownsRow_setCell_below (ownsRow_setCell_below (ownsRow_setCell_below (ownsRow_setCell_below hO hbN _) hbN _) hbN _) hbN _) hbN _) hbN _),
   (((((hx.setCell (p := ⟨b, 0, none⟩) hxb _).setCell (p := ⟨b, 1, none⟩) hxb _).setCell (p := ⟨b, 2, none⟩) hxb _).setCell (p := ⟨b, 3, none⟩) hxb _).setCell (p := ⟨b, 4, none⟩) hxb _).setCell (p := ⟨b, 5, none⟩) hxb _⟩
def evZ : Obj := .cells #[.int .i64 0, .string ⟨#[]⟩, .slice none 0 0, .string ⟨#[]⟩, .int .i64 0, .int .i64 0] 31
theorem ev_at1 {X W : World} {o : Obj} (hb : Below ((X.alloc (.cells #[.int .i64 0, .string ⟨#[]⟩, .slice none 0 0, .string ⟨#[]⟩, .int .i64 0, .int .i64 0] 31)).alloc o).drew.heap.size ((X.alloc (.cells #[.int .i64 0, .string ⟨#[]⟩, .slice none 0 0, .string ⟨#[]⟩, .int .i64 0, .int .i64 0] 31)).alloc o).drew W) :
    EvBlock W X.heap.size (.int .i64 0) (.string ⟨#[]⟩) (.slice none 0 0) (.string ⟨#[]⟩) (.int .i64 0) (.int .i64 0) :=
  (((EvBlock.new X (.int .i64 0) (.string ⟨#[]⟩) (.slice none 0 0) (.string ⟨#[]⟩) (.int .i64 0) (.int .i64 0)).alloc o).drew).below hb
theorem ev_at2 {X W : World} {o : Obj} (hb : Below ((X.alloc o).alloc (.cells #[.int .i64 0, .string ⟨#[]⟩, .slice none 0 0, .string ⟨#[]⟩, .int .i64 0, .int .i64 0] 31)).drew.heap.size ((X.alloc o).alloc (.cells #[.int .i64 0, .string ⟨#[]⟩, .slice none 0 0, .string ⟨#[]⟩, .int .i64 0, .int .i64 0] 31)).drew W) :
    EvBlock W (X.heap.size + 1) (.int .i64 0) (.string ⟨#[]⟩) (.slice none 0 0) (.string ⟨#[]⟩) (.int .i64 0) (.int .i64 0) := by
  have h := ((EvBlock.new (X.alloc o) (.int .i64 0) (.string ⟨#[]⟩) (.slice none 0 0) (.string ⟨#[]⟩) (.int .i64 0) (.int .i64 0)).drew).below hb
  rwa [World.size_alloc] at h
theorem lt_two_new (X : World) (o o' : Obj) : X.heap.size < ((X.alloc o).alloc o').drew.heap.size ∧ X.heap.size + 1 < ((X.alloc o).alloc o').drew.heap.size := by
  show X.heap.size < ((X.alloc o).alloc o').heap.size ∧ X.heap.size + 1 < ((X.alloc o).alloc o').heap.size
  rw [World.size_alloc, World.size_alloc]; omega
theorem spans_kt : ∀ i, i < 12 → spanAt i 1 ≤ 20 ∧ spanAt i 5 ≤ 20 := under12 (by decide) (by decide) (by decide) (by decide) (by decide) (by decide) (by decide) (by decide) (by decide) (by decide) (by decide) (by decide)
theorem valid_lens {ev : Ev} (h : validB ev = true) : ev.keys.length ≤ 20 ∧ ev.text.length ≤ 20 := by
  obtain ⟨i, hi, _, _, hf⟩ := validB_kind h
  have h1 := (fitsB_true hf).1
  rw [size_B, size_B] at h1
  have := spans_kt i hi
  omega
theorem same_zero (W : World) : Calls Tryd.prog 14 #[.agg #[.int .i64 0, .string ⟨#[]⟩, .slice none 0 0, .string ⟨#[]⟩, .int .i64 0, .int .i64 0], .agg #[.int .i64 0, .string ⟨#[]⟩, .slice none 0 0, .string ⟨#[]⟩, .int .i64 0, .int .i64 0]] W fun e w' => e = .returned (.bool true) ∧ Below W.heap.size W w' :=
by
  have := same_evs Ev.zero Ev.zero none none 0 0 W (pts_nil _ _) (pts_nil _ _) (by decide)
  rw [sameB_self] at this
  exact this

set_option maxHeartbeats 2000000 in
set_option maxRecDepth 100000 in
theorem parses_any (mx k1 n1 m1 : Int) (la1 pa1 : Option Addr) (ln1 lc1 pn1 pc1 : Nat) (s : List UInt8) (u : UInt8) (w : World) (hT : PowTab w) (hm : MaxVar w mx) (hw0 : 0 < w.heap.size)
    (hx : RawAt w w.heap.size (.agg #[.int .u8 k1, .slice la1 ln1 lc1, .slice pa1 pn1 pc1, .int .u8 n1, .int .u8 m1])) (hs : s.length ≤ 60) :
    Calls Tryd.prog 6 #[.agg #[.int .u8 k1, .slice la1 ln1 lc1, .slice pa1 pn1 pc1, .int .u8 n1, .int .u8 m1], .string (B s), .int .u8 (u.toNat : Int)] w fun e w' => e = .returned (.bool true) ∧ Below w.heap.size w w' := by
  have hA : Below w.heap.size w (w.alloc (.cells #[.int .u8 k1, .slice la1 ln1 lc1, .slice pa1 pn1 pc1, .int .u8 n1, .int .u8 m1] 25)) := (Below.refl _ _).alloc (Nat.le_refl _) _
  have R1a : RwBlock (w.alloc (.cells #[.int .u8 k1, .slice la1 ln1 lc1, .slice pa1 pn1 pc1, .int .u8 n1, .int .u8 m1] 25)) w.heap.size k1 (.slice la1 ln1 lc1) (.slice pa1 pn1 pc1) n1 m1 := RwBlock.new w _ _ _ _ _
  have C0 := Lib.hid (sanity_any mx (w.alloc (.cells #[.int .u8 k1, .slice la1 ln1 lc1, .slice pa1 pn1 pc1, .int .u8 n1, .int .u8 m1] 25)) (hT.below hA) (hm.below hA hw0) (Nat.lt_of_lt_of_le hw0 hA.size))
  have T := Lib.hid (hT.below hA)
  have X1 := Lib.hid (hx.into hA)
  have R1 := Lib.hid R1a
  have HA := Lib.hid hA
  have hss : (B s).size ≤ 60 := by rw [size_B]; exact hs
  clear hA R1a hT hm hw0 hx
  go_enter Tryd.func6, Tryd.ntmps6
  go_wp2_with fail
  generalize (w.alloc (.cells #[.int .u8 k1, .slice la1 ln1 lc1, .slice pa1 pn1 pc1, .int .u8 n1, .int .u8 m1] 25)) = w2 at *
  refine (C0.out).mono ?_
  rintro e x0 ⟨rfl, hb⟩
  have T0 := Lib.hid (T.out.below hb)
  have X0 := Lib.hid (X1.out.into hb)
  have R10 := R1.out.below hb
  have H0 := Lib.hid (HA.out.trans (hb.mono HA.out.size))
  clear hb C0 T X1 R1 HA
  obtain ⟨r0, r1, r2, r3, r4⟩ := R10.cells
  clear R10
  go_wp2_with fail
  clear r0 r1 r2 r3 r4
  refine (made_raw _ _ X0.out).mono ?_
  rintro e x1 ⟨⟨ev1, a1, c1, rfl, hv1, hP⟩, hb⟩
  have hv1' := Lib.hid hv1
  have T1 := Lib.hid (T0.out.below hb)
  have H1 := Lib.hid (H0.out.trans (hb.mono H0.out.size))
  have P1 := Lib.hid hP.pts
  clear hb hP hv1 T0 X0 H0
  unfold evVal
  go_wp2_with fail
  refine (print_ev ev1 hv1'.out a1 c1 _ P1.out T1.out).mono ?_
  rintro e x2 ⟨rfl, hb⟩
  have T2 := Lib.hid (T1.out.below hb)
  have H2 := Lib.hid (H1.out.trans (hb.mono H1.out.size))
  have ht := printS_len hv1'.out
  generalize printS ev1 = t at *
  clear hb T1 H1 P1 hv1'
  go_wp2_with fail
  have hal := below_alloc x2 (.cells #[.string (B s), .string (B t)] 9)
  have T3 := Lib.hid (T2.out.below hal)
  have H3 := Lib.hid (H2.out.trans (hal.mono H2.out.size))
  have L3 := Lib.hid (show TwoAt (x2.alloc (.cells #[.string (B s), .string (B t)] 9)) x2.heap.size s t from heap_alloc_new x2 _)
  clear hal T2 H2
  generalize x2.alloc (.cells #[.string (B s), .string (B t)] 9) = x3 at *
  go_loopw [9] (fun i wr => ∃ j : Nat, i = .int .i64 j ∧ j ≤ 2 ∧ TwoAt wr x2.heap.size s t ∧ PowTab wr ∧ Below w.heap.size w wr) (fun i _ => 2 - (intOf i).toNat)
  case atStart => exact ⟨0, rfl, Nat.zero_le _, L3.out, T3.out, H3.out⟩
  case round =>
    obtain ⟨j, rfl, hj2, hTw, hPw, hBw⟩ := hrel
    by_cases hj : (j : Int) < 2
    · obtain ⟨q, hq, hql⟩ : ∃ q, wr.cell? ⟨x2.heap.size, j, none⟩ = some (.string (B q)) ∧ q.length ≤ 206 := by
        rcases (show j = 0 ∨ j = 1 by omega) with rfl | rfl
        · exact ⟨s, hTw.cells.1, by omega⟩
        · exact ⟨t, hTw.cells.2, ht⟩
      have hj0 : (0 : Int) ≤ (j : Int) := by omega
      have LW := Lib.hid hTw
      have TW := Lib.hid hPw
      have HW := Lib.hid hBw
      clear hTw hPw hBw L3 T3 H3
      cases hp : parseS q with
      | none =>
        have C := Lib.hid (parse_bad q hp (by omega) wr)
        clear hp
        go_wp2_with fail
        refine (C.out).mono ?_
        rintro e y ⟨rfl, hb⟩
        have hal := below_alloc y (.cells #[.int .i64 0, .string ⟨#[]⟩, .slice none 0 0, .string ⟨#[]⟩, .int .i64 0, .int .i64 0] 31)
        have L1 := Lib.hid ((LW.out.below hb).below hal)
        have T1 := Lib.hid ((TW.out.below hb).below hal)
        have H1 := Lib.hid ((HW.out.trans (hb.mono HW.out.size)).trans (hal.mono (Nat.le_trans HW.out.size hb.size)))
        have E1 := EvBlock.new y (.int .i64 0) (.string ⟨#[]⟩) (.slice none 0 0) (.string ⟨#[]⟩) (.int .i64 0) (.int .i64 0)
        obtain ⟨g0, g1, g2, g3, g4, g5⟩ := E1.cells
        clear hb hal C LW TW HW E1
        go_wp2_with fail
        refine (same_zero _).mono ?_
        rintro e z ⟨rfl, hb⟩
        have L5 := Lib.hid (L1.out.below hb)
        have T5 := Lib.hid (T1.out.below hb)
        have H5 := Lib.hid (H1.out.trans (hb.mono H1.out.size))
        clear hb L1 T1 H1 g0 g1 g2 g3 g4 g5
        go_wp2_with fail
        go_roundw
        case rel => exact ⟨j + 1, by go_num, by omega, L5.out, T5.out, H5.out⟩
        case measure => simp [intOf]; omega
      | some ev =>
        obtain ⟨hv, hpq⟩ := parse_back hp
        have C := Lib.hid (parse_good q ev hp (by omega) wr)
        have HP := Lib.hid hp
        have HV := Lib.hid hv
        have HQ := Lib.hid hpq
        have hbl : x2.heap.size < wr.heap.size := lt_of_heap LW.out
        clear hp hv hpq
        go_wp2_with fail
        refine (C.out).mono ?_
        rintro e x4 ⟨⟨a3, c3, rfl, hP⟩, hb⟩
        have hal := below_alloc x4 (.cells #[.int .i64 ev.kind, .string (B ev.keys), .slice a3 ev.p.length c3, .string (B ev.text), .int .i64 ev.n, .int .i64 ev.l] 31)
        have L1 := Lib.hid ((LW.out.below hb).below hal)
        have T1 := Lib.hid ((TW.out.below hb).below hal)
        have H1 := Lib.hid ((HW.out.trans (hb.mono HW.out.size)).trans (hal.mono (Nat.le_trans HW.out.size hb.size)))
        have E1 := Lib.hid (EvBlock.new x4 (.int .i64 ev.kind) (.string (B ev.keys)) (.slice a3 ev.p.length c3) (.string (B ev.text)) (.int .i64 ev.n) (.int .i64 ev.l))
        have P1 := Lib.hid (hP.on hal)
        have Q1 := Lib.hid (((hb.trans (hal.mono hb.size)).cell (p := ⟨x2.heap.size, j, none⟩) hbl).trans hq)
        have hbl2 : x2.heap.size < (x4.alloc (.cells #[.int .i64 ev.kind, .string (B ev.keys), .slice a3 ev.p.length c3, .string (B ev.text), .int .i64 ev.n, .int .i64 ev.l] 31)).heap.size := Nat.lt_of_lt_of_le hbl (Nat.le_trans hb.size hal.size)
        clear hb hal hP C LW TW HW hq hbl
        go_wp2_with fail
        generalize x4.alloc (.cells #[.int .i64 ev.kind, .string (B ev.keys), .slice a3 ev.p.length c3, .string (B ev.text), .int .i64 ev.n, .int .i64 ev.l] 31) = x5 at *
        have CJ : ∀ W, Below x5.heap.size x5 W → Hid (W.cell? ⟨x4.heap.size, 0, none⟩ = some (.int .i64 ev.kind) ∧ W.cell? ⟨x4.heap.size, 1, none⟩ = some (.string (B ev.keys)) ∧ W.cell? ⟨x4.heap.size, 2, none⟩ = some (.slice a3 ev.p.length c3) ∧ W.cell? ⟨x4.heap.size, 3, none⟩ = some (.string (B ev.text)) ∧ W.cell? ⟨x4.heap.size, 4, none⟩ = some (.int .i64 ev.n) ∧ W.cell? ⟨x4.heap.size, 5, none⟩ = some (.int .i64 ev.l) ∧ W.cell? ⟨x2.heap.size, j, none⟩ = some (.string (B q)) ∧ Below x5.heap.size x5 W) := fun W hb => by
          obtain ⟨u0, u1, u2, u3, u4, u5⟩ := (E1.out.below hb).cells
          exact Lib.hid ⟨u0, u1, u2, u3, u4, u5, (hb.cell (p := ⟨x2.heap.size, j, none⟩) hbl2).trans Q1.out, hb⟩
        have CV : ∀ W, (W.cell? ⟨x4.heap.size, 0, none⟩ = some (.int .i64 ev.kind) ∧ W.cell? ⟨x4.heap.size, 1, none⟩ = some (.string (B ev.keys)) ∧ W.cell? ⟨x4.heap.size, 2, none⟩ = some (.slice a3 ev.p.length c3) ∧ W.cell? ⟨x4.heap.size, 3, none⟩ = some (.string (B ev.text)) ∧ W.cell? ⟨x4.heap.size, 4, none⟩ = some (.int .i64 ev.n) ∧ W.cell? ⟨x4.heap.size, 5, none⟩ = some (.int .i64 ev.l) ∧ W.cell? ⟨x2.heap.size, j, none⟩ = some (.string (B q)) ∧ Below x5.heap.size x5 W) → Hid (Calls Tryd.prog 17 #[evV ev a3 c3] W fun e w' => e = .returned (.bool true) ∧ w'.cell? ⟨x4.heap.size, 0, none⟩ = some (.int .i64 ev.kind) ∧ w'.cell? ⟨x4.heap.size, 1, none⟩ = some (.string (B ev.keys)) ∧ w'.cell? ⟨x4.heap.size, 2, none⟩ = some (.slice a3 ev.p.length c3) ∧ w'.cell? ⟨x4.heap.size, 3, none⟩ = some (.string (B ev.text)) ∧ w'.cell? ⟨x4.heap.size, 4, none⟩ = some (.int .i64 ev.n) ∧ w'.cell? ⟨x4.heap.size, 5, none⟩ = some (.int .i64 ev.l) ∧ w'.cell? ⟨x2.heap.size, j, none⟩ = some (.string (B q)) ∧ Below x5.heap.size x5 w') := fun W h => by
          obtain ⟨-, -, -, -, -, -, -, hb⟩ := h
          refine Lib.hid ((RValid_any ev.kind ev.keys a3 c3 ev.p ev.text ev.n ev.l W (P1.out.on hb) (by have := valid_pts HV.out; omega) (by have := valid_lens HV.out; omega) (by have := valid_lens HV.out; omega)).mono ?_)
          rintro e w' ⟨rfl, hb'⟩
          rw [show validB ⟨ev.kind, ev.keys, ev.p, ev.text, ev.n, ev.l⟩ = true from HV.out]
          exact ⟨rfl, (CJ w' (hb.trans (hb'.mono hb.size))).out⟩
        have CP : ∀ W, (W.cell? ⟨x4.heap.size, 0, none⟩ = some (.int .i64 ev.kind) ∧ W.cell? ⟨x4.heap.size, 1, none⟩ = some (.string (B ev.keys)) ∧ W.cell? ⟨x4.heap.size, 2, none⟩ = some (.slice a3 ev.p.length c3) ∧ W.cell? ⟨x4.heap.size, 3, none⟩ = some (.string (B ev.text)) ∧ W.cell? ⟨x4.heap.size, 4, none⟩ = some (.int .i64 ev.n) ∧ W.cell? ⟨x4.heap.size, 5, none⟩ = some (.int .i64 ev.l) ∧ W.cell? ⟨x2.heap.size, j, none⟩ = some (.string (B q)) ∧ Below x5.heap.size x5 W) → Hid (Calls Tryd.prog 15 #[evV ev a3 c3] W fun e w' => e = .returned (.string (B q)) ∧ w'.cell? ⟨x4.heap.size, 0, none⟩ = some (.int .i64 ev.kind) ∧ w'.cell? ⟨x4.heap.size, 1, none⟩ = some (.string (B ev.keys)) ∧ w'.cell? ⟨x4.heap.size, 2, none⟩ = some (.slice a3 ev.p.length c3) ∧ w'.cell? ⟨x4.heap.size, 3, none⟩ = some (.string (B ev.text)) ∧ w'.cell? ⟨x4.heap.size, 4, none⟩ = some (.int .i64 ev.n) ∧ w'.cell? ⟨x4.heap.size, 5, none⟩ = some (.int .i64 ev.l) ∧ w'.cell? ⟨x2.heap.size, j, none⟩ = some (.string (B q)) ∧ Below x5.heap.size x5 w') := fun W h => by
          obtain ⟨-, -, -, -, -, -, -, hb⟩ := h
          refine Lib.hid ((print_ev ev HV.out a3 c3 W (P1.out.on hb) (T1.out.below hb)).mono ?_)
          rintro e w' ⟨rfl, hb'⟩
          rw [HQ.out]
          exact ⟨rfl, (CJ w' (hb.trans (hb'.mono hb.size))).out⟩
        obtain ⟨u0, u1, u2, u3, u4, u5, u6', hb5⟩ := (CJ x5 (Below.refl _ _)).out
        go_region_held3 (fun W => W.cell? ⟨x4.heap.size, 0, none⟩ = some (.int .i64 ev.kind) ∧ W.cell? ⟨x4.heap.size, 1, none⟩ = some (.string (B ev.keys)) ∧ W.cell? ⟨x4.heap.size, 2, none⟩ = some (.slice a3 ev.p.length c3) ∧ W.cell? ⟨x4.heap.size, 3, none⟩ = some (.string (B ev.text)) ∧ W.cell? ⟨x4.heap.size, 4, none⟩ = some (.int .i64 ev.n) ∧ W.cell? ⟨x4.heap.size, 5, none⟩ = some (.int .i64 ev.l) ∧ W.cell? ⟨x2.heap.size, j, none⟩ = some (.string (B q)) ∧ Below x5.heap.size x5 W) (first | assumption | exact Below.drew (by assumption) | (refine ⟨?_, ?_, ?_, ?_, ?_, ?_, ?_, ?_⟩ <;> first | assumption | exact Below.drew (by assumption)))
          (first
            | (go_at_call 17; refine ((CV _ ?_).out).mono ?_; (assumption); rintro e w' ⟨rfl, hcj⟩)
            | (go_at_call 15; refine ((CP _ ?_).out).mono ?_; (assumption); rintro e w' ⟨rfl, hcj⟩))
        clear CV CP u0 u1 u2 u3 u4 u5 u6' hb5
        obtain ⟨-, -, -, -, -, -, hq6, hb6⟩ := hcj
        have L6 := Lib.hid (L1.out.below hb6)
        have T6 := Lib.hid (T1.out.below hb6)
        have H6 := Lib.hid (H1.out.trans (hb6.mono H1.out.size))
        have E6 := Lib.hid (E1.out.below hb6)
        have P6 := Lib.hid (P1.out.on hb6)
        clear CJ L1 T1 H1 E1 P1 Q1
        have hbl6 : x2.heap.size < w'.heap.size := Nat.lt_of_lt_of_le hbl2 hb6.size
        clear hb6 hbl2
        have hqs : (B q).size ≤ 206 := by rw [size_B]; exact hql
        go_wp2_with fail
        generalize w' = x6 at *
        have hus : (B [u]).size ≤ 1 := by rw [size_B]; exact Nat.le_refl _
        have CK : ∀ W, Below x6.heap.size x6 W → (W.cell? ⟨x2.heap.size, j, none⟩ = some (.string (B q)) ∧ Below x6.heap.size x6 W) := fun W hb => ⟨(hb.cell (p := ⟨x2.heap.size, j, none⟩) hbl6).trans hq6, hb⟩
        have HC : ∀ (g : Nat) (W : World), W.cell? ⟨g, 0, none⟩ = some (.int .u8 (u.toNat : Int)) → (convert 22 9 (.slice (some ⟨g, 0, none⟩) 1 1)).run Tryd.prog W = .ok (.string (B [u])) W := conv_any u
        have CA : ∀ W, (W.cell? ⟨x2.heap.size, j, none⟩ = some (.string (B q)) ∧ Below x6.heap.size x6 W) → Hid (Calls Tryd.prog 12 #[.string (B q ++ B [u])] W fun e w' => ∃ e2 a2 c2 r, e = .returned (.tuple #[evV e2 a2 c2, .int .i64 r]) ∧ OwnsP w' W.heap.size (.slice a2 e2.p.length c2) e2.p ∧ (r = 0 ∨ r = 3) ∧ (r = 0 → sameB ev e2 = false) ∧ Below W.heap.size W w' ∧ (w'.cell? ⟨x2.heap.size, j, none⟩ = some (.string (B q)) ∧ Below x6.heap.size x6 w')) := fun W h => by
          refine Lib.hid ?_
          rw [B_app]
          refine (parse_try q (q ++ [u]) ev HP.out (fun h => by simpa using congrArg List.length h) (by simp; omega) W).mono ?_
          rintro e w' ⟨e2, a2, c2, r, rfl, h1, h2, h3, h4⟩
          exact ⟨e2, a2, c2, r, rfl, h1, h2, h3, h4, CK _ (h.2.trans (h4.mono h.2.size))⟩
        have hb60 := Below.refl x6.heap.size x6
        have hs14 : ¬ 9223372036854775807 < (B q).size + (B [u]).size := by omega
        go_upto_region 14 with fail
        go_cut [12, 13] (fun p g wx => ∃ b e2 a2 c2 r, p = .pointer (some ⟨b, 0, none⟩) ∧ g = .int .i64 r ∧ EvBlock wx b (.int .i64 e2.kind) (.string (B e2.keys)) (.slice a2 e2.p.length c2) (.string (B e2.text)) (.int .i64 e2.n) (.int .i64 e2.l) ∧ PtsAt wx wx.heap.size (.slice a2 e2.p.length c2) e2.p ∧ (r = 0 ∨ r = 3) ∧ (r = 0 → sameB ev e2 = false) ∧ Below x6.heap.size x6 wx)
        case first =>
          go_region_held (fun W => W.cell? ⟨x2.heap.size, j, none⟩ = some (.string (B q)) ∧ Below x6.heap.size x6 W) (first
              | (with_reducible assumption)
              | (refine CK _ ?_; repeat' first
                | (with_reducible assumption)
                | (with_reducible refine Below.drew ?_)
                | (with_reducible refine below_al ?_)
                | (with_reducible refine Below.setCell ?_ ?_ _)
                | (simp; done)
                | (simp; omega)))
            (first
              | (go_at_call 12; refine ((CA _ ?_).out).mono ?_; (assumption); rintro e w' ⟨e2, a2, c2, r, rfl, hz1, hz2, hz3, hz4, hcc, hcb⟩; (have hfr := fun g off (h : g < _) => hz4.cell (p := ⟨g, off, none⟩) h); (have hfz := fun g off (h : g < _) => hz4.frozen (p := ⟨g, off, none⟩) h)))
          all_goals
            go_wp2_with fail
            go_meet
            first
              | (with_reducible (have hz := ev_at1 hz4); have hse := sets_end (v0 := .int .i64 e2.kind) (v1 := .string (B e2.keys)) (v3 := .string (B e2.text)) (v4 := .int .i64 e2.n) (v5 := .int .i64 e2.l) hz hz1 (lt_two_new _ _ _).1 hcb (Nat.le_refl _); exact ⟨_, e2, a2, c2, r, rfl, rfl, hse.1, hse.2.1, hz2, hz3, hse.2.2⟩)
              | (with_reducible (have hz := ev_at2 hz4); have hse := sets_end (v0 := .int .i64 e2.kind) (v1 := .string (B e2.keys)) (v3 := .string (B e2.text)) (v4 := .int .i64 e2.n) (v5 := .int .i64 e2.l) hz hz1 (lt_two_new _ _ _).2 hcb (Nat.le_succ _); exact ⟨_, e2, a2, c2, r, rfl, rfl, hse.1, hse.2.1, hz2, hz3, hse.2.2⟩)
              | exact ⟨_, e2, a2, c2, r, rfl, rfl, EvBlock.new w' _ _ _ _ _ _, hz1.pts.on (below_alloc w' _), hz2, hz3, below_al hcb⟩
        case rest =>
          obtain ⟨b1, e3, a4, c4, r1, rfl, rfl, hE3, hP3, hr1, hr1', hb7⟩ := hcut
          clear CK CA HC hs14 hb60
          generalize wc = x7 at *
          have L7 := Lib.hid (L6.out.below hb7)
          have T7 := Lib.hid (T6.out.below hb7)
          have H7 := Lib.hid (H6.out.trans (hb7.mono H6.out.size))
          have E7 := Lib.hid (E6.out.below hb7)
          have P7 := Lib.hid (P6.out.on hb7)
          have E37 := Lib.hid hE3
          have P37 := Lib.hid hP3
          have hR1 := Lib.hid hr1
          have hR1' := Lib.hid hr1'
          have hq7 := (hb7.cell (p := ⟨x2.heap.size, j, none⟩) hbl6).trans hq6
          have hbl7 : x2.heap.size < x7.heap.size := Nat.lt_of_lt_of_le hbl6 hb7.size
          clear hE3 hP3 hr1 hr1' hb7 L6 T6 H6 E6 P6 hq6 hbl6
          have CK : ∀ W, Below x7.heap.size x7 W → (W.cell? ⟨x2.heap.size, j, none⟩ = some (.string (B q)) ∧ Below x7.heap.size x7 W) := fun W hb => ⟨(hb.cell (p := ⟨x2.heap.size, j, none⟩) hbl7).trans hq7, hb⟩
          have HC : ∀ (g : Nat) (W : World), W.cell? ⟨g, 0, none⟩ = some (.int .u8 (u.toNat : Int)) → (convert 22 9 (.slice (some ⟨g, 0, none⟩) 1 1)).run Tryd.prog W = .ok (.string (B [u])) W := conv_any u
          have CA : ∀ W, (W.cell? ⟨x2.heap.size, j, none⟩ = some (.string (B q)) ∧ Below x7.heap.size x7 W) → Hid (Calls Tryd.prog 12 #[.string (B [u] ++ B q)] W fun e w' => ∃ e2 a2 c2 r, e = .returned (.tuple #[evV e2 a2 c2, .int .i64 r]) ∧ OwnsP w' W.heap.size (.slice a2 e2.p.length c2) e2.p ∧ (r = 0 ∨ r = 3) ∧ (r = 0 → sameB ev e2 = false) ∧ Below W.heap.size W w' ∧ (w'.cell? ⟨x2.heap.size, j, none⟩ = some (.string (B q)) ∧ Below x7.heap.size x7 w')) := fun W h => by
            refine Lib.hid ?_
            rw [B_app]
            refine (parse_try q ([u] ++ q) ev HP.out (fun h => by simpa using congrArg List.length h) (by simp; omega) W).mono ?_
            rintro e w' ⟨e2, a2, c2, r, rfl, h1, h2, h3, h4⟩
            exact ⟨e2, a2, c2, r, rfl, h1, h2, h3, h4, CK _ (h.2.trans (h4.mono h.2.size))⟩
          have hb70 := Below.refl x7.heap.size x7
          have hs15 : ¬ 9223372036854775807 < (B [u]).size + (B q).size := by omega
          go_upto_region 15 with fail
          go_cut [14, 15] (fun p g wx => ∃ b e2 a2 c2 r, p = .pointer (some ⟨b, 0, none⟩) ∧ g = .int .i64 r ∧ EvBlock wx b (.int .i64 e2.kind) (.string (B e2.keys)) (.slice a2 e2.p.length c2) (.string (B e2.text)) (.int .i64 e2.n) (.int .i64 e2.l) ∧ PtsAt wx wx.heap.size (.slice a2 e2.p.length c2) e2.p ∧ (r = 0 ∨ r = 3) ∧ (r = 0 → sameB ev e2 = false) ∧ Below x7.heap.size x7 wx)
          case first =>
            go_region_held (fun W => W.cell? ⟨x2.heap.size, j, none⟩ = some (.string (B q)) ∧ Below x7.heap.size x7 W) (first
                | (with_reducible assumption)
                | (refine CK _ ?_; repeat' first
                  | (with_reducible assumption)
                  | (with_reducible refine Below.drew ?_)
                  | (with_reducible refine below_al ?_)
                  | (with_reducible refine Below.setCell ?_ ?_ _)
                  | (simp; done)
                  | (simp; omega)))
              (first
                | (go_at_call 12; refine ((CA _ ?_).out).mono ?_; (assumption); rintro e w' ⟨e2, a2, c2, r, rfl, hz1, hz2, hz3, hz4, hcc, hcb⟩; (have hfr := fun g off (h : g < _) => hz4.cell (p := ⟨g, off, none⟩) h); (have hfz := fun g off (h : g < _) => hz4.frozen (p := ⟨g, off, none⟩) h)))
            all_goals
              go_wp2_with fail
              go_meet
              first
                | (with_reducible (have hz := ev_at1 hz4); have hse := sets_end (v0 := .int .i64 e2.kind) (v1 := .string (B e2.keys)) (v3 := .string (B e2.text)) (v4 := .int .i64 e2.n) (v5 := .int .i64 e2.l) hz hz1 (lt_two_new _ _ _).1 hcb (Nat.le_refl _); exact ⟨_, e2, a2, c2, r, rfl, rfl, hse.1, hse.2.1, hz2, hz3, hse.2.2⟩)
                | (with_reducible (have hz := ev_at2 hz4); have hse := sets_end (v0 := .int .i64 e2.kind) (v1 := .string (B e2.keys)) (v3 := .string (B e2.text)) (v4 := .int .i64 e2.n) (v5 := .int .i64 e2.l) hz hz1 (lt_two_new _ _ _).2 hcb (Nat.le_succ _); exact ⟨_, e2, a2, c2, r, rfl, rfl, hse.1, hse.2.1, hz2, hz3, hse.2.2⟩)
                | exact ⟨_, e2, a2, c2, r, rfl, rfl, EvBlock.new w' _ _ _ _ _ _, hz1.pts.on (below_alloc w' _), hz2, hz3, below_al hcb⟩
          case rest =>
            obtain ⟨b2, e5, a5, c5, r2, rfl, rfl, hE5, hP5, hr2, hr2', hb8⟩ := hcut
            clear CK CA HC hs15 hb70
            generalize wc = x8 at *
            have L8 := Lib.hid (L7.out.below hb8)
            have T8 := Lib.hid (T7.out.below hb8)
            have H8 := Lib.hid (H7.out.trans (hb8.mono H7.out.size))
            have P8 := Lib.hid (P7.out.on hb8)
            have P38 := Lib.hid (P37.out.on hb8)
            have P58 := Lib.hid hP5
            obtain ⟨u0, u1, u2, u3, u4, u5⟩ := (E7.out.below hb8).cells
            obtain ⟨v0, v1, v2, v3, v4, v5⟩ := (E37.out.below hb8).cells
            obtain ⟨s0, s1, s2, s3, s4, s5⟩ := hE5.cells
            have E58 := Lib.hid hE5
            have E78 := Lib.hid (E7.out.below hb8)
            have hml : ev.p.length ≤ 1000 := by have := valid_pts HV.out; omega
            clear hE5 hP5 hb8 L7 T7 H7 P7 P37 E7 E37 hq7 hbl7 hql hqs hus
            have hr1 := hR1.out
            have hr1' := hR1'.out
            clear hR1 hR1'
            have CS1 : r1 = 0 → Hid (Calls Tryd.prog 14 #[evV ev a3 c3, evV e3 a4 c4] x8 fun e w' => e = .returned (.bool false) ∧ Below x8.heap.size x8 w') := fun h => by
              have := same_evs ev e3 a3 a4 c3 c4 x8 P8.out P38.out hml
              rw [hr1' h] at this
              exact Lib.hid this
            have CS2 : ∀ W, r2 = 0 → Below x8.heap.size x8 W → Hid (Calls Tryd.prog 14 #[evV ev a3 c3, evV e5 a5 c5] W fun e w' => e = .returned (.bool false) ∧ Below W.heap.size W w') := fun W h hb => by
              have := same_evs ev e5 a3 a5 c3 c5 W (P8.out.on hb) (P58.out.on hb) hml
              rw [hr2' h] at this
              exact Lib.hid this
            clear P8 P38 P58 hr1' hr2' hml HV HP HQ
            rcases hr1 with rfl | rfl
            · have CS1' := CS1 rfl
              clear CS1
              rcases hr2 with rfl | rfl
              · have CS2' := fun W hb => CS2 W rfl hb
                clear CS2
                go_wp2_with fail
                refine (CS1'.out).mono ?_
                rintro e y ⟨rfl, hb⟩
                obtain ⟨a0, a1, a2', a3', a4', a5'⟩ := (E78.out.below hb).cells
                obtain ⟨d0, d1, d2, d3, d4, d5⟩ := (E58.out.below hb).cells
                have L9 := Lib.hid (L8.out.below hb)
                have T9 := Lib.hid (T8.out.below hb)
                have H9 := Lib.hid (H8.out.trans (hb.mono H8.out.size))
                have CS2'' := CS2' y hb
                clear hb CS1' CS2' u0 u1 u2 u3 u4 u5 v0 v1 v2 v3 v4 v5 s0 s1 s2 s3 s4 s5 L8 T8 H8 E58 E78
                go_wp2_with fail
                refine (CS2''.out).mono ?_
                rintro e z ⟨rfl, hb⟩
                have L10 := Lib.hid (L9.out.below hb)
                have T10 := Lib.hid (T9.out.below hb)
                have H10 := Lib.hid (H9.out.trans (hb.mono H9.out.size))
                clear hb CS2'' a0 a1 a2' a3' a4' a5' d0 d1 d2 d3 d4 d5 L9 T9 H9
                go_wp2_with fail
                go_roundw
                case rel => exact ⟨j + 1, by go_num, by omega, L10.out, T10.out, H10.out⟩
                case measure => simp [intOf]; omega
              · clear CS2
                go_wp2_with fail
                refine (CS1'.out).mono ?_
                rintro e y ⟨rfl, hb⟩
                have L9 := Lib.hid (L8.out.below hb)
                have T9 := Lib.hid (T8.out.below hb)
                have H9 := Lib.hid (H8.out.trans (hb.mono H8.out.size))
                clear hb CS1' u0 u1 u2 u3 u4 u5 v0 v1 v2 v3 v4 v5 s0 s1 s2 s3 s4 s5 L8 T8 H8 E58 E78
                go_wp2_with fail
                go_roundw
                case rel => exact ⟨j + 1, by go_num, by omega, L9.out, T9.out, H9.out⟩
                case measure => simp [intOf]; omega
            · clear CS1
              rcases hr2 with rfl | rfl
              · have CS2' := CS2 x8 rfl (Below.refl _ _)
                clear CS2
                go_wp2_with fail
                refine (CS2'.out).mono ?_
                rintro e y ⟨rfl, hb⟩
                have L9 := Lib.hid (L8.out.below hb)
                have T9 := Lib.hid (T8.out.below hb)
                have H9 := Lib.hid (H8.out.trans (hb.mono H8.out.size))
                clear hb CS2' u0 u1 u2 u3 u4 u5 v0 v1 v2 v3 v4 v5 s0 s1 s2 s3 s4 s5 L8 T8 H8 E58 E78
                go_wp2_with fail
                go_roundw
                case rel => exact ⟨j + 1, by go_num, by omega, L9.out, T9.out, H9.out⟩
                case measure => simp [intOf]; omega
              · clear CS2 u0 u1 u2 u3 u4 u5 v0 v1 v2 v3 v4 v5 s0 s1 s2 s3 s4 s5
                go_wp2_with fail
                go_roundw
                case rel => exact ⟨j + 1, by go_num, by omega, L8.out, T8.out, H8.out⟩
                case measure => simp [intOf]; omega
    · have hnk : ¬ (j : Int) < 2 := hj
      go_wp2_with fail
      go_ret
      exact ⟨rfl, hBw⟩
end Go.Proofs.YtcbboegjegobeaaDoor
