/-
  Blocks as lists of cells; letters that are alike as pairs; puts and the function that it makes.
-/
import Derived.Test.YtadaijepalhohaaAF
import Derived.Laws.OwnMore
namespace Go.Proofs.Ytadaijepalhohaa
open Go.RowKit
open Pl

/-- A block of these cells. -/
def Blk (W : World) (b : Nat) (t : TypeId) (vs : List Value) : Prop := W.heap[b]? = some (.cells vs.toArray t (0, 0))
theorem Blk.new (W : World) (t : TypeId) (vs : List Value) : Blk (W.alloc (.cells vs.toArray t)) W.heap.size t vs := heap_alloc_new W _
theorem Blk.lt {W : World} {b : Nat} {t : TypeId} {vs : List Value} (h : Blk W b t vs) : b < W.heap.size := lt_of_heap h
theorem Blk.below {W W' : World} {b : Nat} {t : TypeId} {vs : List Value} (h : Blk W b t vs) (hb : Below W.heap.size W W') : Blk W' b t vs := by
  have hlt := lt_of_heap h
  unfold Blk at h ⊢; rw [hb.block b hlt]; exact h
theorem Blk.cell {W : World} {b : Nat} {t : TypeId} {vs : List Value} (h : Blk W b t vs) (i : Nat) : W.cell? ⟨b, i, none⟩ = vs[i]? := by
  unfold Blk at h
  simp [World.cell?, h]
theorem Blk.free {W : World} {b : Nat} {t : TypeId} {vs : List Value} (h : Blk W b t vs) (i : Nat) : W.frozen? ⟨b, i, none⟩ = false := by
  unfold Blk at h
  simp [World.frozen?, h]
theorem Blk.put {W : World} {b : Nat} {t : TypeId} {vs : List Value} (h : Blk W b t vs) (i : Nat) (v : Value) : Blk (W.setCell ⟨b, i, none⟩ v) b t (vs.set i v) := by
  unfold Blk at h ⊢
  rw [heap_setCell_same W b i _ _ _ h]
  simp
theorem Blk.setCell {W : World} {b b' o : Nat} {t : TypeId} {vs : List Value} {u : Value} (h : Blk W b t vs) (hne : b' ≠ b) : Blk (W.setCell ⟨b', o, none⟩ u) b t vs := by
  unfold Blk at h ⊢
  rw [heap_setCell_other W _ b _ (fun e => hne e.symm)]; exact h
theorem Blk.alloc {W : World} {b : Nat} {t : TypeId} {vs : List Value} (h : Blk W b t vs) (o : Obj) : Blk (W.alloc o) b t vs := h.below ((Below.refl _ _).alloc (Nat.le_refl _) o)
theorem SlBlock.alloc {W : World} {b : Nat} {s : Sl} {v : Value} (h : SlBlock W b s v) (o : Obj) : SlBlock (W.alloc o) b s v := h.below ((Below.refl _ _).alloc (Nat.le_refl _) o)
theorem SlBlock.setCell {W : World} {b b' o : Nat} {s : Sl} {v u : Value} (h : SlBlock W b s v) (hne : b' ≠ b) : SlBlock (W.setCell ⟨b', o, none⟩ u) b s v := by
  unfold SlBlock at h ⊢
  rw [heap_setCell_other W _ b _ (fun e => hne e.symm)]; exact h
/-- The first k pairs of the block bb are those of these letters. -/
def PairsBlk (W : World) (bb : Nat) (xs : List Al) (k : Nat) : Prop :=
  ∃ cs, Blk W bb 80 cs ∧ cs.length = xs.length * 2 ∧ ∀ i (_ : i < k) (h : i < xs.length), cs[i * 2]? = some (.int .u8 (min xs[i].a.toNat xs[i].b.toNat : Nat)) ∧ cs[i * 2 + 1]? = some (.int .u8 (max xs[i].a.toNat xs[i].b.toNat : Nat))
theorem PairsBlk.below {W W' : World} {bb : Nat} {xs : List Al} {k : Nat} (h : PairsBlk W bb xs k) (hb : Below W.heap.size W W') : PairsBlk W' bb xs k := by
  obtain ⟨cs, h1, h2⟩ := h
  exact ⟨cs, h1.below hb, h2⟩
theorem PairsBlk.put {W : World} {bb : Nat} {xs : List Al} {k : Nat} (h : PairsBlk W bb xs k) (hk : k < xs.length) : PairsBlk ((W.setCell ⟨bb, k * 2, none⟩ (.int .u8 (min xs[k].a.toNat xs[k].b.toNat : Nat))).setCell ⟨bb, k * 2 + 1, none⟩ (.int .u8 (max xs[k].a.toNat xs[k].b.toNat : Nat))) bb xs (k + 1) := by
  obtain ⟨cs, h1, h2, h3⟩ := h
  refine ⟨_, (h1.put _ _).put _ _, by simpa using h2, fun i hi h => ?_⟩
  rcases Nat.lt_or_ge i k with q | q
  · obtain ⟨e1, e2⟩ := h3 i q h
    rw [List.getElem?_set_ne (by omega), List.getElem?_set_ne (by omega), List.getElem?_set_ne (by omega), List.getElem?_set_ne (by omega)]
    exact ⟨e1, e2⟩
  · obtain rfl : i = k := by omega
    constructor
    · rw [List.getElem?_set_ne (by omega), List.getElem?_set_self (by omega)]
    · rw [List.getElem?_set_self (by rw [List.length_set]; omega)]
theorem made_list (z : Value) : ∀ n, madeCells #[z] n = (List.replicate n z).toArray := by
  intro n
  apply Array.toList_inj.1
  apply List.ext_getElem
  · simp [madeCells]
  · intro i h1 h2
    simp [madeCells, Nat.mod_one]
theorem make_pairs (n : Nat) (hn : n ≤ 1000000) (W : World) : ∃ cs : List Value, cs.length = n * 2 ∧ (Instr.makeSlice 82 (.int .i64 (n : Nat)) (.int .i64 (n : Nat))).run Try.prog W = .ok (.slice (some ⟨W.heap.size, 0, none⟩) n n) (W.alloc (.cells cs.toArray 80)) := by
  obtain ⟨i, hi, hz, hs, hb⟩ : ∃ i, Try.prog.info? 80 = some i ∧ i.zero = some (.agg #[.int .u8 0, .int .u8 0]) ∧ i.size = 2 ∧ i.bytes = 2 := ⟨_, rfl, by kernel_rfl, by kernel_rfl, by kernel_rfl⟩
  refine ⟨(madeCells (Value.agg #[.int .u8 0, .int .u8 0]).cells (n * 2)).toList, by rw [Array.length_toList, size_madeCells], ?_⟩
  have h := run_make (P := Try.prog) W 82 80 i _ Try.underlying82 hi hz .i64 .i64 n n (by omega) (Int.le_refl _) (by rw [hb]; omega) (by omega)
  rw [h, hs]
  simp
/-- The memory of the function that puts makes. -/
def PutsOk (W : World) (s : Sl) (a : Option Addr) (c bp bl : Nat) : Prop :=
  SlBlock W bl s (.slice a s.alike.length c) ∧ (∃ bb, Blk W bp 82 [.slice (some ⟨bb, 0, none⟩) s.alike.length s.alike.length] ∧ PairsBlk W bb s.alike s.alike.length) ∧ AlsAt W W.heap.size (.slice a s.alike.length c) s.alike
theorem PutsOk.below {W W' : World} {s : Sl} {a : Option Addr} {c bp bl : Nat} (h : PutsOk W s a c bp bl) (hb : Below W.heap.size W W') : PutsOk W' s a c bp bl := by
  obtain ⟨h1, ⟨bb, h2, h3⟩, h4⟩ := h
  exact ⟨h1.below hb, ⟨bb, h2.below hb, h3.below hb⟩, h4.on hb⟩
/-- What the loop of puts keeps. -/
def PuRel (w : World) (s : Sl) (v : Value) (bp bl bb k : Nat) (W : World) : Prop :=
  SlBlock W bl s v ∧ Blk W bp 82 [.slice (some ⟨bb, 0, none⟩) s.alike.length s.alike.length] ∧ PairsBlk W bb s.alike k ∧ Below w.heap.size w W
set_option maxHeartbeats 2000000 in
set_option maxRecDepth 100000 in
theorem puts_any (s : Sl) (a : Option Addr) (c : Nat) (w : World) (hx : AlsAt w w.heap.size (.slice a s.alike.length c) s.alike) (hl : s.alike.length ≤ 1000000) :
    Calls Try.prog 33 #[.agg #[.int .i64 s.swap, .int .i64 s.drop, .int .i64 s.add, .int .i64 s.put, .slice a s.alike.length c]] w fun e w' => ∃ bp bl, e = .returned (.func (.func 39) #[] #[.pointer (some ⟨bp, 0, none⟩), .pointer (some ⟨bl, 0, none⟩)]) ∧ PutsOk w' s a c bp bl ∧ Below w.heap.size w w' := by
  have b1 := (Below.refl w.heap.size w).alloc (Nat.le_refl _) (.cells #[.int .i64 s.swap, .int .i64 s.drop, .int .i64 s.add, .int .i64 s.put, .slice a s.alike.length c] 32)
  have SB := Lib.hid (SlBlock.new w s (.slice a s.alike.length c))
  have HX := Lib.hid hx
  have HB := Lib.hid b1
  have MK := fun W => Lib.hid (make_pairs s.alike.length hl W)
  clear hx b1
  go_enter Try.func33, Try.ntmps33
  go_upto_region 1 with fail
  generalize w.alloc _ = w1 at *
  obtain ⟨q0, q1, q2, q3, q4⟩ := SB.out.cells
  obtain ⟨cs, hcl, hmk⟩ := (MK w1).out
  have HCL := Lib.hid hcl
  clear MK hcl
  have PB := Blk.new w1 80 cs
  have PP := (Blk.new (w1.alloc (.cells cs.toArray 80)) 82 [.slice (some ⟨w1.heap.size, 0, none⟩) s.alike.length s.alike.length])
  rw [World.size_alloc] at PP
  have BA := (Below.refl w1.heap.size w1).alloc (Nat.le_refl _) (.cells cs.toArray 80)
  have BC := BA.alloc BA.size (.cells #[.slice (some ⟨w1.heap.size, 0, none⟩) s.alike.length s.alike.length] 82)
  have RR := Lib.hid (show PuRel w s (.slice a s.alike.length c) (w1.heap.size + 1) w.heap.size w1.heap.size 0 ((w1.alloc (.cells cs.toArray 80)).alloc (.cells #[.slice (some ⟨w1.heap.size, 0, none⟩) s.alike.length s.alike.length] 82)) from
    ⟨SB.out.below BC, PP, ⟨cs, PB.alloc _, HCL.out, fun i h => absurd h (Nat.not_lt_zero _)⟩, HB.out.trans (BC.mono HB.out.size)⟩)
  have HS1 := Lib.hid (show w.heap.size < w1.heap.size from SB.out.below (Below.refl _ _) |> fun h => lt_of_heap h)
  clear PB PP BA BC SB HB HCL
  go_upto_region 2 with fail
  generalize hgw : (w1.alloc _).alloc _ = w2 at *
  generalize hgg : w1.heap.size = bb at *
  clear hgw hgg hmk q0 q1 q2 q3 q4
  obtain ⟨q0, q1, q2, q3, q4⟩ := RR.out.1.cells
  go_wp2_with fail
  clear q0 q1 q2 q3 q4
  go_loopw [13] (fun iv wr => ∃ i : Nat, iv = .int .i64 (i : Nat) ∧ i ≤ s.alike.length ∧ PuRel w s (.slice a s.alike.length c) (bb + 1) w.heap.size bb i wr) (fun iv _ => s.alike.length - (intOf iv).toNat)
  case atStart => exact ⟨0, rfl, Nat.zero_le _, RR.out⟩
  case round =>
    obtain ⟨i, rfl, hi, hr⟩ := hrel
    have HR := Lib.hid hr
    clear hr RR
    have i0 : (0 : Int) ≤ (i : Int) := by omega
    by_cases h1 : (i : Int) < (s.alike.length : Int)
    · have hix : i < s.alike.length := by omega
      obtain ⟨a', c', hv, hP⟩ := HX.out.on HR.out.2.2.2
      obtain ⟨rfl, -⟩ : a = a' ∧ c = c' := by simpa using hv
      obtain ⟨b, off, ha, hlt, hcs⟩ := hP (by omega)
      subst ha
      obtain ⟨p0, p1, p2⟩ := hcs i hix
      have HPut := fun (W : World) (h : PairsBlk W bb s.alike i) => h.put hix
      obtain ⟨x, hxe⟩ : ∃ x, x = s.alike[i] := ⟨_, rfl⟩
      rw [← hxe] at p0 p1 p2 HPut
      have HPut := Lib.hid HPut
      clear hcs hP hv hxe
      go_upto_region 5 with fail
      have GB := Lib.hid (AlBlock.new wr x)
      have BA := (Below.refl wr.heap.size wr).alloc (Nat.le_refl _) (.cells #[.int .u8 (x.a.toNat : Nat), .int .u8 (x.b.toNat : Nat), .int .i64 x.c] 46)
      have R5 := Lib.hid (show PuRel w s (.slice (some ⟨b, off, none⟩) s.alike.length c) (bb + 1) w.heap.size bb i (wr.alloc (.cells #[.int .u8 (x.a.toNat : Nat), .int .u8 (x.b.toNat : Nat), .int .i64 x.c] 46)) from
        ⟨HR.out.1.below BA, HR.out.2.1.below BA, HR.out.2.2.1.below BA, HR.out.2.2.2.alloc HR.out.2.2.2.size _⟩)
      clear HR BA p0 p1 p2
      generalize hgw : wr.alloc _ = w5 at *
      generalize hgg : wr.heap.size = g at *
      clear hgw hgg hlt
      have FW := Lib.hid (show ∀ W, Below w5.heap.size w5 W → (W.cell? ⟨g, 0, none⟩ = some (.int .u8 (x.a.toNat : Nat)) ∧ W.cell? ⟨g, 1, none⟩ = some (.int .u8 (x.b.toNat : Nat))) ∧ W.cell? ⟨bb + 1, 0, none⟩ = some (.slice (some ⟨bb, 0, none⟩) s.alike.length s.alike.length) from fun W h => ⟨⟨(GB.out.below h).cells.1, (GB.out.below h).cells.2.1⟩, by have := (R5.out.2.1.below h).cell 0; simpa using this⟩)
      have C1 : ∀ W, Below w5.heap.size w5 W → Calls Try.prog 38 #[.int .u8 (x.a.toNat : Nat), .int .u8 (x.b.toNat : Nat)] W fun e w' => e = .returned (prV x.a x.b) ∧ Below w5.heap.size w5 w' := fun W h => (pairOf_any x.a x.b W).mono fun e w' h' => ⟨h'.1, h.trans (h'.2.mono h.size)⟩
      refine wp_normal ?_
      refine wp_region_phase (fun W => Below w5.heap.size w5 W) (fun W => PuRel w s (.slice (some ⟨b, off, none⟩) s.alike.length c) (bb + 1) w.heap.size bb (i + 1) W) 8 _ 25 24 (.pointer (some ⟨bb, i * 2, none⟩)) (prV x.a x.b) 80 (by kernel_rfl) rfl rfl rfl rfl (by kernel_rfl) (by kernel_rfl) (Below.refl _ _).drew (fun W h => ?_) ?_
      · obtain ⟨cs5, e1, e2, e3⟩ := R5.out.2.2.1.below h
        have th : W.there bb (i * 2) 2 := fun j hj => ⟨by
          rw [e1.cell, List.getElem?_eq_getElem (by omega)]; rfl, e1.free _⟩
        refine ⟨_, run_storeAt_mid W bb (i * 2) 80 #[.int .u8 (min x.a.toNat x.b.toNat : Nat), .int .u8 (max x.a.toNat x.b.toNat : Nat)] th info80 (by simp [Value.oneCell']), ?_⟩
        have H1 := R5.out
        refine ⟨((H1.1.below h).setCell (by have := HS1.out; omega)).setCell (by have := HS1.out; omega), ((H1.2.1.below h).setCell (by omega)).setCell (by omega), HPut.out W (H1.2.2.1.below h), ?_⟩
        exact ((H1.2.2.2.trans (h.mono H1.2.2.2.size)).setCell (by show w.heap.size ≤ bb; have := HS1.out; omega) _).setCell (by show w.heap.size ≤ bb; have := HS1.out; omega) _
      · simp only [List.set_cons_succ, List.set_cons_zero, nopOf]
        repeat (first | go_big_quiet_skip | (go_big_quiet_want; first | (go_big_quiet_op; go_big_quiet_on) | (refine quiet_value ?_ (fun W h => ?_) ?_; rotate_left; (· obtain ⟨⟨f0, f1⟩, f2⟩ := FW.out W h; go_simp; rfl); go_simp; go_big_quiet_on) | (refine quiet_call _ _ _ (fun W => ?_) C1 ?_; (· go_simp; done); go_simp; go_big_quiet_on)))
        refine wpQuiet_nil ⟨rfl, rfl, ?_⟩
        intro W h
        refine ⟨trivial, ?_⟩
        have H := Lib.hid h
        clear h C1 FW R5 GB
        go_wp2_with fail
        go_roundw
        case rel => exact ⟨i + 1, by go_num, by omega, H.out⟩
        case measure => simp [intOf]; omega
    · have HIE := Lib.hid (show i = s.alike.length by omega)
      go_wp2_with fail
      go_ret
      have H := HR.out
      rw [HIE.out] at H
      exact ⟨bb + 1, w.heap.size, rfl, ⟨H.1, ⟨bb, H.2.1, H.2.2.1⟩, HX.out.on H.2.2.2⟩, H.2.2.2⟩
end Go.Proofs.Ytadaijepalhohaa
