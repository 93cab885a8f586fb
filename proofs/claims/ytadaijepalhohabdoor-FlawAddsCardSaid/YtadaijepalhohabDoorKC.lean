/-
  The reference's Find and Sound. The reference's Sound.
-/
import Derived.Test.YtadaijepalhohabDoorKA
import Derived.Test.YtadaijepalhohabDoorHB
import Derived.Test.YtadaijepalhohabDoorWB
import Derived.Test.YtadaijepalhohabDoorGG
import Derived.Test.YtadaijepalhohabDoorGT

namespace Go.Proofs.YtadaijepalhohabDoor
open Go.RowKit
open Pl

theorem RpBlock.put0 {W : World} {b : Nat} {c0 c1 c2 : Value} (h : RpBlock W b c0 c1 c2) (v : Value) : RpBlock (W.setCell ⟨b, 0, none⟩ v) b v c1 c2 := by
  unfold RpBlock at h ⊢; rw [heap_setCell_same W b 0 _ _ _ h]; simp
theorem RpBlock.put1 {W : World} {b : Nat} {c0 c1 c2 : Value} (h : RpBlock W b c0 c1 c2) (v : Value) : RpBlock (W.setCell ⟨b, 1, none⟩ v) b c0 v c2 := by
  unfold RpBlock at h ⊢; rw [heap_setCell_same W b 1 _ _ _ h]; simp
theorem RpBlock.put2 {W : World} {b : Nat} {c0 c1 c2 : Value} (h : RpBlock W b c0 c1 c2) (v : Value) : RpBlock (W.setCell ⟨b, 2, none⟩ v) b c0 c1 v := by
  unfold RpBlock at h ⊢; rw [heap_setCell_same W b 2 _ _ _ h]; simp
theorem RpBlock.free {W : World} {b : Nat} {c0 c1 c2 : Value} (h : RpBlock W b c0 c1 c2) (i : Nat) : W.frozen? ⟨b, i, none⟩ = false := by
  unfold RpBlock at h; simp [World.frozen?, h]
/-- A report in memory of the call's own. -/
def RepOwn (W : World) (base : Nat) (v : Value) (r : Rep) : Prop := ∃ a1 a2 a3 c1 c2 c3, v = .agg #[.slice a1 r.dead.length c1, .slice a2 r.stuck.length c2, .slice a3 r.endless.length c3] ∧
  NumsOwn W base (.slice a1 r.dead.length c1) r.dead ∧ NumsOwn W base (.slice a2 r.stuck.length c2) r.stuck ∧ NumsOwn W base (.slice a3 r.endless.length c3) r.endless
theorem RepOwn.at {W : World} {base : Nat} {v : Value} {r : Rep} (h : RepOwn W base v r) : RepAt W v r := by
  obtain ⟨a1, a2, a3, c1, c2, c3, rfl, h1, h2, h3⟩ := h
  exact ⟨a1, a2, a3, c1, c2, c3, rfl, h1.at, h2.at, h3.at⟩
/-- What Find keeps: the scheme, the result, the report under way. -/
def FdRel (w : World) (m acc : Nat) (a : Option Addr) (n c : Nat) (c0 c1 c2 : Value) (W : World) : Prop :=
  SchBlock W w.heap.size (.int .i64 (m : Nat)) (.int .u8 (acc : Nat)) (.slice a n c) ∧ RpBlock W (w.heap.size + 1) (.slice none 0 0) (.slice none 0 0) (.slice none 0 0) ∧ RpBlock W (w.heap.size + 2) c0 c1 c2 ∧ Below w.heap.size w W
section
variable {w W W' : World} {m acc : Nat} {a : Option Addr} {n c : Nat} {c0 c1 c2 : Value}
theorem FdRel.below (h : FdRel w m acc a n c c0 c1 c2 W) (hb : Below W.heap.size W W') : FdRel w m acc a n c c0 c1 c2 W' :=
  ⟨h.1.below hb, h.2.1.below hb, h.2.2.1.below hb, h.2.2.2.trans (hb.mono h.2.2.2.size)⟩
theorem RpBlock.keptBy {b : Nat} {row : Option Nat} (h : RpBlock W b c0 c1 c2) (hg : W.grownBy W' row) (hne : row ≠ some b) : RpBlock W' b c0 c1 c2 := by
  have hlt := lt_of_heap h
  unfold RpBlock at h ⊢; rw [hg.block b hlt (fun e => hne e.symm)]; exact h
theorem FdRel.grown {row : Option Nat} (h : FdRel w m acc a n c c0 c1 c2 W) (hg : W.grownBy W' row) (hr : ∀ k, row = some k → w.heap.size + 3 ≤ k) : FdRel w m acc a n c c0 c1 c2 W' :=
  ⟨h.1.keptBy hg (fun e => by have := hr _ e; omega), h.2.1.keptBy hg (fun e => by have := hr _ e; omega), h.2.2.1.keptBy hg (fun e => by have := hr _ e; omega), h.2.2.2.grown hg h.2.2.2.size (fun k hk => by have := hr k hk; omega)⟩
theorem FdRel.cellTo {i : Nat} {v d0 d1 d2 : Value} (h : FdRel w m acc a n c c0 c1 c2 W) (hp : RpBlock (W.setCell ⟨w.heap.size + 2, i, none⟩ v) (w.heap.size + 2) d0 d1 d2) : FdRel w m acc a n c d0 d1 d2 (W.setCell ⟨w.heap.size + 2, i, none⟩ v) := by
  obtain ⟨h1, h2, h3, h4⟩ := h
  refine ⟨?_, ?_, hp, h4.setCell (by show w.heap.size ≤ w.heap.size + 2; omega) _⟩
  · unfold SchBlock at h1 ⊢
    rw [heap_setCell_other _ _ _ _ (show w.heap.size ≠ w.heap.size + 2 by omega)]; exact h1
  · unfold RpBlock at h2 ⊢
    rw [heap_setCell_other _ _ _ _ (show w.heap.size + 1 ≠ w.heap.size + 2 by omega)]; exact h2
theorem NumsAt.set {v : Value} {xs : List Int} {b i : Nat} {u : Value} (h : NumsAt W W.heap.size v xs) (hne : ∀ k, v.ownBlock = some k → k ≠ b) : NumsAt (W.setCell ⟨b, i, none⟩ u) (W.setCell ⟨b, i, none⟩ u).heap.size v xs := by
  obtain ⟨a, c, rfl, hP⟩ := h
  refine ⟨a, c, rfl, fun hp => ?_⟩
  obtain ⟨g, off, rfl, hlt, hc⟩ := hP hp
  refine ⟨g, off, rfl, by simpa using hlt, fun j hj => ?_⟩
  have hn : g ≠ b := hne g rfl
  rw [← hc j hj]
  exact World.cell?_of_block (heap_setCell_other W _ g _ hn)
end
theorem deadK_same {m acc : Nat} {rs : List Rl} (hr : ∀ x ∈ rs, InM m x) (hm : 1 ≤ m) (ha : acc < 2 ^ m) (ha0 : acc ≠ 0) (i : Nat) (hi : i < rs.length) :
    deadK (rMs m rs) (lMs m acc rs) rs[i] = (!(rnds rStep rs m (2 ^ 0)).testBit rs[i].src.toNat || !liveB m acc rs rs[i].dst.toNat) := by
  have hx := hr _ (List.getElem_mem hi)
  unfold deadK
  rw [show (rMs m rs).testBit rs[i].src.toNat = _ from kinds_reached hr hm _, show (lMs m acc rs).testBit rs[i].dst.toNat = _ from kinds_live hr hm ha ha0 _ (by have := hx.2.2; have := hx.2.1; omega)]
set_option maxHeartbeats 4000000 in
set_option maxRecDepth 100000 in
theorem RFind_own (m acc : Nat) (a : Option Addr) (c : Nat) (rs : List Rl) (w : World) (hacc : acc < 256) (hx : RlsAt w w.heap.size (.slice a rs.length c) rs) (hl : rs.length ≤ 100)
    (hz : ∀ x ∈ rs, x.inp.length ≤ maxLen ∧ x.out.length ≤ maxLen) :
    Calls Tryd.prog 23 #[.agg #[.int .i64 (m : Nat), .int .u8 (acc : Nat), .slice a rs.length c]] w fun e w' => ∃ v, e = .returned v ∧ RepOwn w' w.heap.size v (repC m acc rs) ∧ Below w.heap.size w w' := by
  have b1 := (Below.refl w.heap.size w).alloc (Nat.le_refl _) (.cells #[.int .i64 (m : Nat), .int .u8 (acc : Nat), .slice a rs.length c] 28)
  have b2 := b1.alloc b1.size (.cells #[.slice none 0 0, .slice none 0 0, .slice none 0 0] 37)
  have s1 := (SchBlock.new w (.int .i64 (m : Nat)) (.int .u8 (acc : Nat)) (.slice a rs.length c)).below ((Below.refl _ _).alloc (Nat.le_refl _) (.cells #[.slice none 0 0, .slice none 0 0, .slice none 0 0] 37))
  have r1 := RpBlock.new (w.alloc (.cells #[.int .i64 (m : Nat), .int .u8 (acc : Nat), .slice a rs.length c] 28)) (.slice none 0 0) (.slice none 0 0) (.slice none 0 0)
  rw [World.size_alloc] at r1
  have hz2 : ((w.alloc (.cells #[.int .i64 (m : Nat), .int .u8 (acc : Nat), .slice a rs.length c] 28)).alloc (.cells #[.slice none 0 0, .slice none 0 0, .slice none 0 0] 37)).heap.size = w.heap.size + 2 := by simp
  have CV := fun W (h : Below w.heap.size w W) => Lib.hid (RValid_any m acc a c rs W (hx.on h) (by unfold maxLen; omega) hz (by omega) (by omega))
  have S1 := Lib.hid s1
  have R1 := Lib.hid r1
  have B2 := Lib.hid b2
  have HX := Lib.hid hx
  have HVV := Lib.hid (fun hv : validB m acc rs = true => valid_in hv)
  have HVA := Lib.hid (fun hv : validB m acc rs = true => valid_acc hv)
  obtain ⟨V, hV⟩ : ∃ V, V = validB m acc rs := ⟨_, rfl⟩
  simp only [← hV] at CV
  have HV := Lib.hid hV
  obtain ⟨Z, hZ⟩ : ∃ Z, Z = repC m acc rs := ⟨_, rfl⟩
  rw [← hZ]
  have HZ := Lib.hid hZ
  clear hx hz s1 r1 b1 b2 hV hZ
  go_enter Tryd.func23, Tryd.ntmps23
  go_upto_region 1 with fail
  generalize (w.alloc _).alloc _ = x1 at *
  go_upto_region 2 with fail
  have FR2 := Lib.hid (show FdRel w m acc a rs.length c (.slice none 0 0) (.slice none 0 0) (.slice none 0 0) (x1.alloc (.cells #[.slice none 0 0, .slice none 0 0, .slice none 0 0] 37)) from
    ⟨S1.out.below ((Below.refl _ _).alloc (Nat.le_refl _) _), R1.out.below ((Below.refl _ _).alloc (Nat.le_refl _) _), by have h := RpBlock.new x1 (.slice none 0 0) (.slice none 0 0) (.slice none 0 0); rwa [hz2] at h, B2.out.alloc B2.out.size _⟩)
  clear S1 R1 B2 hz2
  generalize x1.alloc _ = x2 at *
  obtain ⟨s0, sa, s2⟩ := FR2.out.1.cells
  go_wp2_with fail
  refine ((CV x2 FR2.out.2.2.2).out).mono ?_
  rintro e x3 ⟨rfl, hb⟩
  have FR3 := Lib.hid (FR2.out.below hb)
  clear hb CV FR2 s0 sa s2
  cases V with
  | false =>
    have HN := Lib.hid (show Z = ⟨[], [], []⟩ by rw [HZ.out]; unfold repC; rw [← HV.out]; rfl)
    have NB := FR3.out.2.1
    obtain ⟨t0, t1, t2⟩ := FR3.out.2.2.1.cells
    go_wp2_with (first | (refine wpList_store_rp rfl _ _ rfl _ _ _ _ NB rfl none none none 0 0 0 0 0 0 rfl ?_; intro W7 RB hg' hs'; clear NB))
    refine ret_rp rfl rfl rfl RB ?_
    refine ⟨_, rfl, ?_, FR3.out.2.2.2.grown hg' FR3.out.2.2.2.size (fun k hk => by have := Option.some.inj hk; omega)⟩
    rw [HN.out]
    exact ⟨none, none, none, 0, 0, 0, rfl, NumsOwn.nil _ _, NumsOwn.nil _ _, NumsOwn.nil _ _⟩
  | true =>
    obtain ⟨⟨hm1, hm8⟩, hIM, -, hl64⟩ := HVV.out HV.out.symm
    obtain ⟨ha, ha0⟩ := HVA.out HV.out.symm
    have HD := Lib.hid (fun i (hi : i < rs.length) => deadK_same (m := m) (acc := acc) hIM hm1 ha ha0 i hi)
    have CD := fun (i : Nat) (hi : i < rs.length) W (h : Below w.heap.size w W) => Lib.hid (RDead_any m acc i a c rs rs[i] W hm1 hm8 hacc (HX.out.on h) (by omega) hIM hi rfl)
    have CS := fun W (h : Below w.heap.size w W) => Lib.hid (RStuck_any m acc a c rs W HV.out.symm hacc (HX.out.on h) hl)
    have CE := fun W (h : Below w.heap.size w W) => Lib.hid (REndless_any m acc a c rs W HV.out.symm hacc (HX.out.on h) hl)
    have HN := Lib.hid (show Z = ⟨pickN (deadK (rMs m rs) (lMs m acc rs)) rs rs.length, ints (stuckC m acc rs), ints (endlessC m acc rs)⟩ by rw [HZ.out]; unfold repC; rw [← HV.out]; rfl)
    obtain ⟨dk, hdk⟩ : ∃ dk, dk = deadK (rMs m rs) (lMs m acc rs) := ⟨_, rfl⟩
    rw [← hdk] at HN HD
    obtain ⟨sC, hsC⟩ : ∃ s, s = ints (stuckC m acc rs) := ⟨_, rfl⟩
    obtain ⟨eC, heC⟩ : ∃ s, s = ints (endlessC m acc rs) := ⟨_, rfl⟩
    rw [← hsC, ← heC] at HN
    simp only [← hsC] at CS
    simp only [← heC] at CE
    clear hIM ha ha0 HV HVV HVA HZ hdk hsC heC
    go_wp2_with fail
    go_loopw [5] (fun iv wr => ∃ (i : Nat) (dv : Value), iv = .int .i64 (i : Nat) ∧ i ≤ rs.length ∧ FdRel w m acc a rs.length c dv (.slice none 0 0) (.slice none 0 0) wr ∧ NumsOwn wr (w.heap.size + 3) dv (pickN dk rs i)) (fun iv _ => rs.length - (intOf iv).toNat)
    case atStart => exact ⟨0, _, rfl, Nat.zero_le _, FR3.out, NumsOwn.nil _ _⟩
    case round =>
      obtain ⟨i, dv, rfl, hi, hfr, hown⟩ := hrel
      clear FR3
      have FR := Lib.hid hfr
      have OW := Lib.hid hown
      obtain ⟨s0, sa, s2⟩ := hfr.1.cells
      clear hfr hown
      have i0 : (0 : Int) ≤ (i : Int) := by omega
      by_cases h1 : (i : Int) < (rs.length : Int)
      · have hil : i < rs.length := by omega
        have HPS := Lib.hid (pickN_succ dk rs i hil)
        have hpl := pickN_len dk rs i
        have HDI := Lib.hid (HD.out i hil)
        go_wp2_with fail
        refine ((CD i hil wr FR.out.2.2.2).out).mono ?_
        rintro e w4 ⟨rfl, hb⟩
        have FR4 := Lib.hid (FR.out.below hb)
        have OW4 := Lib.hid (OW.out.below hb)
        clear hb FR OW s0 sa s2
        obtain ⟨B, hB⟩ : ∃ B, B = (!(rnds rStep rs m (2 ^ 0)).testBit rs[i].src.toNat || !liveB m acc rs rs[i].dst.toNat) := ⟨_, rfl⟩
        have HDB := Lib.hid (show dk rs[i] = B by rw [HDI.out, hB])
        rw [← hB]
        clear hB HDI
        cases B with
        | false =>
          have HPN := Lib.hid (show pickN dk rs (i + 1) = pickN dk rs i by rw [HPS.out, HDB.out]; simp)
          go_wp2_with fail
          go_roundw
          case rel => exact ⟨i + 1, dv, by go_num, by omega, FR4.out, by rw [HPN.out]; exact OW4.out⟩
          case measure => simp [intOf]; omega
        | true =>
          have HPN := Lib.hid (show pickN dk rs (i + 1) = pickN dk rs i ++ [(i : Int)] by rw [HPS.out, HDB.out]; simp)
          obtain ⟨t0, t1, t2⟩ := (FR4.out.below ((Below.refl _ _).alloc (Nat.le_refl _) (.cells #[.int .i64 (i : Int)] 3))).2.2.1.cells
          obtain ⟨t0', t1', t2'⟩ := FR4.out.2.2.1.cells
          have FR5 := Lib.hid (FR4.out.below ((Below.refl _ _).alloc (Nat.le_refl _) (.cells #[.int .i64 (i : Int)] 3)))
          have O5 := Lib.hid (OW4.out.below ((Below.refl _ _).alloc (Nat.le_refl _) (.cells #[.int .i64 (i : Int)] 3)))
          have OB := Lib.hid OW4.out.blk
          obtain ⟨q, hq⟩ : ∃ q, q = pickN dk rs i ++ [(i : Int)] := ⟨_, rfl⟩
          have HQ := Lib.hid hq
          clear hq
          have hsz4 : w.heap.size + 3 ≤ w4.heap.size := by have := lt_of_heap FR4.out.2.2.1; omega
          go_wp2_with (first | (at_builtin; refine wpList_append_nums rfl _ _ rfl (w.heap.size + 3) _ (pickN dk rs i) rfl O5.out w4.heap.size _ [(i : Int)] rfl (NumsOwn.one w4 i) (by simp; omega) (by simp; omega) ?_; intro v2 w5 own5 grow5; rw [← HQ.out] at own5; obtain ⟨va, vc, rfl⟩ := own5.shape; have FR6 := Lib.hid (FR5.out.grown grow5 (fun k hk => OB.out k hk)); clear t0 t1 t2 t0' t1' t2'; obtain ⟨t0, -, -⟩ := FR6.out.2.2.1.cells; have fz := FR6.out.2.2.1.free 0) | fail)
          have FR7 := Lib.hid (FR6.out.cellTo (FR6.out.2.2.1.put0 (.slice va q.length vc)))
          have OW7 := Lib.hid (show NumsOwn (w5.setCell ⟨w.heap.size + 2, 0, none⟩ (.slice va q.length vc)) (w.heap.size + 3) (.slice va q.length vc) q from own5.keepAt fun g hg _ => heap_setCell_other _ _ _ _ (by show g ≠ w.heap.size + 2; omega))
          clear own5 grow5 FR5 FR6 O5 OB t0 fz
          go_roundw
          case rel => exact ⟨i + 1, _, by go_num, by omega, FR7.out, by rw [HPN.out, ← HQ.out]; exact OW7.out⟩
          case measure => simp [intOf]; omega
      · have hie : i = rs.length := by omega
        subst hie
        obtain ⟨da, dc, rfl⟩ := OW.out.shape
        go_wp2_with fail
        refine ((CS wr FR.out.2.2.2).out).mono ?_
        rintro e w4 ⟨v1, rfl, o1, hb⟩
        obtain ⟨a1, c1, rfl⟩ := o1.shape
        have FR4 := Lib.hid (FR.out.below hb)
        have OW4 := Lib.hid (OW.out.below hb)
        have N1 := Lib.hid (show NumsOwn w4 (w.heap.size + 3) (.slice a1 sC.length c1) sC from o1.base (by have := lt_of_heap FR.out.2.2.1; omega))
        clear hb o1 FR OW s0 sa s2
        obtain ⟨t0, t1, t2⟩ := FR4.out.2.2.1.cells
        have fz := FR4.out.2.2.1.free 1
        go_upto_region 11 with fail
        have FR5 := Lib.hid (FR4.out.cellTo (FR4.out.2.2.1.put1 (.slice a1 sC.length c1)))
        have kp : ∀ g, w.heap.size + 3 ≤ g → g < w4.heap.size → (w4.setCell ⟨w.heap.size + 2, 1, none⟩ (.slice a1 sC.length c1)).heap[g]? = w4.heap[g]? := fun g hg _ => heap_setCell_other _ _ _ _ (by show g ≠ w.heap.size + 2; omega)
        have OW5 := Lib.hid (OW4.out.keepAt kp)
        have N15 := Lib.hid (N1.out.keepAt kp)
        clear t0 t1 t2 fz kp FR4 OW4 N1
        generalize w4.setCell _ _ = w5 at *
        obtain ⟨s0, sa, s2⟩ := FR5.out.1.cells
        go_wp2_with fail
        refine ((CE w5 FR5.out.2.2.2).out).mono ?_
        rintro e w6 ⟨v2, rfl, o2, hb⟩
        obtain ⟨a2, c2, rfl⟩ := o2.shape
        have FR6 := Lib.hid (FR5.out.below hb)
        have OW6 := Lib.hid (OW5.out.below hb)
        have N16 := Lib.hid (N15.out.below hb)
        have N2 := Lib.hid (show NumsOwn w6 (w.heap.size + 3) (.slice a2 eC.length c2) eC from o2.base (by have := lt_of_heap FR5.out.2.2.1; omega))
        clear hb o2 FR5 OW5 N15 s0 sa s2
        obtain ⟨t0, t1, t2⟩ := FR6.out.2.2.1.cells
        have fz := FR6.out.2.2.1.free 2
        go_upto_region 12 with fail
        have FR7 := Lib.hid (FR6.out.cellTo (FR6.out.2.2.1.put2 (.slice a2 eC.length c2)))
        have kp : ∀ g, w.heap.size + 3 ≤ g → g < w6.heap.size → (w6.setCell ⟨w.heap.size + 2, 2, none⟩ (.slice a2 eC.length c2)).heap[g]? = w6.heap[g]? := fun g hg _ => heap_setCell_other _ _ _ _ (by show g ≠ w.heap.size + 2; omega)
        have OW7 := Lib.hid (OW6.out.keepAt kp)
        have N17 := Lib.hid (N16.out.keepAt kp)
        have N27 := Lib.hid (N2.out.keepAt kp)
        clear t0 t1 t2 fz kp FR6 OW6 N16 N2
        generalize w6.setCell _ _ = w7 at *
        obtain ⟨t0, t1, t2⟩ := FR7.out.2.2.1.cells
        have NB := FR7.out.2.1
        go_wp2_with (first | (refine wpList_store_rp rfl _ _ rfl _ _ _ _ NB rfl da a1 a2 _ _ _ dc c1 c2 rfl ?_; intro W9 RB hg9 hs9; clear NB))
        refine ret_rp rfl rfl rfl RB ?_
        refine ⟨_, rfl, ?_, FR7.out.2.2.2.grown hg9 FR7.out.2.2.2.size (fun k hk => by have := Option.some.inj hk; omega)⟩
        rw [HN.out]
        have hk : ∀ g, w.heap.size + 3 ≤ g → g < w7.heap.size → W9.heap[g]? = w7.heap[g]? := fun g h1 h2 => hg9.block g h2 (fun e => by have := Option.some.inj e; omega)
        exact ⟨da, a1, a2, dc, c1, c2, rfl, (OW7.out.keepAt hk).base (by omega), (N17.out.keepAt hk).base (by omega), (N27.out.keepAt hk).base (by omega)⟩
theorem RFind_any (m acc : Nat) (a : Option Addr) (c : Nat) (rs : List Rl) (w : World) (hacc : acc < 256) (hx : RlsAt w w.heap.size (.slice a rs.length c) rs) (hl : rs.length ≤ 100)
    (hz : ∀ x ∈ rs, x.inp.length ≤ maxLen ∧ x.out.length ≤ maxLen) :
    Calls Tryd.prog 23 #[.agg #[.int .i64 (m : Nat), .int .u8 (acc : Nat), .slice a rs.length c]] w fun e w' => ∃ v, e = .returned v ∧ RepAt w' v (repC m acc rs) ∧ Below w.heap.size w w' :=
  (RFind_own m acc a c rs w hacc hx hl hz).mono fun _ _ ⟨v, he, hv, hb⟩ => ⟨v, he, hv.at, hb⟩
end Go.Proofs.YtadaijepalhohabDoor

namespace Go.Proofs.YtadaijepalhohabDoor
open Go.RowKit
open Pl

theorem stuck_and {m acc : Nat} {rs : List Rl} (hv : validB m acc rs = true) (hacc : acc < 256) (h0 : (lMs m acc rs).testBit 0 = true) : rMs m rs &&& (255 - lMs m acc rs) = 0 ↔ stuckC m acc rs = [] := by
  obtain ⟨⟨hm1, hm8⟩, hr, -, -⟩ := valid_in hv
  have hk := kinds_lt hm8 hr hacc
  unfold stuckC
  rw [if_pos h0]
  constructor
  · intro hz
    refine Classical.byContradiction fun hne => ?_
    obtain ⟨l, t, _, hx, c⟩ := fC_iff.1 hne
    have h1 : (rMs m rs).testBit t = true := (reached_iff hr hm1 t).2 (chn_path c)
    have h2 : (rMs m rs &&& (255 - lMs m acc rs)).testBit t = true := by rw [Nat.testBit_and, h1, hx]; rfl
    rw [hz] at h2
    simp at h2
  · intro hn
    refine Nat.eq_of_testBit_eq fun i => ?_
    rw [Nat.zero_testBit]
    refine Bool.eq_false_iff.2 fun hb => ?_
    rw [Nat.testBit_and, Bool.and_eq_true] at hb
    have hi : i < 8 := bit_lt (by omega) hb.2
    obtain ⟨l, c⟩ := path_chn ((reached_iff hr hm1 i).1 hb.1)
    refine fC_nil hn l i (fun e => ?_) hb.2 c
    subst e
    rcases c.inv with ⟨_, e⟩ | ⟨_, _, _, e, _⟩
    · have h3 := hb.2
      rw [e, compl_bit' _ _ hk.2 (by omega), h0] at h3
      cases h3
    · exact absurd e (by simp)
set_option maxHeartbeats 2000000 in
set_option maxRecDepth 100000 in
theorem RSound_any (m acc : Nat) (a : Option Addr) (c : Nat) (rs : List Rl) (w : World) (hacc : acc < 256) (hx : RlsAt w w.heap.size (.slice a rs.length c) rs) (hl : rs.length ≤ 100)
    (hz : ∀ x ∈ rs, x.inp.length ≤ maxLen ∧ x.out.length ≤ maxLen) :
    Calls Tryd.prog 9 #[.agg #[.int .i64 (m : Nat), .int .u8 (acc : Nat), .slice a rs.length c]] w fun e w' => e = .returned (.int .i64 (soundC m acc rs)) ∧ Below w.heap.size w w' := by
  have b1 := (Below.refl w.heap.size w).alloc (Nat.le_refl _) (.cells #[.int .i64 (m : Nat), .int .u8 (acc : Nat), .slice a rs.length c] 28)
  have s1 := SchBlock.new w (.int .i64 (m : Nat)) (.int .u8 (acc : Nat)) (.slice a rs.length c)
  have CV := fun W (h : Below w.heap.size w W) => Lib.hid (RValid_any m acc a c rs W (hx.on h) (by unfold maxLen; omega) hz (by omega) (by omega))
  have CF := fun W (h : Below w.heap.size w W) => Lib.hid (RFind_any m acc a c rs W hacc (hx.on h) hl hz)
  have HX := Lib.hid hx
  have S1 := Lib.hid s1
  have B1 := Lib.hid b1
  have HVV := Lib.hid (fun hv : validB m acc rs = true => valid_in hv)
  have HVA := Lib.hid (fun hv : validB m acc rs = true => valid_acc hv)
  have HSA := Lib.hid (fun (hv : validB m acc rs = true) h0 => stuck_and hv hacc h0)
  obtain ⟨V, hV⟩ : ∃ V, V = validB m acc rs := ⟨_, rfl⟩
  simp only [← hV] at CV
  have HV := Lib.hid hV
  obtain ⟨Z, hZ⟩ : ∃ Z, Z = soundC m acc rs := ⟨_, rfl⟩
  rw [← hZ]
  have HZ := Lib.hid hZ
  clear hx hz s1 b1 hV hZ
  go_enter Tryd.func9, Tryd.ntmps9
  go_upto_region 1 with fail
  generalize w.alloc _ = x1 at *
  obtain ⟨s0, sa, s2⟩ := S1.out.cells
  go_wp2_with fail
  refine ((CV x1 B1.out).out).mono ?_
  rintro e x2 ⟨rfl, hb⟩
  have S2 := Lib.hid (S1.out.below hb)
  have B2 := Lib.hid (B1.out.trans (hb.mono B1.out.size))
  clear hb CV S1 B1 s0 sa s2
  obtain ⟨s0, sa, s2⟩ := S2.out.cells
  cases V with
  | false =>
    have HN := Lib.hid (show Z = 20 by rw [HZ.out]; unfold soundC; rw [← HV.out]; rfl)
    go_wp2_with fail
    go_ret
    exact ⟨by rw [HN.out]; rfl, B2.out⟩
  | true =>
    obtain ⟨⟨hm1, hm8⟩, hIM, -, -⟩ := HVV.out HV.out.symm
    obtain ⟨ha, ha0⟩ := HVA.out HV.out.symm
    have CL := fun W (h : Below w.heap.size w W) => Lib.hid (RLive_any m acc a c rs W hm1 hm8 hacc (HX.out.on h) (by unfold maxLen; omega) hIM)
    have HLV : (lMs m acc rs).testBit 0 = liveB m acc rs 0 := kinds_live hIM hm1 ha ha0 0 (by omega)
    have HN := Lib.hid (show Z = if liveB m acc rs 0 = true then (if stuckC m acc rs = [] then (if endlessC m acc rs = [] then 0 else 41) else 40) else 50 by
      rw [HZ.out]
      unfold soundC
      rw [if_pos HV.out.symm, HLV]
      by_cases h : liveB m acc rs 0 = true
      · rw [if_pos h, if_pos h]
        by_cases h2 : stuckC m acc rs = []
        · rw [if_pos h2, if_pos ((HSA.out HV.out.symm (by rw [HLV]; exact h)).2 h2)]
        · rw [if_neg h2, if_neg (fun e => h2 ((HSA.out HV.out.symm (by rw [HLV]; exact h)).1 e))]
      · rw [if_neg h, if_neg h])
    have HR := Lib.hid (show repC m acc rs = ⟨(repC m acc rs).dead, ints (stuckC m acc rs), ints (endlessC m acc rs)⟩ by unfold repC; rw [if_pos HV.out.symm])
    have m0 : (0 : Int) < (m : Int) := by omega
    clear HV HVV HVA HSA HZ HLV hIM ha ha0
    obtain ⟨rp, hrp⟩ : ∃ rp, rp = repC m acc rs := ⟨_, rfl⟩
    rw [← hrp] at HR
    simp only [← hrp] at CF
    obtain ⟨sC, hsC⟩ : ∃ s, s = stuckC m acc rs := ⟨_, rfl⟩
    obtain ⟨eC, heC⟩ : ∃ s, s = endlessC m acc rs := ⟨_, rfl⟩
    rw [← hsC, ← heC] at HR HN
    clear hrp hsC heC
    obtain ⟨dd, sd, ed⟩ := rp
    obtain ⟨rfl, rfl⟩ : sd = ints sC ∧ ed = ints eC := by simpa using HR.out
    clear HR
    go_wp2_with fail
    refine ((CF x2 B2.out).out).mono ?_
    rintro e x3 ⟨v, rfl, hrep, hb⟩
    obtain ⟨a1, a2, a3, c1, c2, c3, rfl, n1, n2, n3⟩ := hrep
    have S3 := Lib.hid (S2.out.below hb)
    have B3 := Lib.hid (B2.out.trans (hb.mono B2.out.size))
    clear hb CF S2 B2 s0 sa s2 n1 n2 n3
    dsimp only
    rw [ints_len, ints_len]
    have NB := RpBlock.new x3 (.slice none 0 0) (.slice none 0 0) (.slice none 0 0)
    have AL := Lib.hid ((Below.refl x3.heap.size x3).alloc (Nat.le_refl _) (.cells #[.slice none 0 0, .slice none 0 0, .slice none 0 0] 37))
    go_upto_region 5 with (first | (refine wpList_store_rp rfl _ _ rfl _ _ _ _ NB rfl a1 a2 a3 dd.length sC.length eC.length c1 c2 c3 rfl ?_; intro W6 RB hg' hs'; clear NB))
    have hbb := AL.out.grown hg' AL.out.size (by simp)
    have S4 := Lib.hid (S3.out.below hbb)
    have B4 := Lib.hid (B3.out.trans (hbb.mono B3.out.size))
    have RP4 := Lib.hid RB
    clear hbb hg' hs' RB AL S3 B3
    obtain ⟨s0, sa, s2⟩ := S4.out.cells
    go_wp2_with fail
    refine ((CL W6 B4.out).out).mono ?_
    rintro e x5 ⟨lb, rfl, hls, -, hb⟩
    have B5 := Lib.hid (B4.out.trans (hb.mono B4.out.size))
    have RP5 := Lib.hid (RP4.out.below hb)
    have lv0 : x5.cell? ⟨lb, 0, none⟩ = some (.bool (liveB m acc rs 0)) := by
      have h1 := hls.cell 0 (by simp; omega)
      simpa using h1
    clear hls hb S4 B4 RP4 CL s0 sa s2
    obtain ⟨t0, t1, t2⟩ := RP5.out.cells
    obtain ⟨L0, hL0⟩ : ∃ L, L = liveB m acc rs 0 := ⟨_, rfl⟩
    rw [← hL0] at lv0 HN
    clear hL0
    cases L0 with
    | false =>
      have HE := Lib.hid (show Z = 50 by rw [HN.out]; rfl)
      go_wp2_with fail
      go_ret
      exact ⟨by rw [HE.out]; rfl, B5.out⟩
    | true =>
      by_cases hs : sC = []
      · have l1 : ¬ (0 : Int) < (sC.length : Int) := by rw [hs]; decide
        by_cases he : eC = []
        · have l2 : ¬ (0 : Int) < (eC.length : Int) := by rw [he]; decide
          have HE := Lib.hid (show Z = 0 by rw [HN.out, if_pos rfl, if_pos hs, if_pos he])
          clear hs he
          go_wp2_with fail
          go_ret
          exact ⟨by rw [HE.out]; rfl, B5.out⟩
        · have l2 : (0 : Int) < (eC.length : Int) := by have := List.length_pos_iff.2 he; omega
          have HE := Lib.hid (show Z = 41 by rw [HN.out, if_pos rfl, if_pos hs, if_neg he])
          clear hs he
          go_wp2_with fail
          go_ret
          exact ⟨by rw [HE.out]; rfl, B5.out⟩
      · have l1 : (0 : Int) < (sC.length : Int) := by have := List.length_pos_iff.2 hs; omega
        have HE := Lib.hid (show Z = 40 by rw [HN.out, if_pos rfl, if_neg hs])
        clear hs
        go_wp2_with fail
        go_ret
        exact ⟨by rw [HE.out]; rfl, B5.out⟩
end Go.Proofs.YtadaijepalhohabDoor
