/-
  FlawOrders' walk.
-/
import Derived.Test.YthgealgaefimpaaDoorGO
import Derived.Test.YthgealgaefimpaaDoorGP
import Derived.Test.YthgealgaefimpaaDoorGK
namespace Go.Proofs.YthgealgaefimpaaDoor
open Go.RowKit
open Pl

set_option maxHeartbeats 4000000 in
set_option maxRecDepth 100000 in
theorem Orders_any (M A : Nat) (ma : Option Addr) (mn mc : Nat) (w : World) (hT : StrTab w) (h0 : 0 < w.heap.size) (hM : M < 256) (hA : A < 256) (hx : TrisAt w w.heap.size (.slice ma mn mc) mn) (hl : mn ≤ maxLen) :
    Calls Tryd.prog 9 #[.agg #[.int .u8 (M : Nat), .int .u8 (A : Nat), .slice ma mn mc]] w fun e w' => e = .returned (.bool true) ∧ Below w.heap.size w w' := by
  have b1 := (Below.refl w.heap.size w).alloc (Nat.le_refl _) (.cells #[.int .u8 (M : Nat), .int .u8 (A : Nat), .slice ma mn mc] 24)
  have r1 := FRBlock.new w (.int .u8 (M : Nat)) (.int .u8 (A : Nat)) (.slice ma mn mc)
  have R1 := Lib.hid r1
  have B1 := Lib.hid b1
  have HX := Lib.hid hx
  have HT := Lib.hid hT
  have H0 := Lib.hid h0
  clear hx hT h0 b1 r1
  go_enter Tryd.func9, Tryd.ntmps9
  go_upto_region 1 with fail
  generalize w.alloc _ = x1 at *
  go_wp2_with fail
  refine (San_any x1 (HT.out.below B1.out H0.out) (Nat.lt_of_lt_of_le H0.out B1.out.size)).mono ?_
  rintro e x2 ⟨rfl, hb⟩
  have R2 := Lib.hid (R1.out.below hb)
  have B2 := Lib.hid (B1.out.trans (hb.mono B1.out.size))
  clear hb R1 B1
  obtain ⟨r0, r1, r2⟩ := R2.out.cells
  go_wp2_with fail
  refine (FMade_any M A ma mn mc x2 hM hA (HX.out.on B2.out) hl).mono ?_
  rintro e x3 ⟨m, acc, rs, va, vc, rfl, hm, h256, hv, hl12, hown, hb⟩
  have HRs := Lib.hid hown
  have HV := Lib.hid hv
  have B3 := Lib.hid (B2.out.trans (hb.mono B2.out.size))
  clear hown hv hb R2 r0 r1 r2
  have NB := SchBlock.new x3 (.int .i64 0) (.int .u8 0) (.slice none 0 0)
  have AL := Lib.hid ((Below.refl x3.heap.size x3).alloc (Nat.le_refl _) (.cells #[.int .i64 0, .int .u8 0, .slice none 0 0] 33))
  go_upto_region 3 with (first | (refine wpList_store_sch rfl _ _ rfl _ _ _ _ NB rfl (m : Int) (acc : Int) va rs.length vc rfl ?_; intro W4 SB hg' hs'; clear NB))
  have hbb := AL.out.grown hg' AL.out.size (by simp)
  obtain ⟨aa, cc, hvv, hcap, hat⟩ := HRs.out.at
  obtain ⟨rfl, rfl⟩ : va = aa ∧ vc = cc := by simpa using hvv
  have X3 := Lib.hid (show RlsAt x3 x3.heap.size (.slice va rs.length vc) rs from hat)
  have S4 := Lib.hid SB
  have D4 := Lib.hid hbb
  have hz4 : W4.heap.size = x3.heap.size + 1 := by rw [hs', World.size_alloc]
  clear hvv hat hbb hg' hs' SB AL HRs
  obtain ⟨s0, s1, s2⟩ := S4.out.cells
  go_upto_region 4 with fail
  have NB := SchBlock.new W4 (.int .i64 0) (.int .u8 0) (.slice none 0 0)
  rw [hz4] at NB
  have AL := Lib.hid ((Below.refl W4.heap.size W4).alloc (Nat.le_refl _) (.cells #[.int .i64 0, .int .u8 0, .slice none 0 0] 33))
  go_upto_region 5 with (first | (refine wpList_store_sch rfl _ _ rfl _ _ _ _ NB rfl (m : Int) (acc : Int) none 0 0 rfl ?_; intro W5 SB hg' hs'; clear NB))
  have hbb := AL.out.grown hg' AL.out.size (by simp; omega)
  have S5 := Lib.hid (S4.out.below hbb)
  have T5 := Lib.hid SB
  have D5 := Lib.hid (D4.out.trans (hbb.mono (by omega)))
  have hz5 : x3.heap.size + 2 ≤ W5.heap.size := by rw [hs', World.size_alloc, hz4]; exact Nat.le_refl _
  clear hbb hg' hs' SB AL S4 D4 s0 s1 s2 hz4
  have hrl : rs.length ≤ 12 := hl12
  go_wp2_with fail
  go_loopw [7] (fun iv wr => ∃ (k : Nat) (ta : Option Addr) (tc : Nat), iv = .int .i64 ((rs.length : Int) - 1 - (k : Int)) ∧ k ≤ rs.length ∧ SchBlock wr x3.heap.size (.int .i64 (m : Nat)) (.int .u8 (acc : Nat)) (.slice va rs.length vc) ∧ SchBlock wr (x3.heap.size + 1) (.int .i64 (m : Nat)) (.int .u8 (acc : Nat)) (.slice ta (rs.reverse.take k).length tc) ∧ RlsOwn wr (x3.heap.size + 2) (.slice ta (rs.reverse.take k).length tc) (rs.reverse.take k) ∧ Below x3.heap.size x3 wr ∧ x3.heap.size + 2 ≤ wr.heap.size) (fun iv _ => (intOf iv + 1).toNat)
  case atStart => exact ⟨0, none, 0, by simp, by omega, S5.out, T5.out, ⟨rfl, Or.inl ⟨rfl, rfl⟩⟩, D5.out, hz5⟩
  case round =>
    obtain ⟨k, ta, tc, rfl, hk, hs, ht, ho, hd, hz⟩ := hrel
    have SS := Lib.hid hs
    have ST := Lib.hid ht
    have HO := Lib.hid ho
    have HD := Lib.hid hd
    have hkl : (rs.reverse.take k).length = k := by rw [List.length_take, List.length_reverse]; omega
    clear ho hd S5 T5 D5 hz5
    by_cases h1 : k < rs.length
    · have hp : (0 : Int) ≤ (rs.length : Int) - 1 - (k : Int) := by omega
      obtain ⟨q, hq⟩ : ∃ q : Nat, q = rs.length - 1 - k := ⟨_, rfl⟩
      have hqi : (rs.length : Int) - 1 - (k : Int) = (q : Int) := by omega
      have hql : q < rs.length := by omega
      have hqI : (q : Int) < (rs.length : Int) := by omega
      have hq0 : (0 : Int) ≤ (q : Int) := by omega
      obtain ⟨y, hy⟩ : ∃ y, y = rs[q] := ⟨_, rfl⟩
      have hrev : rs.reverse.take (k + 1) = rs.reverse.take k ++ [y] := by
        rw [List.take_succ_eq_append_getElem (by rw [List.length_reverse]; omega), List.getElem_reverse, hy]
        congr 3
        omega
      obtain ⟨a', c', hv, hP⟩ := X3.out.on HD.out
      obtain ⟨rfl, -⟩ : va = a' ∧ vc = c' := by simpa using hv
      obtain ⟨b, off, ha, hlt, hc⟩ := hP (by omega)
      subst ha
      obtain ⟨p0, p1, p2, p3, p4⟩ := hc q hql
      rw [← hy] at p0 p1 p2 p3 p4
      have HREV := Lib.hid hrev
      have FW := Lib.hid (show ∀ W, Below wr.heap.size wr W → W.cell? ⟨x3.heap.size, 2, none⟩ = some (.slice (some ⟨b, off, none⟩) rs.length vc) ∧ W.cell? ⟨x3.heap.size + 1, 2, none⟩ = some (.slice ta (rs.reverse.take k).length tc) ∧ W.cell? ⟨b, off + q * 5, none⟩ = some (.int .i64 y.src) ∧ W.cell? ⟨b, off + q * 5 + 1, none⟩ = some (.int .i64 y.dst) ∧ W.cell? ⟨b, off + q * 5 + 2, none⟩ = some (.string (B y.inp)) ∧ W.cell? ⟨b, off + q * 5 + 3, none⟩ = some (.string (B y.out)) ∧ W.cell? ⟨b, off + q * 5 + 4, none⟩ = some (.int .i64 y.cost) from fun W hW =>
        ⟨(SS.out.below hW).cells.2.2, (ST.out.below hW).cells.2.2, (hW.cell (p := ⟨b, _, none⟩) hlt).trans p0, (hW.cell (p := ⟨b, _, none⟩) hlt).trans p1, (hW.cell (p := ⟨b, _, none⟩) hlt).trans p2, (hW.cell (p := ⟨b, _, none⟩) hlt).trans p3, (hW.cell (p := ⟨b, _, none⟩) hlt).trans p4⟩)
      obtain ⟨T, hTT⟩ : ∃ T, T = rs.reverse.take k := ⟨_, rfl⟩
      rw [← hTT] at ST HO HREV FW hkl ht
      have HQI := Lib.hid hqi
      have HKL := Lib.hid hkl
      rw [hqi]
      clear hq hqi hy hrev hv hP hc p0 p1 p2 p3 p4 hTT hs ht hkl
      go_upto_region 8 with fail
      refine wp_normal ?_
      refine wp_region_pick (C := fun W => Below wr.heap.size wr W) [0, 1, 2, 3, 4, 5, 6] [7, 8, 9, 10] (fun j => decide (8 ≤ j)) (by kernel_rfl) (by kernel_rfl) (by kernel_rfl) rfl (by kernel_rfl) (Below.refl _ _).drew (fun c d v a w h => by cases h.1) ?_
      refine hoistI_step (.pointer (some ⟨x3.heap.size + 1, 2, none⟩)) rfl (fun W hW => by go_simp) ?_
      refine hoistI_step (.slice ta T.length tc) rfl (fun W hW => by obtain ⟨f0, f1, f2, f3, f4, f5, f6⟩ := FW.out W hW; go_simp) ?_
      refine hoistI_step (.pointer (some ⟨x3.heap.size, 2, none⟩)) rfl (fun W hW => by go_simp) ?_
      refine hoistI_step (.slice (some ⟨b, off, none⟩) rs.length vc) rfl (fun W hW => by obtain ⟨f0, f1, f2, f3, f4, f5, f6⟩ := FW.out W hW; go_simp) ?_
      refine hoistI_step (.int .i64 (q : Nat)) rfl (fun W hW => by go_simp) ?_
      refine hoistI_step (.pointer (some ⟨b, off + q * 5, none⟩)) rfl (fun W hW => by go_simp) ?_
      refine hoistI_step (rlV y) rfl (fun W hW => by obtain ⟨f0, f1, f2, f3, f4, f5, f6⟩ := FW.out W hW; go_simp) ?_
      refine hoistI_done (seqI_step ?_)
      have D1 := (Below.refl wr.heap.size wr).drew
      have al := D1.alloc D1.size (.cells (rlCells y).toArray 29)
      refine wpOp_value (w' := wr.drew.alloc (.cells (rlCells y).toArray 29)) (.slice (some ⟨wr.drew.heap.size, 0, none⟩) 1 1) rfl rfl (by unfold rlV rlCells; go_simp) ⟨fun _ => al, ?_⟩
      refine seqI_tail 8 _ (by rfl) (by kernel_rfl) (by decide) ?_
      simp only [List.drop_succ_cons, List.drop_zero]
      obtain ⟨i0, hi0, hz0, hz1, hz2⟩ := info_parts infoRl
      have NW := heap_alloc_new wr.drew (.cells (rlCells y).toArray 29)
      have hsize : wr.heap.size ≤ (wr.drew.alloc (.cells (rlCells y).toArray 29)).heap.size := al.size
      generalize wr.drew.alloc (.cells (rlCells y).toArray 29) = x9 at *
      generalize wr.drew.heap.size = gn at *
      have HO9 := Lib.hid (HO.out.later al)
      have SS9 := Lib.hid (SS.out.below al)
      have ST9 := Lib.hid (ST.out.below al)
      have HD9 := Lib.hid (HD.out.trans (al.mono HD.out.size))
      have htl : T.length ≤ 12 := by have := HKL.out; omega
      clear al D1 HO SS ST HD FW
      refine wpList_append_own _ rfl _ _ 31 rfl (x3.heap.size + 2) 29 i0 _ 5 56 Tryd.underlying31 hi0 hz0 hz1 hz2 rfl (by decide) (.slice ta T.length tc) T.length (T.flatMap rlCells) (by go_simp) HO9.out ⟨gn, 0, none⟩ 1 1 (rlCells y) (by go_simp) rfl (World.news_of_block (cs := (rlCells y).toArray) (t := 29) (fr := (0, 0)) NW) (by simp [rlCells, Value.oneCell']) (by unfold maxLen; omega) (by omega) (by omega) ?_
      intro v2 w2 hown2 hgrow2 hnil2
      have HOE : RlsOwn w2 (x3.heap.size + 2) v2 (T ++ [y]) := by
        unfold RlsOwn
        rw [List.length_append, List.length_singleton, List.flatMap_append]
        simpa using hown2
      obtain ⟨g2b, cap2, rfl, hgb, hgl⟩ := hown2.form (by omega)
      have nrow : ∀ kx, kx < x3.heap.size + 2 → (Value.slice ta T.length tc).ownBlock ≠ some kx := fun kx h => HO9.out.ne h
      have hrow : ∀ kx, (Value.slice ta T.length tc).ownBlock = some kx → x3.heap.size ≤ kx := fun kx h => by
        refine Classical.byContradiction fun hn => ?_
        exact nrow kx (by omega) h
      have STA := (ST9.out.keptBy hgrow2 (nrow _ (by omega)))
      obtain ⟨t0, t1, t2⟩ := STA.cells
      have tf := STA.free
      have ST10 := Lib.hid (STA.put2 (v := .slice (some ⟨g2b, 0, none⟩) (T.length + 1) cap2))
      have SS10 := Lib.hid ((SS9.out.keptBy hgrow2 (nrow _ (by omega))).setCellK (b' := x3.heap.size + 1) (o := 2) (u := .slice (some ⟨g2b, 0, none⟩) (T.length + 1) cap2) (by omega))
      have HD10 := Lib.hid ((HD9.out.grown hgrow2 HD9.out.size hrow).setCell (p := ⟨x3.heap.size + 1, 2, none⟩) (by simp) (.slice (some ⟨g2b, 0, none⟩) (T.length + 1) cap2))
      have HO10 := Lib.hid (HOE.keep (W' := w2.setCell ⟨x3.heap.size + 1, 2, none⟩ (.slice (some ⟨g2b, 0, none⟩) (T.length + 1) cap2)) (fun g h1 h2 => heap_setCell_other w2 _ g _ (by show g ≠ x3.heap.size + 1; omega)))
      have hz10 : x3.heap.size + 2 ≤ (w2.setCell ⟨x3.heap.size + 1, 2, none⟩ (.slice (some ⟨g2b, 0, none⟩) (T.length + 1) cap2)).heap.size := by simp; omega
      clear SS9 ST9 HD9 HO9 hown2 hgrow2 hnil2 HOE hrow nrow STA NW hi0 hz0 hz1 hz2
      have hww : IntKind.i64.wrap ((q : Int) - 1) = (q : Int) - 1 := IntWalk.i64_in _ (by omega)
      have hl2 : (T ++ [y]).length = T.length + 1 := by simp
      go_wp2_with fail
      go_roundw
      case rel => exact ⟨k + 1, some ⟨g2b, 0, none⟩, cap2, by have := HQI.out; congr 1; push_cast; omega, by omega, SS10.out, by rw [HREV.out, hl2]; exact ST10.out, by rw [HREV.out, hl2]; exact HO10.out, HD10.out, hz10⟩
      case measure => (simp [intOf] <;> omega)
    · have hke : k = rs.length := by omega
      have hp : ¬ (0 : Int) ≤ (rs.length : Int) - 1 - (k : Int) := by omega
      have hfull : rs.reverse.take k = rs.reverse := by rw [List.take_of_length_le (by rw [List.length_reverse]; omega)]
      rw [hfull] at ST HO ht
      have hrlen : rs.reverse.length = rs.length := List.length_reverse
      obtain ⟨aa, cc, hvv, htcap, htat⟩ := HO.out.at
      obtain ⟨rfl, rfl⟩ : ta = aa ∧ tc = cc := by simpa using hvv
      have XT := Lib.hid htat
      have XS := Lib.hid (X3.out.on HD.out)
      have BW := Lib.hid (B3.out.trans (HD.out.mono B3.out.size))
      have ORD := Lib.hid (orders HV.out)
      have HSM := Lib.hid (show ∀ x ∈ rs, x.inp.length ≤ maxLen ∧ x.out.length ≤ maxLen from fun x hx => by
        obtain ⟨kk, hkk, rfl⟩ := List.getElem_of_mem hx
        have h := ((valid_ok HV.out).2.2.2.2 kk hkk).1
        have h1 := h.i
        have h2 := h.o
        unfold maxLen
        omega)
      have CF1 := fun W (h : Below wr.heap.size wr W) => Lib.hid (Find_any m acc va vc rs W (HT.out.below (BW.out.trans (h.mono BW.out.size)) H0.out) (Nat.lt_of_lt_of_le H0.out (Nat.le_trans BW.out.size h.size)) (by omega) h256 (XS.out.on h) hcap (by omega) HSM.out)
      have CF2 := fun W (h : Below wr.heap.size wr W) => Lib.hid (Find_any m acc ta tc rs.reverse W (HT.out.below (BW.out.trans (h.mono BW.out.size)) H0.out) (Nat.lt_of_lt_of_le H0.out (Nat.le_trans BW.out.size h.size)) (by omega) h256 (XT.out.on h) htcap (by omega) (fun x hx => HSM.out x (List.mem_reverse.1 hx)))
      have CS1 := fun W (h : Below wr.heap.size wr W) => Lib.hid (Sound_any m acc va vc rs W (HT.out.below (BW.out.trans (h.mono BW.out.size)) H0.out) (Nat.lt_of_lt_of_le H0.out (Nat.le_trans BW.out.size h.size)) (by omega) h256 (XS.out.on h) hcap (by omega) HSM.out)
      have CS2 := fun W (h : Below wr.heap.size wr W) => Lib.hid (Sound_any m acc ta tc rs.reverse W (HT.out.below (BW.out.trans (h.mono BW.out.size)) H0.out) (Nat.lt_of_lt_of_le H0.out (Nat.le_trans BW.out.size h.size)) (by omega) h256 (XT.out.on h) htcap (by omega) (fun x hx => HSM.out x (List.mem_reverse.1 hx)))
      simp only [hrlen] at CF2 CS2
      obtain ⟨s0, s1, s2⟩ := SS.out.cells
      clear hvv htat hs ht hfull HO XT XS HD hke
      go_wp2_with fail
      refine ((CF1 wr (Below.refl _ _)).out).mono ?_
      rintro e x6 ⟨v6, rfl, hrep, hb⟩
      obtain ⟨rp, hrp⟩ : ∃ r, r = repC m acc rs := ⟨_, rfl⟩
      obtain ⟨rq, hrq⟩ : ∃ r, r = repC m acc rs.reverse := ⟨_, rfl⟩
      have DM := Lib.hid (show (∀ x ∈ rp.dead, 0 ≤ x ∧ x < (rs.length : Int)) ∧ rp.dead.length ≤ rs.length by rw [hrp]; exact ⟨dead_mem, dead_len⟩)
      rw [← hrp] at hrep
      have ORD2 := Lib.hid (show soundC m acc rs.reverse = soundC m acc rs ∧ rq.dead = (rp.dead.map fun i => (rs.length : Int) - 1 - i).reverse ∧ rq.stuck.length = rp.stuck.length ∧ rq.endless.length = rp.endless.length by rw [hrp, hrq]; exact ORD.out.2)
      rw [← hrq] at CF2
      obtain ⟨a1, a2, a3, c1, c2, c3, rfl, n1, n2, n3⟩ := hrep
      have N1 := Lib.hid n1
      have SS6 := Lib.hid (SS.out.below hb)
      have ST6 := Lib.hid (ST.out.below hb)
      have BB6 := Lib.hid hb
      clear n1 n2 n3 hb SS ST s0 s1 s2 CF1 ORD hrp hrq
      have NB := RpBlock.new x6 (.slice none 0 0) (.slice none 0 0) (.slice none 0 0)
      have AL := Lib.hid ((Below.refl x6.heap.size x6).alloc (Nat.le_refl _) (.cells #[.slice none 0 0, .slice none 0 0, .slice none 0 0] 40))
      go_upto_region 10 with (first | (refine wpList_store_rp rfl _ _ rfl _ _ _ _ NB rfl a1 a2 a3 rp.dead.length rp.stuck.length rp.endless.length c1 c2 c3 rfl ?_; intro W7 RB hg' hs'; clear NB))
      have hbb := AL.out.grown hg' AL.out.size (by simp)
      have N17 := Lib.hid (N1.out.on hbb)
      have SS7 := Lib.hid (SS6.out.below hbb)
      have ST7 := Lib.hid (ST6.out.below hbb)
      have RP7 := Lib.hid RB
      have BB7 := Lib.hid (BB6.out.trans (hbb.mono BB6.out.size))
      clear hbb hg' hs' RB AL N1 SS6 ST6 BB6
      generalize x6.heap.size = g8 at *
      obtain ⟨s0, s1, s2⟩ := ST7.out.cells
      go_wp2_with fail
      refine ((CF2 W7 BB7.out).out).mono ?_
      rintro e x8 ⟨v8, rfl, hrep, hb⟩
      obtain ⟨b1, b2, b3, d1, d2, d3, rfl, n1, n2, n3⟩ := hrep
      have N2 := Lib.hid n1
      have N18 := Lib.hid (N17.out.on hb)
      have SS8 := Lib.hid (SS7.out.below hb)
      have ST8 := Lib.hid (ST7.out.below hb)
      have RP8 := Lib.hid (RP7.out.below hb)
      have BB8 := Lib.hid (BB7.out.trans (hb.mono BB7.out.size))
      clear n1 n2 n3 hb N17 SS7 ST7 RP7 BB7 s0 s1 s2 CF2
      have NB := RpBlock.new x8 (.slice none 0 0) (.slice none 0 0) (.slice none 0 0)
      have AL := Lib.hid ((Below.refl x8.heap.size x8).alloc (Nat.le_refl _) (.cells #[.slice none 0 0, .slice none 0 0, .slice none 0 0] 40))
      go_upto_region 11 with (first | (refine wpList_store_rp rfl _ _ rfl _ _ _ _ NB rfl b1 b2 b3 rq.dead.length rq.stuck.length rq.endless.length d1 d2 d3 rfl ?_; intro W9 RB hg' hs'; clear NB))
      have hbb := AL.out.grown hg' AL.out.size (by simp)
      have N19 := Lib.hid (N18.out.on hbb)
      have N29 := Lib.hid (N2.out.on hbb)
      have SS9 := Lib.hid (SS8.out.below hbb)
      have ST9 := Lib.hid (ST8.out.below hbb)
      have RP9 := Lib.hid (RP8.out.below hbb)
      have RQ9 := Lib.hid RB
      have BB9 := Lib.hid (BB8.out.trans (hbb.mono BB8.out.size))
      clear hbb hg' hs' RB AL N18 N2 SS8 ST8 RP8 BB8
      generalize x8.heap.size = g9 at *
      obtain ⟨O1, O2, O3, O4⟩ := ORD2.out
      have L1 : rq.dead.length = rp.dead.length := by rw [O2]; simp
      have DL : rp.dead.length ≤ 12 := Nat.le_trans DM.out.2 hrl
      obtain ⟨Z, hZ⟩ : ∃ Z, Z = soundC m acc rs := ⟨_, rfl⟩
      have C1 : ∀ W, Below W9.heap.size W9 W → Calls Tryd.prog 16 #[.agg #[.int .i64 (m : Nat), .int .u8 (acc : Nat), .slice va rs.length vc]] W fun e w' => e = .returned (.int .i64 Z) ∧ Below W9.heap.size W9 w' := fun W h => ((CS1 W (BB9.out.trans (h.mono BB9.out.size))).out).mono fun e w' h' => ⟨by rw [hZ]; exact h'.1, h.trans (h'.2.mono h.size)⟩
      have C2 : ∀ W, Below W9.heap.size W9 W → Calls Tryd.prog 16 #[.agg #[.int .i64 (m : Nat), .int .u8 (acc : Nat), .slice ta rs.length tc]] W fun e w' => e = .returned (.int .i64 Z) ∧ Below W9.heap.size W9 w' := fun W h => ((CS2 W (BB9.out.trans (h.mono BB9.out.size))).out).mono fun e w' h' => ⟨by rw [hZ, ← O1]; exact h'.1, h.trans (h'.2.mono h.size)⟩
      have FW := Lib.hid (show ∀ W, Below W9.heap.size W9 W → ((W.cell? ⟨x3.heap.size, 0, none⟩ = some (.int .i64 (m : Nat)) ∧ W.cell? ⟨x3.heap.size, 1, none⟩ = some (.int .u8 (acc : Nat)) ∧ W.cell? ⟨x3.heap.size, 2, none⟩ = some (.slice va rs.length vc)) ∧ (W.cell? ⟨x3.heap.size + 1, 0, none⟩ = some (.int .i64 (m : Nat)) ∧ W.cell? ⟨x3.heap.size + 1, 1, none⟩ = some (.int .u8 (acc : Nat)) ∧ W.cell? ⟨x3.heap.size + 1, 2, none⟩ = some (.slice ta rs.length tc))) ∧ (W.cell? ⟨g8, 0, none⟩ = some (.slice a1 rp.dead.length c1) ∧ W.cell? ⟨g8, 1, none⟩ = some (.slice a2 rp.stuck.length c2) ∧ W.cell? ⟨g8, 2, none⟩ = some (.slice a3 rp.endless.length c3)) ∧ (W.cell? ⟨g9, 0, none⟩ = some (.slice b1 rp.dead.length d1) ∧ W.cell? ⟨g9, 1, none⟩ = some (.slice b2 rp.stuck.length d2) ∧ W.cell? ⟨g9, 2, none⟩ = some (.slice b3 rp.endless.length d3)) from fun W h =>
        ⟨⟨(SS9.out.below h).cells, by have := (ST9.out.below h).cells; rw [hrlen] at this; exact this⟩, (RP9.out.below h).cells, by have := (RQ9.out.below h).cells; rw [L1, O3, O4] at this; exact this⟩)
      dsimp only [Act.put]
      refine wp_normal ?_
      refine wp_region_class (C := fun W => Below W9.heap.size W9 W) (by kernel_rfl) (by kernel_rfl) (Below.refl _ _).drew ?_
      clear O1 O2 O3 O4 hZ
      repeat (first | go_big_quiet_skip | (go_big_quiet_want; first | (go_big_quiet_op; go_big_quiet_on) | (refine quiet_value ?_ (fun W h => ?_) ?_; rotate_left; (· obtain ⟨⟨⟨f0, f1, f2⟩, f3, f4, f5⟩, ⟨f6, f7, f8⟩, f9, f10, f11⟩ := FW.out W h; go_simp; rfl); go_simp; go_big_quiet_on) | (refine quiet_call _ _ _ (fun W => ?_) C1 ?_; (· go_simp; done); go_simp; go_big_quiet_on) | (refine quiet_call _ _ _ (fun W => ?_) C2 ?_; (· go_simp; done); go_simp; go_big_quiet_on)))
      refine wpQuiet_nil ?_
      intro W10 hcj
      refine ⟨rfl, ?_⟩
      have HC := Lib.hid hcj
      clear hcj C1 C2 CS1 CS2
      obtain ⟨-, O2, -, -⟩ := ORD2.out
      have HO2 := Lib.hid O2
      clear O2
      go_wp2_with fail
      go_loopw [10] (fun iv wr => ∃ i : Nat, iv = .int .i64 (i : Nat) ∧ i ≤ rp.dead.length ∧ Below W9.heap.size W9 wr) (fun iv _ => rp.dead.length - (intOf iv).toNat)
      case atStart => exact ⟨0, rfl, Nat.zero_le _, HC.out⟩
      case round =>
        obtain ⟨i, rfl, hi, hz⟩ := hrel
        have HZ := Lib.hid hz
        obtain ⟨⟨⟨f0, f1, f2⟩, f3, f4, f5⟩, ⟨f6, f7, f8⟩, f9, f10, f11⟩ := FW.out _ hz
        clear hz f0 f1 f2 f3 f4 f5 f7 f8 f10 f11
        have i0 : (0 : Int) ≤ (i : Int) := by omega
        by_cases h4 : i < rp.dead.length
        · have h4' : (i : Int) < (rp.dead.length : Int) := by omega
          obtain ⟨a', c', hv, hP⟩ := N19.out.on HZ.out
          obtain ⟨rfl, rfl⟩ : a1 = a' ∧ c1 = c' := by simpa using hv
          obtain ⟨bp, op, rfl, hlp, hcp⟩ := hP (by omega)
          obtain ⟨a', c', hv', hP'⟩ := N29.out.on HZ.out
          rw [L1] at hv'
          obtain ⟨rfl, rfl⟩ : b1 = a' ∧ d1 = c' := by simpa using hv'
          obtain ⟨bq, oq, rfl, hlq, hcq⟩ := hP' (by omega)
          obtain ⟨j, hj⟩ : ∃ j : Nat, j = rp.dead.length - 1 - i := ⟨_, rfl⟩
          have hjl : j < rq.dead.length := by omega
          obtain ⟨D, hD⟩ : ∃ D, D = rp.dead[i] := ⟨_, rfl⟩
          have hDb := DM.out.1 D (by rw [hD]; exact List.getElem_mem h4)
          have hqj : rq.dead[j] = (rs.length : Int) - 1 - D := by
            have h5 : rq.dead[j]? = some ((rs.length : Int) - 1 - D) := by
              rw [HO2.out, List.getElem?_reverse (by rw [List.length_map]; omega), List.length_map, List.getElem?_map, show rp.dead.length - 1 - j = i by omega, List.getElem?_eq_getElem h4, hD]
              rfl
            rw [List.getElem?_eq_getElem hjl] at h5
            exact Option.some.inj h5
          have p1 := hcp i h4
          have p2 := hcq j hjl
          rw [← hD] at p1
          rw [hqj] at p2
          have hji : (rp.dead.length : Int) - 1 - (i : Int) = (j : Int) := by omega
          have hj0 : (0 : Int) ≤ (j : Int) := by omega
          have hjI : (j : Int) < (rp.dead.length : Int) := by omega
          have w1 : IntKind.i64.wrap ((rp.dead.length : Int) - 1) = (rp.dead.length : Int) - 1 := IntWalk.i64_in _ (by omega)
          have w2 : IntKind.i64.wrap (j : Int) = (j : Int) := IntWalk.i64_in _ (by omega)
          have w3 : IntKind.i64.wrap ((rs.length : Int) - 1) = (rs.length : Int) - 1 := IntWalk.i64_in _ (by omega)
          have w4 : IntKind.i64.wrap ((rs.length : Int) - 1 - D) = (rs.length : Int) - 1 - D := IntWalk.i64_in _ (by omega)
          have FX := Lib.hid (show ∀ W, Below wr.heap.size wr W → W.cell? ⟨g8, 0, none⟩ = some (.slice (some ⟨bp, op, none⟩) rp.dead.length c1) ∧ W.cell? ⟨g9, 0, none⟩ = some (.slice (some ⟨bq, oq, none⟩) rp.dead.length d1) ∧ W.cell? ⟨bp, op + i, none⟩ = some (.int .i64 D) ∧ W.cell? ⟨bq, oq + j, none⟩ = some (.int .i64 ((rs.length : Int) - 1 - D)) from fun W h =>
            ⟨(h.cell (p := ⟨g8, 0, none⟩) (World.block_lt_of_cell? _ _ f6)).trans f6, (h.cell (p := ⟨g9, 0, none⟩) (World.block_lt_of_cell? _ _ f9)).trans f9, (h.cell (p := ⟨bp, _, none⟩) hlp).trans p1, (h.cell (p := ⟨bq, _, none⟩) hlq).trans p2⟩)
          clear hv hP hcp hv' hP' hcq hj hD hqj p1 p2
          go_upto_region 16 with fail
          clear f6 f9
          have hdn : ((rs.length : Int) - 1 - D != (rs.length : Int) - 1 - D) = false := by simp
          refine wp_normal ?_
          refine wp_region_class (C := fun W => Below wr.heap.size wr W) (by kernel_rfl) (by kernel_rfl) (Below.refl _ _).drew ?_
          repeat (first | go_big_quiet_skip | (go_big_quiet_want; first | (go_big_quiet_op; go_big_quiet_on) | (refine quiet_value ?_ (fun W h => ?_) ?_; rotate_left; (· obtain ⟨f0, f1, f2, f3⟩ := FX.out W h; go_simp; rfl); go_simp; go_big_quiet_on)))
          refine wpQuiet_nil ?_
          intro W10 hcj
          refine ⟨rfl, ?_⟩
          have HZ2 := Lib.hid (HZ.out.trans (hcj.mono HZ.out.size))
          clear FX hcj
          go_wp2_with fail
          go_roundw
          case rel => exact ⟨i + 1, by go_num, by omega, HZ2.out⟩
          case measure => (simp [intOf] <;> omega)
        · have h4' : ¬ (i : Int) < (rp.dead.length : Int) := by omega
          have BF := Lib.hid (BW.out.trans ((BB9.out.trans (HZ.out.mono BB9.out.size)).mono BW.out.size))
          go_wp2_with fail
          go_ret
          exact ⟨rfl, BF.out⟩
end Go.Proofs.YthgealgaefimpaaDoor
