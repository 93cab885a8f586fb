/-
  FlawSound's walk.
-/
import Derived.Test.YthgealgaefimpaaDoorGU
namespace Go.Proofs.YthgealgaefimpaaDoor
open Go.RowKit
open Pl

set_option maxHeartbeats 4000000 in
set_option maxRecDepth 100000 in
theorem FlawSound_any (M A : Nat) (ma : Option Addr) (mn mc : Nat) (w : World) (hT : StrTab w) (h0 : 0 < w.heap.size) (hM : M < 256) (hA : A < 256) (hx : TrisAt w w.heap.size (.slice ma mn mc) mn) (hl : mn ≤ maxLen) :
    Calls Tryd.prog 7 #[.agg #[.int .u8 (M : Nat), .int .u8 (A : Nat), .slice ma mn mc]] w fun e w' => e = .returned (.bool true) ∧ Below w.heap.size w w' := by
  have b1 := (Below.refl w.heap.size w).alloc (Nat.le_refl _) (.cells #[.int .u8 (M : Nat), .int .u8 (A : Nat), .slice ma mn mc] 24)
  have r1 := FRBlock.new w (.int .u8 (M : Nat)) (.int .u8 (A : Nat)) (.slice ma mn mc)
  have R1 := Lib.hid r1
  have B1 := Lib.hid b1
  have HX := Lib.hid hx
  have HT := Lib.hid hT
  have H0 := Lib.hid h0
  clear hx hT h0 b1 r1
  go_enter Tryd.func7, Tryd.ntmps7
  go_upto_region 1 with fail
  generalize w.alloc _ = x1 at *
  go_wp2_with fail
  refine (San_any x1 (HT.out.below B1.out H0.out) (Nat.lt_of_lt_of_le H0.out B1.out.size)).mono ?_
  rintro e x2 ⟨rfl, hb⟩
  have R2 := Lib.hid (R1.out.below hb)
  have B2 := Lib.hid (B1.out.trans (hb.mono B1.out.size))
  clear hb R1 B1
  obtain ⟨r0, r1, r2⟩ := R2.out.cells
  go_wp2_with fail
  refine (FMade_any M A ma mn mc x2 hM hA (HX.out.on B2.out) hl).mono ?_
  rintro e x3 ⟨m, acc, rs, va, vc, rfl, hm, h256, hv, hl12, hown, hb⟩
  have HRs := Lib.hid hown
  have HV := Lib.hid hv
  have B3 := Lib.hid (B2.out.trans (hb.mono B2.out.size))
  clear hown hv hb R2 r0 r1 r2
  obtain ⟨gs, hgs⟩ : ∃ g, g = x3.heap.size := ⟨_, rfl⟩
  have NB := SchBlock.new x3 (.int .i64 0) (.int .u8 0) (.slice none 0 0)
  have AL := Lib.hid ((Below.refl x3.heap.size x3).alloc (Nat.le_refl _) (.cells #[.int .i64 0, .int .u8 0, .slice none 0 0] 33))
  go_upto_region 3 with (first | (refine wpList_store_sch rfl _ _ rfl _ _ _ _ NB rfl (m : Int) (acc : Int) va rs.length vc rfl ?_; intro W4 SB hg' hs'; clear NB))
  have hbb := AL.out.grown hg' AL.out.size (by simp)
  obtain ⟨aa, cc, hvv, hcap, hat⟩ := HRs.out.at
  obtain ⟨rfl, rfl⟩ : va = aa ∧ vc = cc := by simpa using hvv
  have XS := Lib.hid ((show RlsAt x3 x3.heap.size (.slice va rs.length vc) rs from hat).on hbb)
  have SS := Lib.hid SB
  have BW := Lib.hid (B3.out.trans (hbb.mono B3.out.size))
  clear hvv hat hbb hg' hs' SB AL HRs B3
  rw [← hgs] at SS
  rw [← hgs]
  clear hgs
  have hrl : rs.length ≤ 12 := hl12
  have HSM := Lib.hid (show ∀ x ∈ rs, x.inp.length ≤ maxLen ∧ x.out.length ≤ maxLen from fun x hx => by
    obtain ⟨kk, hkk, rfl⟩ := List.getElem_of_mem hx
    have h := ((valid_ok HV.out).2.2.2.2 kk hkk).1
    have h1 := h.i
    have h2 := h.o
    unfold maxLen
    omega)
  have CF := Lib.hid (Find_any m acc va vc rs W4 (HT.out.below BW.out H0.out) (Nat.lt_of_lt_of_le H0.out BW.out.size) (by omega) h256 XS.out hcap (by omega) HSM.out)
  obtain ⟨s0, s1, s2⟩ := SS.out.cells
  go_wp2_with fail
  refine CF.out.mono ?_
  rintro e x5 ⟨v5, rfl, hrep, hb⟩
  obtain ⟨rp, hrp⟩ : ∃ r, r = repC m acc rs := ⟨_, rfl⟩
  have SK := Lib.hid (sound_kept h256 HV.out)
  have HD := Lib.hid (show rp.dead = pickN (deadK (rMs m rs) (lMs m acc rs)) rs rs.length by rw [hrp]; unfold repC; rw [if_pos HV.out])
  rw [← hrp] at hrep SK
  obtain ⟨a1, a2, a3, c1, c2, c3, rfl, n1, n2, n3⟩ := hrep
  have XS5 := Lib.hid (XS.out.on hb)
  have SS5 := Lib.hid (SS.out.below hb)
  have BW5 := Lib.hid (BW.out.trans (hb.mono BW.out.size))
  have N5 := Lib.hid n1
  clear n1 n2 n3 hb SS XS BW CF hrp s0 s1 s2
  obtain ⟨gr, hgr⟩ : ∃ g, g = x5.heap.size := ⟨_, rfl⟩
  have NB := RpBlock.new x5 (.slice none 0 0) (.slice none 0 0) (.slice none 0 0)
  have AL := Lib.hid ((Below.refl x5.heap.size x5).alloc (Nat.le_refl _) (.cells #[.slice none 0 0, .slice none 0 0, .slice none 0 0] 40))
  go_upto_region 4 with (first | (refine wpList_store_rp rfl _ _ rfl _ _ _ _ NB rfl a1 a2 a3 rp.dead.length rp.stuck.length rp.endless.length c1 c2 c3 rfl ?_; intro W6 RB hg' hs'; clear NB))
  have hbb := AL.out.grown hg' AL.out.size (by simp)
  have N6 := Lib.hid (N5.out.on hbb)
  have XS6 := Lib.hid (XS5.out.on hbb)
  have SS6 := Lib.hid (SS5.out.below hbb)
  have RP6 := Lib.hid RB
  have BW6 := Lib.hid (BW5.out.trans (hbb.mono BW5.out.size))
  clear hbb hg' hs' RB AL N5 XS5 SS5 BW5
  rw [← hgr] at RP6
  rw [← hgr]
  clear hgr
  obtain ⟨s0, s1, s2⟩ := SS6.out.cells
  obtain ⟨gt, hgt⟩ : ∃ g, g = W6.heap.size := ⟨_, rfl⟩
  have NB := SchBlock.new W6 (.int .i64 0) (.int .u8 0) (.slice none 0 0)
  have AL := Lib.hid ((Below.refl W6.heap.size W6).alloc (Nat.le_refl _) (.cells #[.int .i64 0, .int .u8 0, .slice none 0 0] 33))
  go_upto_region 5 with (first | (refine wpList_store_sch rfl _ _ rfl _ _ _ _ NB rfl (m : Int) (acc : Int) none 0 0 rfl ?_; intro W7 SB hg' hs'; clear NB))
  have hbb := AL.out.grown hg' AL.out.size (by simp)
  have ST7 := Lib.hid SB
  have D7 := Lib.hid hbb
  have hz7 : gt + 1 ≤ W7.heap.size := by rw [hs', World.size_alloc, hgt]; exact Nat.le_refl _
  clear hbb hg' hs' SB AL s0 s1 s2
  rw [← hgt] at ST7 D7
  rw [← hgt]
  have HGT := Lib.hid hgt
  clear hgt
  obtain ⟨P, hP⟩ : ∃ P : Rl → Bool, P = fun x => !deadK (rMs m rs) (lMs m acc rs) x := ⟨_, rfl⟩
  have HP := Lib.hid hP
  clear hP
  go_wp2_with fail
  go_loopw [7] (fun iv wr => ∃ (k : Nat) (ta : Option Addr) (tc : Nat), iv = .int .i64 (k : Nat) ∧ k ≤ rs.length ∧ SchBlock wr gt (.int .i64 (m : Nat)) (.int .u8 (acc : Nat)) (.slice ta ((rs.take k).filter P).length tc) ∧ RlsOwn wr (gt + 1) (.slice ta ((rs.take k).filter P).length tc) ((rs.take k).filter P) ∧ Below gt W6 wr ∧ gt + 1 ≤ wr.heap.size) (fun iv _ => rs.length - (intOf iv).toNat)
  case atStart => exact ⟨0, none, 0, rfl, by omega, ST7.out, ⟨rfl, Or.inl ⟨rfl, rfl⟩⟩, D7.out, hz7⟩
  case round =>
    obtain ⟨k, ta, tc, rfl, hk, ht, ho, hd, hz⟩ := hrel
    have k0 : (0 : Int) ≤ (k : Int) := by omega
    have ST := Lib.hid ht
    have HO := Lib.hid ho
    have HDD := Lib.hid hd
    have HG := Lib.hid hz
    clear ht ho hd hz ST7 D7 hz7
    have hd6 := HDD.out
    rw [HGT.out] at hd6
    have SS8 := Lib.hid (SS6.out.below hd6)
    have RP8 := Lib.hid (RP6.out.below hd6)
    have XS8 := Lib.hid (XS6.out.on hd6)
    have N8 := Lib.hid (N6.out.on hd6)
    have BW8 := Lib.hid (BW6.out.trans (hd6.mono BW6.out.size))
    clear hd6
    obtain ⟨s0, s1, s2⟩ := SS8.out.cells
    obtain ⟨q0, q1, q2⟩ := RP8.out.cells
    by_cases h1 : (k : Int) < (rs.length : Int)
    · have hkl : k < rs.length := by omega
      obtain ⟨y, hy⟩ : ∃ y, y = rs[k] := ⟨_, rfl⟩
      have hin : ((k : Int) ∈ rp.dead) ↔ P y = false := by
        rw [HD.out, pickN_at _ _ _ hkl, hy, HP.out]
        simp
      have htk : (rs.take (k + 1)).filter P = (rs.take k).filter P ++ (if P y = true then [y] else []) := by
        rw [List.take_succ_eq_append_getElem hkl, List.filter_append, ← hy]
        cases hq : P y <;> simp [hq]
      obtain ⟨T, hTT⟩ : ∃ T, T = (rs.take k).filter P := ⟨_, rfl⟩
      have htl : T.length ≤ 12 := by
        have h1 := List.length_filter_le P (rs.take k)
        rw [List.length_take] at h1
        rw [hTT]; omega
      rw [← hTT] at ST HO htk
      clear hTT
      have HTK := Lib.hid htk
      have HIN := Lib.hid hin
      have HY := Lib.hid hy
      clear htk hin hy
      go_wp2_with fail
      refine (FHas_any a1 c1 rp.dead (k : Int) wr N8.out (by rw [HD.out]; have := pickN_len (deadK (rMs m rs) (lMs m acc rs)) rs rs.length; unfold maxLen; omega)).mono ?_
      rintro e x9 ⟨rfl, hb⟩
      by_cases hq : P y = true
      · have hde : decide ((k : Int) ∈ rp.dead) = false := decide_eq_false (fun h => by rw [HIN.out.1 h] at hq; cases hq)
        rw [hde]
        have hbt : Below gt wr x9 := hb.mono (by have := HG.out; omega)
        have ST9 := Lib.hid (ST.out.below hb)
        have SS9 := Lib.hid (SS8.out.below hb)
        have XS9 := Lib.hid (XS8.out.on hb)
        have HO9 := Lib.hid (HO.out.later hb)
        have HD9 := Lib.hid (HDD.out.trans hbt)
        have HG9 := Lib.hid (Nat.le_trans HG.out hb.size)
        have HTQ := Lib.hid (show (rs.take (k + 1)).filter P = T ++ [y] by rw [HTK.out, if_pos hq])
        clear hb hbt hde hq ST SS8 XS8 HO HDD HG HTK HIN s0 s1 s2 q0 q1 q2 N8 RP8 BW8
        obtain ⟨a', c', hv, hPP⟩ := XS9.out
        obtain ⟨rfl, -⟩ : va = a' ∧ vc = c' := by simpa using hv
        obtain ⟨b, off, ha, hlt, hc⟩ := hPP (by omega)
        subst ha
        obtain ⟨p0, p1, p2, p3, p4⟩ := hc k hkl
        rw [← HY.out] at p0 p1 p2 p3 p4
        have FW := Lib.hid (show ∀ W, Below x9.heap.size x9 W → W.cell? ⟨gs, 2, none⟩ = some (.slice (some ⟨b, off, none⟩) rs.length vc) ∧ W.cell? ⟨gt, 2, none⟩ = some (.slice ta T.length tc) ∧ W.cell? ⟨b, off + k * 5, none⟩ = some (.int .i64 y.src) ∧ W.cell? ⟨b, off + k * 5 + 1, none⟩ = some (.int .i64 y.dst) ∧ W.cell? ⟨b, off + k * 5 + 2, none⟩ = some (.string (B y.inp)) ∧ W.cell? ⟨b, off + k * 5 + 3, none⟩ = some (.string (B y.out)) ∧ W.cell? ⟨b, off + k * 5 + 4, none⟩ = some (.int .i64 y.cost) from fun W hW =>
          ⟨(SS9.out.below hW).cells.2.2, (ST9.out.below hW).cells.2.2, (hW.cell (p := ⟨b, _, none⟩) hlt).trans p0, (hW.cell (p := ⟨b, _, none⟩) hlt).trans p1, (hW.cell (p := ⟨b, _, none⟩) hlt).trans p2, (hW.cell (p := ⟨b, _, none⟩) hlt).trans p3, (hW.cell (p := ⟨b, _, none⟩) hlt).trans p4⟩)
        clear hv hPP hc p0 p1 p2 p3 p4
        go_upto_region 9 with fail
        refine wp_normal ?_
        refine wp_region_pick (C := fun W => Below x9.heap.size x9 W) [0, 1, 2, 3, 4, 5, 6] [7, 8, 9, 10] (fun j => decide (8 ≤ j)) (by kernel_rfl) (by kernel_rfl) (by kernel_rfl) rfl (by kernel_rfl) (Below.refl _ _).drew (fun c d v a w h => by cases h.1) ?_
        refine hoistI_step (.pointer (some ⟨gt, 2, none⟩)) rfl (fun W hW => by go_simp) ?_
        refine hoistI_step (.slice ta T.length tc) rfl (fun W hW => by obtain ⟨f0, f1, f2, f3, f4, f5, f6⟩ := FW.out W hW; go_simp) ?_
        refine hoistI_step (.pointer (some ⟨gs, 2, none⟩)) rfl (fun W hW => by go_simp) ?_
        refine hoistI_step (.slice (some ⟨b, off, none⟩) rs.length vc) rfl (fun W hW => by obtain ⟨f0, f1, f2, f3, f4, f5, f6⟩ := FW.out W hW; go_simp) ?_
        refine hoistI_step (.int .i64 (k : Nat)) rfl (fun W hW => by go_simp) ?_
        refine hoistI_step (.pointer (some ⟨b, off + k * 5, none⟩)) rfl (fun W hW => by go_simp) ?_
        refine hoistI_step (rlV y) rfl (fun W hW => by obtain ⟨f0, f1, f2, f3, f4, f5, f6⟩ := FW.out W hW; go_simp) ?_
        refine hoistI_done (seqI_step ?_)
        have D1 := (Below.refl x9.heap.size x9).drew
        have al := D1.alloc D1.size (.cells (rlCells y).toArray 29)
        refine wpOp_value (w' := x9.drew.alloc (.cells (rlCells y).toArray 29)) (.slice (some ⟨x9.drew.heap.size, 0, none⟩) 1 1) rfl rfl (by unfold rlV rlCells; go_simp) ⟨fun _ => al, ?_⟩
        refine seqI_tail 8 _ (by rfl) (by kernel_rfl) (by decide) ?_
        simp only [List.drop_succ_cons, List.drop_zero]
        obtain ⟨i0, hi0, hz0, hz1, hz2⟩ := info_parts infoRl
        have NW := heap_alloc_new x9.drew (.cells (rlCells y).toArray 29)
        have hsize : x9.heap.size ≤ (x9.drew.alloc (.cells (rlCells y).toArray 29)).heap.size := al.size
        generalize x9.drew.alloc (.cells (rlCells y).toArray 29) = x10 at *
        generalize x9.drew.heap.size = gn at *
        have HO10 := Lib.hid (HO9.out.later al)
        have ST10 := Lib.hid (ST9.out.below al)
        have HD10 := Lib.hid (HD9.out.trans (al.mono (Nat.le_trans (Nat.le_succ gt) HG9.out)))
        have hgx : gt + 1 ≤ x10.heap.size := Nat.le_trans HG9.out hsize
        clear al D1 HO9 SS9 ST9 HD9 FW XS9 HG9 hsize
        refine wpList_append_own _ rfl _ _ 31 rfl (gt + 1) 29 i0 _ 5 56 Tryd.underlying31 hi0 hz0 hz1 hz2 rfl (by decide) (.slice ta T.length tc) T.length (T.flatMap rlCells) (by go_simp) HO10.out ⟨gn, 0, none⟩ 1 1 (rlCells y) (by go_simp) rfl (World.news_of_block (cs := (rlCells y).toArray) (t := 29) (fr := (0, 0)) NW) (by simp [rlCells, Value.oneCell']) (by unfold maxLen; omega) (by omega) (by omega) ?_
        intro v2 w2 hown2 hgrow2 hnil2
        have HOE : RlsOwn w2 (gt + 1) v2 (T ++ [y]) := by
          unfold RlsOwn
          rw [List.length_append, List.length_singleton, List.flatMap_append]
          simpa using hown2
        obtain ⟨g2b, cap2, rfl, hgb, hgl⟩ := hown2.form (by omega)
        have nrow : ∀ kx, kx < gt + 1 → (Value.slice ta T.length tc).ownBlock ≠ some kx := fun kx h => HO10.out.ne h
        have hrow : ∀ kx, (Value.slice ta T.length tc).ownBlock = some kx → gt ≤ kx := fun kx h => by
          refine Classical.byContradiction fun hn => ?_
          exact nrow kx (by omega) h
        have STA := (ST10.out.keptBy hgrow2 (nrow _ (by omega)))
        obtain ⟨t0, t1, t2⟩ := STA.cells
        have tf := STA.free
        have ST11 := Lib.hid (STA.put2 (v := .slice (some ⟨g2b, 0, none⟩) (T.length + 1) cap2))
        have HD11 := Lib.hid ((HD10.out.grown hgrow2 (by omega) hrow).setCell (p := ⟨gt, 2, none⟩) (by simp) (.slice (some ⟨g2b, 0, none⟩) (T.length + 1) cap2))
        have HO11 := Lib.hid (HOE.keep (W' := w2.setCell ⟨gt, 2, none⟩ (.slice (some ⟨g2b, 0, none⟩) (T.length + 1) cap2)) (fun g h1 h2 => heap_setCell_other w2 _ g _ (by show g ≠ gt; omega)))
        have hz11 : gt + 1 ≤ (w2.setCell ⟨gt, 2, none⟩ (.slice (some ⟨g2b, 0, none⟩) (T.length + 1) cap2)).heap.size := by simp; omega
        clear ST10 HD10 HO10 hown2 hgrow2 hnil2 HOE hrow nrow STA NW hi0 hz0 hz1 hz2
        have hl2 : (T ++ [y]).length = T.length + 1 := by simp
        go_wp2_with fail
        go_roundw
        case rel => exact ⟨k + 1, some ⟨g2b, 0, none⟩, cap2, by go_num, by omega, by rw [HTQ.out, hl2]; exact ST11.out, by rw [HTQ.out, hl2]; exact HO11.out, HD11.out, hz11⟩
        case measure => (simp [intOf] <;> omega)
      · have hqf : P y = false := by simpa using hq
        have hde : decide ((k : Int) ∈ rp.dead) = true := decide_eq_true (HIN.out.2 hqf)
        rw [hde]
        have HTQ := Lib.hid (show (rs.take (k + 1)).filter P = T by rw [HTK.out, if_neg hq, List.append_nil])
        have HA := Lib.hid (show SchBlock x9 gt (.int .i64 (m : Nat)) (.int .u8 (acc : Nat)) (.slice ta T.length tc) ∧ RlsOwn x9 (gt + 1) (.slice ta T.length tc) T ∧ Below gt W6 x9 ∧ gt + 1 ≤ x9.heap.size from ⟨ST.out.below hb, HO.out.later hb, HDD.out.trans (hb.mono (by have := HG.out; omega)), Nat.le_trans HG.out hb.size⟩)
        clear hb hqf hde hq s0 s1 s2 q0 q1 q2
        go_wp2_with fail
        go_roundw
        case rel => exact ⟨k + 1, ta, tc, by go_num, by omega, by rw [HTQ.out]; exact HA.out.1, by rw [HTQ.out]; exact HA.out.2.1, HA.out.2.2.1, HA.out.2.2.2⟩
        case measure => (simp [intOf] <;> omega)
    · have hfull : (rs.take k).filter P = kept m acc rs := by
        rw [List.take_of_length_le (by omega), HP.out]; rfl
      rw [hfull] at ST HO
      clear hfull
      obtain ⟨T, hTT⟩ : ∃ T, T = kept m acc rs := ⟨_, rfl⟩
      have HSMT := Lib.hid (show ∀ x ∈ T, x.inp.length ≤ maxLen ∧ x.out.length ≤ maxLen from fun x hx => HSM.out x (by rw [hTT] at hx; exact kept_sub hx))
      have htl : T.length ≤ 12 := by
        have := List.length_filter_le (fun x => !deadK (rMs m rs) (lMs m acc rs) x) rs
        rw [hTT]; unfold kept; omega
      rw [← hTT] at ST HO SK
      clear hTT
      obtain ⟨aa, cc, hvv, htcap, htat⟩ := HO.out.at
      obtain ⟨rfl, rfl⟩ : ta = aa ∧ tc = cc := by simpa using hvv
      have CF := Lib.hid (Find_any m acc ta tc T wr (HT.out.below BW8.out H0.out) (Nat.lt_of_lt_of_le H0.out BW8.out.size) (by omega) h256 htat htcap (by omega) HSMT.out)
      have XT := Lib.hid htat
      obtain ⟨t0, t1, t2⟩ := ST.out.cells
      clear hvv htat HO HDD HG N8 q0 q1 q2 HD hk HP HGT BW6 XS6 SS6 RP6 N6
      go_wp2_with fail
      refine CF.out.mono ?_
      rintro e x9 ⟨v9, rfl, hrep, hb⟩
      have CS := fun W (h : Below wr.heap.size wr W) => Lib.hid (Sound_any m acc ta tc T W (HT.out.below (BW8.out.trans (h.mono BW8.out.size)) H0.out) (Nat.lt_of_lt_of_le H0.out (Nat.le_trans BW8.out.size h.size)) (by omega) h256 (XT.out.on h) htcap (by omega) HSMT.out)
      obtain ⟨rq, hrq⟩ : ∃ r, r = repC m acc T := ⟨_, rfl⟩
      obtain ⟨Z, hZ⟩ : ∃ Z, Z = soundC m acc T := ⟨_, rfl⟩
      simp only [← hZ] at CS
      rw [← hrq] at hrep SK
      rw [← hZ] at SK
      clear hrq hZ
      obtain ⟨b1, b2, b3, d1, d2, d3, rfl, n1, n2, n3⟩ := hrep
      have e1 : rq.dead.length = 0 := by rw [SK.out.2.1]; rfl
      have e2 : rq.stuck.length = 0 := by rw [SK.out.2.2.1]; rfl
      rw [e1, e2]
      have XS9 := Lib.hid (XS8.out.on hb)
      have SS9 := Lib.hid (SS8.out.below hb)
      have ST9 := Lib.hid (ST.out.below hb)
      have RP9 := Lib.hid (RP8.out.below hb)
      have BR9 := Lib.hid hb
      clear n1 n2 n3 e1 e2 hb XS8 SS8 ST RP8 CF s0 s1 s2 t0 t1 t2
      have NB := RpBlock.new x9 (.slice none 0 0) (.slice none 0 0) (.slice none 0 0)
      have AL := Lib.hid ((Below.refl x9.heap.size x9).alloc (Nat.le_refl _) (.cells #[.slice none 0 0, .slice none 0 0, .slice none 0 0] 40))
      go_upto_region 11 with (first | (refine wpList_store_rp rfl _ _ rfl _ _ _ _ NB rfl b1 b2 b3 0 0 rq.endless.length d1 d2 d3 rfl ?_; intro W10 RB hg' hs'; clear NB))
      have hbb := AL.out.grown hg' AL.out.size (by simp)
      have XS10 := Lib.hid (XS9.out.on hbb)
      have SS10 := Lib.hid (SS9.out.below hbb)
      have ST10 := Lib.hid (ST9.out.below hbb)
      have RP10 := Lib.hid (RP9.out.below hbb)
      have RQ10 := Lib.hid RB
      have BR10 := Lib.hid (BR9.out.trans (hbb.mono BR9.out.size))
      clear hbb hg' hs' RB AL XS9 SS9 ST9 RP9 BR9
      generalize x9.heap.size = gq at *
      have CL := Lib.hid (RLive_any m acc va vc rs W10 hm.1 (by omega) h256 XS10.out (by unfold maxLen; omega) (valid_in HV.out).2.1)
      obtain ⟨s0, s1, s2⟩ := SS10.out.cells
      go_wp2_with fail
      refine CL.out.mono ?_
      rintro e x11 ⟨lb, rfl, hbs, -, hb⟩
      obtain ⟨L, hL⟩ : ∃ L, L = liveB m acc rs 0 := ⟨_, rfl⟩
      have hcell : x11.cell? ⟨lb, 0, none⟩ = some (.bool L) := by
        have h := hbs.cell 0 (by simp; omega)
        simpa [hL] using h
      have HLL := Lib.hid (show (lMs m acc rs).testBit 0 = L by
        rw [hL]
        exact kinds_live (valid_in HV.out).2.1 hm.1 (valid_acc HV.out).1 (valid_acc HV.out).2 0 (by omega))
      have m0 : 0 < m := by omega
      have m0' : (0 : Int) < (m : Int) := by omega
      have ST11 := Lib.hid (ST10.out.below hb)
      have RP11 := Lib.hid (RP10.out.below hb)
      have RQ11 := Lib.hid (RQ10.out.below hb)
      have BR11 := Lib.hid (BR10.out.trans (hb.mono BR10.out.size))
      have FIN := fun W (h : Below x11.heap.size x11 W) => Lib.hid (BW8.out.trans ((BR11.out.trans (h.mono BR11.out.size)).mono BW8.out.size))
      clear hbs hL hb ST10 RP10 RQ10 BR10 CL s0 s1 s2 XS10 SS10
      obtain ⟨q0, q1, q2⟩ := RP11.out.cells
      obtain ⟨u0, u1, u2⟩ := RQ11.out.cells
      obtain ⟨t0, t1, t2⟩ := ST11.out.cells
      have SK2 := Lib.hid (show ((rq.endless = []) ↔ (rp.endless = [])) ∧ (Z = 0 ↔ L = true ∧ rp.endless = []) by
        obtain ⟨-, -, -, h1, h2⟩ := SK.out
        rw [HLL.out] at h2
        exact ⟨h1, h2⟩)
      have CS11 := CS x11 BR11.out
      clear SK HLL CS
      by_cases hE : rp.endless = []
      · have f1 : ((rp.endless.length : Int) == 0) = true := by rw [hE]; rfl
        have f2 : ((rq.endless.length : Int) == 0) = true := by rw [SK2.out.1.2 hE]; rfl
        cases L with
        | true =>
          have f3 : (Z == 0) = true := by rw [SK2.out.2.2 ⟨rfl, hE⟩]; rfl
          clear hE SK2
          go_wp2_with fail
          refine CS11.out.mono ?_
          rintro e x12 ⟨rfl, hb⟩
          obtain ⟨q0', q1', q2'⟩ := (RP11.out.below hb).cells
          obtain ⟨u0', u1', u2'⟩ := (RQ11.out.below hb).cells
          have HF := FIN x12 hb
          clear hb q0 q1 q2 u0 u1 u2 t0 t1 t2
          go_wp2_with fail
          go_ret
          exact ⟨rfl, HF.out⟩
        | false =>
          have f3 : (Z == 0) = false := by
            have : ¬ Z = 0 := fun h => by cases (SK2.out.2.1 h).1
            simpa using this
          clear hE SK2
          go_wp2_with fail
          refine CS11.out.mono ?_
          rintro e x12 ⟨rfl, hb⟩
          obtain ⟨q0', q1', q2'⟩ := (RP11.out.below hb).cells
          obtain ⟨u0', u1', u2'⟩ := (RQ11.out.below hb).cells
          have HF := FIN x12 hb
          clear hb q0 q1 q2 u0 u1 u2 t0 t1 t2
          go_wp2_with fail
          go_ret
          exact ⟨rfl, HF.out⟩
      · have f1 : ((rp.endless.length : Int) == 0) = false := by
          simp; exact hE
        have f2 : ((rq.endless.length : Int) == 0) = false := by
          simp; exact fun h => hE (SK2.out.1.1 h)
        have f3 : (Z == 0) = false := by
          have : ¬ Z = 0 := fun h => hE (SK2.out.2.1 h).2
          simpa using this
        clear hE SK2
        cases L with
        | true =>
          go_wp2_with fail
          refine CS11.out.mono ?_
          rintro e x12 ⟨rfl, hb⟩
          obtain ⟨q0', q1', q2'⟩ := (RP11.out.below hb).cells
          obtain ⟨u0', u1', u2'⟩ := (RQ11.out.below hb).cells
          have HF := FIN x12 hb
          clear hb q0 q1 q2 u0 u1 u2 t0 t1 t2
          go_wp2_with fail
          go_ret
          exact ⟨rfl, HF.out⟩
        | false =>
          go_wp2_with fail
          refine CS11.out.mono ?_
          rintro e x12 ⟨rfl, hb⟩
          obtain ⟨q0', q1', q2'⟩ := (RP11.out.below hb).cells
          obtain ⟨u0', u1', u2'⟩ := (RQ11.out.below hb).cells
          have HF := FIN x12 hb
          clear hb q0 q1 q2 u0 u1 u2 t0 t1 t2
          go_wp2_with fail
          go_ret
          exact ⟨rfl, HF.out⟩
end Go.Proofs.YthgealgaefimpaaDoor
