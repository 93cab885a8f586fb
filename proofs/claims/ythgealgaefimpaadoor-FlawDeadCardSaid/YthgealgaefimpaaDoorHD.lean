/-
  FlawDead's walk.
-/
import Derived.Test.YthgealgaefimpaaDoorGU
import Derived.Test.YthgealgaefimpaaDoorHB
import Derived.Test.YthgealgaefimpaaDoorHC
namespace Go.Proofs.YthgealgaefimpaaDoor
open Go.RowKit
open Pl

section
variable {m acc : Nat} {rs : List Rl}
/-- No whole route has a dead rule. -/
theorem whole_live (hr : ∀ x ∈ rs, InM m x) (hm : 1 ≤ m) (ha : acc < 2 ^ m) (ha0 : acc ≠ 0) {l : List Nat} {t : Nat} (c : Chn (edgeOf anyR rs) 0 l t) : Lv acc rs t → ∀ k (hk : k < rs.length), k ∈ l → deadK (rMs m rs) (lMs m acc rs) rs[k] = false := by
  induction c with
  | nil => intro _ k _ h; cases h
  | @snoc l a k b c e ih =>
    intro hb j hj hm'
    obtain ⟨hk, hp, h1, h2⟩ := edgeOf_some e
    have he : (a, b) ∈ rs.map edg := by
      have := edge_of (List.getElem_mem hk)
      rwa [h1, h2] at this
    rcases List.mem_append.1 hm' with h | h
    · exact ih (hb.back (.snoc (.refl _) he)) j hj h
    · obtain rfl : j = k := List.mem_singleton.1 h
      unfold deadK
      rw [h1, h2, (reached_iff hr hm _).2 (chn_path c), (live_iff hr ha ha0 _).2 hb]
      rfl
theorem dead_same (hr : ∀ x ∈ rs, InM m x) (hm : 1 ≤ m) (ha : acc < 2 ^ m) (ha0 : acc ≠ 0) (i : Nat) (hi : i < rs.length) :
    decide ((i : Int) ∈ pickN (deadK (rMs m rs) (lMs m acc rs)) rs rs.length) = (!(rnds rStep rs m (2 ^ 0)).testBit rs[i].src.toNat || !liveB m acc rs rs[i].dst.toNat) := by
  have hx := hr _ (List.getElem_mem hi)
  have h1 : deadK (rMs m rs) (lMs m acc rs) rs[i] = (!(rnds rStep rs m (2 ^ 0)).testBit rs[i].src.toNat || !liveB m acc rs rs[i].dst.toNat) := by
    unfold deadK
    rw [show (rMs m rs).testBit rs[i].src.toNat = _ from kinds_reached hr hm _, show (lMs m acc rs).testBit rs[i].dst.toNat = _ from kinds_live hr hm ha ha0 _ (by have := hx.2.2; have := hx.2.1; omega)]
  rw [← h1]
  cases hd : deadK (rMs m rs) (lMs m acc rs) rs[i] with
  | true => exact decide_eq_true ((pickN_at _ _ _ hi).2 hd)
  | false => exact decide_eq_false (fun h => by rw [(pickN_at _ _ _ hi).1 h] at hd; cases hd)
end
theorem numsAt_take {W : World} {B0 gv vc n : Nat} {l : List Nat} (h : NumsAt W B0 (.slice (some ⟨gv, 0, none⟩) l.length vc) (ints l)) (hn : n ≤ l.length) : NumsAt W B0 (.slice (some ⟨gv, 0, none⟩) n vc) (ints (l.take n)) := by
  obtain ⟨a, c, hv, hP⟩ := h
  have hl : (ints (l.take n)).length = n := by rw [ints_len, List.length_take]; omega
  refine ⟨some ⟨gv, 0, none⟩, vc, by rw [hl], fun hp => ?_⟩
  obtain ⟨b, off, ha, hlt, hc⟩ := hP (by rw [ints_len]; omega)
  have hv1 : some ⟨gv, 0, none⟩ = a := by injection hv
  rw [ha] at hv1
  obtain ⟨rfl, rfl⟩ : gv = b ∧ 0 = off := by simpa using hv1
  refine ⟨gv, 0, rfl, hlt, fun i hi => ?_⟩
  rw [hl] at hi
  rw [hc i (by rw [ints_len]; omega)]
  congr 2
  simp [ints]

set_option maxHeartbeats 4000000 in
set_option maxRecDepth 100000 in
theorem FlawDead_any (M A : Nat) (ma : Option Addr) (mn mc : Nat) (la : Option Addr) (ln lc : Nat) (w : World) (hT : StrTab w) (h0 : 0 < w.heap.size) (hM : M < 256) (hA : A < 256) (hx : TrisAt w w.heap.size (.slice ma mn mc) mn) (hl : mn ≤ maxLen) (hu : U8At w w.heap.size (.slice la ln lc) ln) (hln : ln ≤ maxLen) :
    Calls Tryd.prog 5 #[.agg #[.int .u8 (M : Nat), .int .u8 (A : Nat), .slice ma mn mc], .slice la ln lc] w fun e w' => e = .returned (.bool true) ∧ Below w.heap.size w w' := by
  have b1 := (Below.refl w.heap.size w).alloc (Nat.le_refl _) (.cells #[.int .u8 (M : Nat), .int .u8 (A : Nat), .slice ma mn mc] 24)
  have r1 := FRBlock.new w (.int .u8 (M : Nat)) (.int .u8 (A : Nat)) (.slice ma mn mc)
  have R1 := Lib.hid r1
  have B1 := Lib.hid b1
  have HX := Lib.hid hx
  have HU := Lib.hid hu
  have HT := Lib.hid hT
  have H0 := Lib.hid h0
  clear hx hT h0 b1 r1 hu
  go_enter Tryd.func5, Tryd.ntmps5
  go_upto_region 1 with fail
  generalize w.alloc _ = x1 at *
  go_wp2_with fail
  refine (San_any x1 (HT.out.below B1.out H0.out) (Nat.lt_of_lt_of_le H0.out B1.out.size)).mono ?_
  rintro e x2 ⟨rfl, hb⟩
  have R2 := Lib.hid (R1.out.below hb)
  have B2 := Lib.hid (B1.out.trans (hb.mono B1.out.size))
  clear hb R1 B1
  obtain ⟨r0, r1, r2⟩ := R2.out.cells
  go_wp2_with fail
  refine (FMade_any M A ma mn mc x2 hM hA (HX.out.on B2.out) hl).mono ?_
  rintro e x3 ⟨m, acc, rs, va, vc, rfl, hm, h256, hv, hl12, hown, hb⟩
  have HRs := Lib.hid hown
  have HV := Lib.hid hv
  have B3 := Lib.hid (B2.out.trans (hb.mono B2.out.size))
  clear hown hv hb R2 r0 r1 r2
  obtain ⟨gs, hgs⟩ : ∃ g, g = x3.heap.size := ⟨_, rfl⟩
  have NB := SchBlock.new x3 (.int .i64 0) (.int .u8 0) (.slice none 0 0)
  have AL := Lib.hid ((Below.refl x3.heap.size x3).alloc (Nat.le_refl _) (.cells #[.int .i64 0, .int .u8 0, .slice none 0 0] 33))
  go_upto_region 3 with (first | (refine wpList_store_sch rfl _ _ rfl _ _ _ _ NB rfl (m : Int) (acc : Int) va rs.length vc rfl ?_; intro W4 SB hg' hs'; clear NB))
  have hbb := AL.out.grown hg' AL.out.size (by simp)
  obtain ⟨aa, cc, hvv, hcap, hat⟩ := HRs.out.at
  obtain ⟨rfl, rfl⟩ : va = aa ∧ vc = cc := by simpa using hvv
  have XS := Lib.hid ((show RlsAt x3 x3.heap.size (.slice va rs.length vc) rs from hat).on hbb)
  have SS := Lib.hid SB
  have BW := Lib.hid (B3.out.trans (hbb.mono B3.out.size))
  clear hvv hat hbb hg' hs' SB AL HRs B3
  rw [← hgs] at SS
  rw [← hgs]
  clear hgs
  have hrl : rs.length ≤ 12 := hl12
  have HSM := Lib.hid (show ∀ x ∈ rs, x.inp.length ≤ maxLen ∧ x.out.length ≤ maxLen from fun x hx => by
    obtain ⟨kk, hkk, rfl⟩ := List.getElem_of_mem hx
    have h := ((valid_ok HV.out).2.2.2.2 kk hkk).1
    have h1 := h.i
    have h2 := h.o
    unfold maxLen
    omega)
  have HRR := Lib.hid (valid_in HV.out).2.1
  have CF := Lib.hid (Find_any m acc va vc rs W4 (HT.out.below BW.out H0.out) (Nat.lt_of_lt_of_le H0.out BW.out.size) (by omega) h256 XS.out hcap (by omega) HSM.out)
  obtain ⟨s0, s1, s2⟩ := SS.out.cells
  go_wp2_with fail
  refine CF.out.mono ?_
  rintro e x5 ⟨v5, rfl, hrep, hb⟩
  obtain ⟨rp, hrp⟩ : ∃ r, r = repC m acc rs := ⟨_, rfl⟩
  have HD := Lib.hid (show rp.dead = pickN (deadK (rMs m rs) (lMs m acc rs)) rs rs.length by rw [hrp]; unfold repC; rw [if_pos HV.out])
  rw [← hrp] at hrep
  obtain ⟨a1, a2, a3, c1, c2, c3, rfl, n1, n2, n3⟩ := hrep
  have XS5 := Lib.hid (XS.out.on hb)
  have SS5 := Lib.hid (SS.out.below hb)
  have BW5 := Lib.hid (BW.out.trans (hb.mono BW.out.size))
  have N5 := Lib.hid n1
  have HDL := Lib.hid (show rp.dead.length ≤ maxLen by rw [HD.out]; have := pickN_len (deadK (rMs m rs) (lMs m acc rs)) rs rs.length; unfold maxLen; omega)
  clear n1 n2 n3 hb SS XS BW CF hrp s0 s1 s2
  have hfd : ∀ W : World, (Instr.field 40 (.agg #[.slice a1 rp.dead.length c1, .slice a2 rp.stuck.length c2, .slice a3 rp.endless.length c3]) 0).run Tryd.prog W = .ok (.slice a1 rp.dead.length c1) W := fun _ => by kernel_rfl
  obtain ⟨s0, s1, s2⟩ := SS5.out.cells
  go_wp2_with fail
  refine (Walk_any m acc va vc rs 0 la ln lc x5 XS5.out hrl HRR.out (HU.out.on BW5.out) hln (by omega)).mono ?_
  rintro e x6 ⟨gv, wc, out, t, rfl, hno, ho10, hch, hb⟩
  have XS6 := Lib.hid (XS5.out.on hb)
  have SS6 := Lib.hid (SS5.out.below hb)
  have BW6 := Lib.hid (BW5.out.trans (hb.mono BW5.out.size))
  have N6 := Lib.hid (N5.out.on hb)
  have NO := Lib.hid (show NumsAt x6 x6.heap.size (.slice (some ⟨gv, 0, none⟩) out.length wc) (ints out) from hno.at)
  have HCH := Lib.hid hch
  have hwc : out.length ≤ wc := by have := numsOwn_cap hno; rwa [ints_len] at this
  clear hno hch hb XS5 SS5 BW5 N5 s0 s1 s2
  go_wp2_with fail
  go_loopw [9] (fun iv wr => ∃ n : Nat, iv = .int .i64 (n : Nat) ∧ n ≤ out.length + 1 ∧ Below x6.heap.size x6 wr) (fun iv _ => out.length + 1 - (intOf iv).toNat)
  case atStart => exact ⟨0, rfl, Nat.zero_le _, Below.refl _ _⟩
  case round =>
    obtain ⟨n, rfl, hn, hb⟩ := hrel
    generalize wr = wo at *
    have HB := Lib.hid hb
    clear hb
    have n0 : (0 : Int) ≤ (n : Int) := by omega
    by_cases h1 : (n : Int) ≤ (out.length : Int)
    · have hnl : n ≤ out.length := by omega
      obtain ⟨t', hct⟩ := chn_take HCH.out n
      have htl : (out.take n).length = n := by rw [List.length_take]; omega
      have htm : t' < m := chn_lt HRR.out (by omega) hct
      have XO := Lib.hid (XS6.out.on HB.out)
      have SO := Lib.hid (SS6.out.below HB.out)
      have NOO := Lib.hid (NO.out.on HB.out)
      have N1 := Lib.hid (N6.out.on HB.out)
      have CC : ∀ W, Below wo.heap.size wo W → Calls Tryd.prog 21 #[.agg #[.int .i64 (m : Nat), .int .u8 (acc : Nat), .slice va rs.length vc], .int .i64 0, .slice (some ⟨gv, 0, none⟩) n wc] W fun e w' => e = .returned (.tuple #[.int .i64 (t' : Nat), .bool true]) ∧ Below wo.heap.size wo w' := fun W h => by
        have := Chain_any m acc va vc rs 0 t' (out.take n) (some ⟨gv, 0, none⟩) wc W (XO.out.on h) hrl HRR.out (by rw [htl]; exact (numsAt_take NOO.out hnl).on h) (by omega) hct
        rw [htl] at this
        exact this.mono fun e w' h' => ⟨h'.1, h.trans (h'.2.mono h.size)⟩
      have FS := Lib.hid (show ∀ W, Below wo.heap.size wo W → W.cell? ⟨gs, 0, none⟩ = some (.int .i64 (m : Nat)) ∧ W.cell? ⟨gs, 1, none⟩ = some (.int .u8 (acc : Nat)) ∧ W.cell? ⟨gs, 2, none⟩ = some (.slice va rs.length vc) from fun W h => (SO.out.below h).cells)
      have hnw : n ≤ wc := by omega
      have hnw' : (n : Int) ≤ (wc : Int) := by omega
      have HCT := Lib.hid hct
      clear hct
      go_upto_region 8 with fail
      refine wp_normal ?_
      refine wp_region_class (C := fun W => Below wo.heap.size wo W) (by kernel_rfl) (by kernel_rfl) (Below.refl _ _).drew ?_
      repeat (first | go_big_quiet_skip | (go_big_quiet_want; first | (go_big_quiet_op; go_big_quiet_on) | (refine quiet_value ?_ (fun W h => ?_) ?_; rotate_left; (· obtain ⟨f0, f1, f2⟩ := FS.out W h; go_simp; rfl); go_simp; go_big_quiet_on) | (refine quiet_call _ _ _ (fun W => ?_) CC ?_; (· go_simp; done); go_simp; go_big_quiet_on)))
      refine wpQuiet_nil ?_
      intro W5 hcj
      refine ⟨rfl, ?_⟩
      have HB5 := Lib.hid (HB.out.trans (hcj.mono HB.out.size))
      have SS7 := Lib.hid (SO.out.below hcj)
      clear hcj CC FS SO XO N1 NOO HB
      obtain ⟨s0, s1, s2⟩ := SS7.out.cells
      go_wp2_with fail
      refine (Accepts_any m acc t' (.slice va rs.length vc) h256 (by omega) W5).mono ?_
      rintro e W6 ⟨rfl, hb⟩
      have HB6 := Lib.hid (HB5.out.trans (hb.mono HB5.out.size))
      clear hb s0 s1 s2 SS7 HB5
      cases hac : acc.testBit t' with
      | false =>
        clear hac
        go_wp2_with fail
        go_roundw
        case rel => exact ⟨n + 1, by go_num, by omega, HB6.out⟩
        case measure => simp [intOf]; omega
      | true =>
        have HLV := Lib.hid (show ∀ k (hk : k < rs.length), k ∈ out.take n → ¬ ((k : Int) ∈ rp.dead) from fun k hk hmem hin => by
          obtain ⟨ha, ha0⟩ := valid_acc HV.out
          have h1 := whole_live HRR.out hm.1 ha ha0 HCT.out ⟨t', hac, .refl _⟩ k hk hmem
          rw [HD.out, pickN_at _ _ _ hk, h1] at hin
          cases hin)
        clear hac
        go_wp2_with fail
        go_loopw [12] (fun iv wr => ∃ i : Nat, iv = .int .i64 (i : Nat) ∧ i ≤ n ∧ Below x6.heap.size x6 wr) (fun iv _ => n - (intOf iv).toNat)
        case atStart => exact ⟨0, rfl, Nat.zero_le _, HB6.out⟩
        case round =>
          obtain ⟨i, rfl, hi, hb⟩ := hrel
          have HB := Lib.hid hb
          clear hb HB6
          have i0 : (0 : Int) ≤ (i : Int) := by omega
          by_cases h2 : (i : Int) < (n : Int)
          · have hio : i < out.length := by omega
            obtain ⟨a', c', hv, hP⟩ := NO.out.on HB.out
            obtain ⟨ub, uo, ha, hlt, hc⟩ := hP (by rw [ints_len]; omega)
            have hva : some ⟨gv, 0, none⟩ = a' := by injection hv
            rw [ha] at hva
            obtain ⟨rfl, rfl⟩ : gv = ub ∧ 0 = uo := by simpa using hva
            have pk := hc i (by rw [ints_len]; exact hio)
            obtain ⟨k, hk⟩ : ∃ k, k = out[i] := ⟨_, rfl⟩
            have hik : (ints out)[i]'(by rw [ints_len]; exact hio) = (k : Int) := by simp [ints, hk]
            rw [hik, Nat.zero_add] at pk
            have hkl : k < rs.length := chn_num HCH.out k (by rw [hk]; exact List.getElem_mem hio)
            have hkm : k ∈ out.take n := by rw [hk]; exact List.mem_take_iff_getElem.2 ⟨i, by omega, rfl⟩
            have hnd : decide ((k : Int) ∈ rp.dead) = false := decide_eq_false (HLV.out k hkl hkm)
            have N1 := Lib.hid (N6.out.on HB.out)
            clear hv hP ha hc hva hik hk hkm
            go_wp2_with fail
            refine (FHas_any a1 c1 rp.dead (k : Int) wr N1.out HDL.out).mono ?_
            rintro e W7 ⟨rfl, hb⟩
            rw [hnd]
            have HB7 := Lib.hid (HB.out.trans (hb.mono HB.out.size))
            clear hb pk HB N1 hnd
            go_wp2_with fail
            go_roundw
            case rel => exact ⟨i + 1, by go_num, by omega, HB7.out⟩
            case measure => simp [intOf]; omega
          · go_wp2_with fail
            go_roundw
            case rel => exact ⟨n + 1, by go_num, by omega, HB.out⟩
            case measure => simp [intOf]; omega
    · have HBE := Lib.hid HB.out
      clear HB
      go_wp2_with fail
      go_loopw [13] (fun iv wr => ∃ i : Nat, iv = .int .i64 (i : Nat) ∧ i ≤ rs.length ∧ Below x6.heap.size x6 wr) (fun iv _ => rs.length - (intOf iv).toNat)
      case atStart => exact ⟨0, rfl, Nat.zero_le _, HBE.out⟩
      case round =>
        obtain ⟨i, rfl, hi, hb⟩ := hrel
        have HB := Lib.hid hb
        clear hb HBE
        have i0 : (0 : Int) ≤ (i : Int) := by omega
        have SO := Lib.hid (SS6.out.below HB.out)
        obtain ⟨s0, s1, s2⟩ := SO.out.cells
        by_cases h2 : (i : Int) < (rs.length : Int)
        · have hil : i < rs.length := by omega
          have XO := Lib.hid (XS6.out.on HB.out)
          have N1 := Lib.hid (N6.out.on HB.out)
          obtain ⟨D, hD⟩ : ∃ D, D = decide ((i : Int) ∈ rp.dead) := ⟨_, rfl⟩
          have hD2 : D = (!(rnds rStep rs m (2 ^ 0)).testBit rs[i].src.toNat || !liveB m acc rs rs[i].dst.toNat) := by
            obtain ⟨ha, ha0⟩ := valid_acc HV.out
            rw [hD, HD.out]
            exact dead_same HRR.out hm.1 ha ha0 i hil
          have C1 : ∀ W, Below wr.heap.size wr W → Calls Tryd.prog 23 #[.slice a1 rp.dead.length c1, .int .i64 (i : Nat)] W fun e w' => e = .returned (.bool D) ∧ Below wr.heap.size wr w' := fun W h =>
            (FHas_any a1 c1 rp.dead (i : Int) W (N1.out.on h) HDL.out).mono fun e w' h' => ⟨by rw [hD]; exact h'.1, h.trans (h'.2.mono h.size)⟩
          have C2 : ∀ W, Below wr.heap.size wr W → Calls Tryd.prog 24 #[.agg #[.int .i64 (m : Nat), .int .u8 (acc : Nat), .slice va rs.length vc], .int .i64 (i : Nat)] W fun e w' => e = .returned (.bool D) ∧ Below wr.heap.size wr w' := fun W h =>
            (RDead_any m acc i va vc rs rs[i] W hm.1 (by omega) h256 (XO.out.on h) (by omega) HRR.out hil rfl).mono fun e w' h' => ⟨by rw [hD2]; exact h'.1, h.trans (h'.2.mono h.size)⟩
          have FS := Lib.hid (show ∀ W, Below wr.heap.size wr W → W.cell? ⟨gs, 0, none⟩ = some (.int .i64 (m : Nat)) ∧ W.cell? ⟨gs, 1, none⟩ = some (.int .u8 (acc : Nat)) ∧ W.cell? ⟨gs, 2, none⟩ = some (.slice va rs.length vc) from fun W h => (SO.out.below h).cells)
          clear hD hD2 XO N1
          go_upto_region 18 with fail
          clear s0 s1 s2
          refine wp_normal ?_
          refine wp_region_class (C := fun W => Below wr.heap.size wr W) (by kernel_rfl) (by kernel_rfl) (Below.refl _ _).drew ?_
          repeat (first | go_big_quiet_skip | (go_big_quiet_want; first | (go_big_quiet_op; go_big_quiet_on) | (refine quiet_value ?_ (fun W h => ?_) ?_; rotate_left; (· obtain ⟨f0, f1, f2⟩ := FS.out W h; go_simp; rfl); go_simp; go_big_quiet_on) | (refine quiet_call _ _ _ (fun W => ?_) C1 ?_; (· go_simp; done); go_simp; go_big_quiet_on) | (refine quiet_call _ _ _ (fun W => ?_) C2 ?_; (· go_simp; done); go_simp; go_big_quiet_on)))
          refine wpQuiet_nil ?_
          intro W5 hcj
          refine ⟨rfl, ?_⟩
          have HB5 := Lib.hid (HB.out.trans (hcj.mono HB.out.size))
          clear hcj C1 C2 FS SO HB
          have hDD : (D != D) = false := by simp
          go_wp2_with fail
          go_roundw
          case rel => exact ⟨i + 1, by go_num, by omega, HB5.out⟩
          case measure => simp [intOf]; omega
        · have HF := Lib.hid (BW6.out.trans (HB.out.mono BW6.out.size))
          go_wp2_with fail
          go_ret
          exact ⟨rfl, HF.out⟩
end Go.Proofs.YthgealgaefimpaaDoor
