/-
  FlawChains' walk.
-/
import Derived.Test.YtendieoandclkaaDoorHG
import Derived.Test.YtendieoandclkaaDoorTJ
import Derived.Test.YtendieoandclkaaDoorRO
import Derived.Test.YtendieoandclkaaDoorGO
import Derived.Test.YtendieoandclkaaDoorGK
namespace Go.Proofs.YtendieoandclkaaDoor
open Go.RowKit
open Pl

theorem held_done_as {P : Program} {ops : Array Oper} {md : Region.Mode} {S : World → Prop} {Q : Exit → Act → World → Prop} {fuel : Nat} {listed : Array Bool} {a : Act} {w : World} {b : Act} (hr : Region.ready md ops listed = []) (hab : a = b) (h : Q .normal b w) : wpAnyH P md ops Q S fuel listed a w :=
  held_done hr (by rw [hab]; exact h)
set_option maxHeartbeats 16000000 in
set_option maxRecDepth 100000 in
theorem FlawChains_any (M A : Nat) (ma : Option Addr) (mn mc : Nat) (la : Option Addr) (ln lc : Nat) (w : World) (hT : StrTab w) (h0 : 0 < w.heap.size) (hM : M < 256) (hA : A < 256) (hx : TrisAt w w.heap.size (.slice ma mn mc) mn) (hl : mn ≤ maxLen) (hu : U8At w w.heap.size (.slice la ln lc) ln) (hln : ln ≤ maxLen) (fr : Nat) (hfr : fr < 256) :
    Calls Tryd.prog 5 #[.agg #[.int .u8 (M : Nat), .int .u8 (A : Nat), .slice ma mn mc], .slice la ln lc, .int .u8 (fr : Nat)] w fun e w' => e = .returned (.bool true) ∧ Below w.heap.size w w' := by
  have b1 := (Below.refl w.heap.size w).alloc (Nat.le_refl _) (.cells #[.int .u8 (M : Nat), .int .u8 (A : Nat), .slice ma mn mc] 24)
  have r1 := FRBlock.new w (.int .u8 (M : Nat)) (.int .u8 (A : Nat)) (.slice ma mn mc)
  have R1 := Lib.hid r1
  have B1 := Lib.hid b1
  have HX := Lib.hid hx
  have HU := Lib.hid hu
  have HT := Lib.hid hT
  have H0 := Lib.hid h0
  clear hx hT h0 b1 r1 hu
  go_enter Tryd.func5, Tryd.ntmps5
  go_upto_region 1 with fail
  generalize w.alloc _ = x1 at *
  go_wp2_with fail
  refine (San_any x1 (HT.out.below B1.out H0.out) (Nat.lt_of_lt_of_le H0.out B1.out.size)).mono ?_
  rintro e x2 ⟨rfl, hb⟩
  have R2 := Lib.hid (R1.out.below hb)
  have B2 := Lib.hid (B1.out.trans (hb.mono B1.out.size))
  clear hb R1 B1
  obtain ⟨r0, r1, r2⟩ := R2.out.cells
  go_wp2_with fail
  refine (FMade_any M A ma mn mc x2 hM hA (HX.out.on B2.out) hl).mono ?_
  rintro e x3 ⟨m, acc, rs, va, vc, rfl, hm, h256, hv, hl12, hown, hb⟩
  have HRs := Lib.hid hown
  have HV := Lib.hid hv
  have B3 := Lib.hid (B2.out.trans (hb.mono B2.out.size))
  clear hown hv hb R2 r0 r1 r2
  obtain ⟨gs, hgs⟩ : ∃ g, g = x3.heap.size := ⟨_, rfl⟩
  have NB := SchBlock.new x3 (.int .i64 0) (.int .u8 0) (.slice none 0 0)
  have AL := Lib.hid ((Below.refl x3.heap.size x3).alloc (Nat.le_refl _) (.cells #[.int .i64 0, .int .u8 0, .slice none 0 0] 33))
  go_upto_region 3 with (first | (refine wpList_store_sch rfl _ _ rfl _ _ _ _ NB rfl (m : Int) (acc : Int) va rs.length vc rfl ?_; intro W4 SB hg' hs'; clear NB))
  have hbb := AL.out.grown hg' AL.out.size (by simp)
  obtain ⟨aa, cc, hvv, hcap, hat⟩ := HRs.out.at
  obtain ⟨rfl, rfl⟩ : va = aa ∧ vc = cc := by simpa using hvv
  have XS := Lib.hid ((show RlsAt x3 x3.heap.size (.slice va rs.length vc) rs from hat).on hbb)
  have SS := Lib.hid SB
  have BW := Lib.hid (B3.out.trans (hbb.mono B3.out.size))
  clear hvv hat hbb hg' hs' SB AL HRs B3
  rw [← hgs] at SS
  rw [← hgs]
  clear hgs
  have hrl : rs.length ≤ 12 := hl12
  have HSM := Lib.hid (show ∀ x ∈ rs, x.inp.length ≤ maxLen ∧ x.out.length ≤ maxLen from fun x hx => by
    obtain ⟨kk, hkk, rfl⟩ := List.getElem_of_mem hx
    have h := ((valid_ok HV.out).2.2.2.2 kk hkk).1
    have h1 := h.i
    have h2 := h.o
    unfold maxLen
    omega)
  have HRR := Lib.hid (valid_in HV.out).2.1
  have CF := Lib.hid (Find_any m acc va vc rs W4 (HT.out.below BW.out H0.out) (Nat.lt_of_lt_of_le H0.out BW.out.size) (by omega) h256 XS.out hcap (by omega) HSM.out)
  obtain ⟨s0, s1, s2⟩ := SS.out.cells
  go_wp2_with fail
  refine CF.out.mono ?_
  rintro e x5 ⟨v5, rfl, hrep, hb⟩
  obtain ⟨rp, hrp⟩ : ∃ r, r = repC m acc rs := ⟨_, rfl⟩
  have HRP := Lib.hid hrp
  rw [← hrp] at hrep
  obtain ⟨a1, a2, a3, c1, c2, c3, rfl, n1, n2, n3⟩ := hrep
  have XS5 := Lib.hid (XS.out.on hb)
  have SS5 := Lib.hid (SS.out.below hb)
  have BW5 := Lib.hid (BW.out.trans (hb.mono BW.out.size))
  have NS5 := Lib.hid n2
  have NE5 := Lib.hid n3
  clear n1 n2 n3 hb SS XS BW CF hrp s0 s1 s2
  obtain ⟨gr, hgr⟩ : ∃ g, g = x5.heap.size := ⟨_, rfl⟩
  have NB := RpBlock.new x5 (.slice none 0 0) (.slice none 0 0) (.slice none 0 0)
  have AL := Lib.hid ((Below.refl x5.heap.size x5).alloc (Nat.le_refl _) (.cells #[.slice none 0 0, .slice none 0 0, .slice none 0 0] 40))
  go_upto_region 4 with (first | (refine wpList_store_rp rfl _ _ rfl _ _ _ _ NB rfl a1 a2 a3 rp.dead.length rp.stuck.length rp.endless.length c1 c2 c3 rfl ?_; intro W6 RB hg' hs'; clear NB))
  have hbb := AL.out.grown hg' AL.out.size (by simp)
  have NS6 := Lib.hid (NS5.out.on hbb)
  have NE6 := Lib.hid (NE5.out.on hbb)
  have XS6 := Lib.hid (XS5.out.on hbb)
  have SS6 := Lib.hid (SS5.out.below hbb)
  have RP6 := Lib.hid RB
  have BW6 := Lib.hid (BW5.out.trans (hbb.mono BW5.out.size))
  clear hbb hg' hs' RB AL NS5 NE5 XS5 SS5 BW5
  rw [← hgr] at RP6
  rw [← hgr]
  clear hgr
  have CL := Lib.hid (RLive_any m acc va vc rs W6 hm.1 (by omega) h256 XS6.out (by unfold maxLen; omega) HRR.out)
  obtain ⟨s0, s1, s2⟩ := SS6.out.cells
  go_wp2_with fail
  refine CL.out.mono ?_
  rintro e x7 ⟨lb, rfl, hbs, -, hb⟩
  have NS7 := Lib.hid (NS6.out.on hb)
  have NE7 := Lib.hid (NE6.out.on hb)
  have XS7 := Lib.hid (XS6.out.on hb)
  have SS7 := Lib.hid (SS6.out.below hb)
  have RP7 := Lib.hid (RP6.out.below hb)
  have BW7 := Lib.hid (BW6.out.trans (hb.mono BW6.out.size))
  have LV7 := Lib.hid hbs
  clear hbs hb NS6 NE6 XS6 SS6 RP6 BW6 CL s0 s1 s2
  obtain ⟨s0, s1, s2⟩ := SS7.out.cells
  go_wp2_with fail
  refine (Walk_any m acc va vc rs 0 la ln lc x7 XS7.out hrl HRR.out (HU.out.on BW7.out) hln (by omega)).mono ?_
  rintro e x8 ⟨gv, wc, out, t, rfl, hno, ho10, hch, hb⟩
  have NS8 := Lib.hid (NS7.out.on hb)
  have NE8 := Lib.hid (NE7.out.on hb)
  have XS8 := Lib.hid (XS7.out.on hb)
  have SS8 := Lib.hid (SS7.out.below hb)
  have RP8 := Lib.hid (RP7.out.below hb)
  have BW8 := Lib.hid (BW7.out.trans (hb.mono BW7.out.size))
  have LV8 := Lib.hid (show ∀ W, Below x8.heap.size x8 W → ∀ i, i < m → W.cell? ⟨lb, i, none⟩ = some (.bool (liveB m acc rs i)) from fun W h i hi => by
    have h1 := ((LV7.out.below hb).below h).cell i (by simp; omega)
    simpa using h1)
  have NO := Lib.hid (show NumsAt x8 x8.heap.size (.slice (some ⟨gv, 0, none⟩) out.length wc) (ints out) from hno.at)
  have HCH := Lib.hid hch
  have hwc : out.length ≤ wc := by have := numsOwn_cap hno; rwa [ints_len] at this
  clear hno hch hb NS7 NE7 XS7 SS7 RP7 BW7 LV7 s0 s1 s2
  have m0 : 0 < m := by omega
  have m0' : (0 : Int) < (m : Int) := by omega
  obtain ⟨L0, hL0⟩ : ∃ L, L = liveB m acc rs 0 := ⟨_, rfl⟩
  have HL0 := Lib.hid hL0
  clear hL0
  go_wp2_with fail
  go_loopw [12] (fun iv wr => ∃ n : Nat, iv = .int .i64 (n : Nat) ∧ 1 ≤ n ∧ n ≤ out.length + 1 ∧ Below x8.heap.size x8 wr) (fun iv _ => out.length + 1 - (intOf iv).toNat)
  case atStart => exact ⟨1, rfl, Nat.le_refl _, by omega, Below.refl _ _⟩
  case round =>
    obtain ⟨n, rfl, hn1, hn, hb⟩ := hrel
    generalize wr = wo at *
    have HB := Lib.hid hb
    clear hb
    have n0 : (0 : Int) ≤ (n : Int) := by omega
    have SO := Lib.hid (SS8.out.below HB.out)
    have lv0 := LV8.out wo HB.out 0 m0
    rw [← HL0.out] at lv0
    by_cases h1 : (n : Int) ≤ (out.length : Int)
    · cases hl0 : L0 with
      | false =>
        rw [hl0] at lv0
        clear hl0 hn hn1
        obtain ⟨s0, s1, s2⟩ := SO.out.cells
        obtain ⟨mm, hmm⟩ : ∃ k, k = fr % m := ⟨_, rfl⟩
        have hmml : mm < m := by rw [hmm]; exact Nat.mod_lt _ m0
        have e1 : (fr : Int).tmod (m : Int) = (mm : Int) := by rw [Int.tmod_eq_emod_of_nonneg (by omega), hmm, Int.natCast_emod]
        have w1 : IntKind.i64.wrap (fr : Int) = (fr : Int) := IntWalk.i64_in _ (by omega)
        have w2 : IntKind.i64.wrap (mm : Int) = (mm : Int) := IntWalk.i64_in _ (by omega)
        have hm0 : ¬ (m : Int) = 0 := by omega
        clear hmm
        go_wp2_with fail
        refine (Walk_any m acc va vc rs mm la ln lc wo (XS8.out.on HB.out) hrl HRR.out (HU.out.on (BW8.out.trans (HB.out.mono BW8.out.size))) hln hmml).mono ?_
        rintro e y ⟨gw, wd, ou2, u, rfl, hno2, ho2, hch2, hb2⟩
        have D8 := Lib.hid (HB.out.trans (hb2.mono HB.out.size))
        have NO2 := Lib.hid (show NumsAt y y.heap.size (.slice (some ⟨gw, 0, none⟩) ou2.length wd) (ints ou2) from hno2.at)
        have HC2 := Lib.hid hch2
        have hwd : ou2.length ≤ wd := by have := numsOwn_cap hno2; rwa [ints_len] at this
        clear hno2 hch2 hb2 HB SO lv0 s0 s1 s2 e1 w1 w2
        go_wp2_with fail
        go_loopw [17] (fun iv wr => ∃ k : Nat, iv = .int .i64 (k : Nat) ∧ 1 ≤ k ∧ k ≤ ou2.length + 1 ∧ Below y.heap.size y wr) (fun iv _ => ou2.length + 1 - (intOf iv).toNat)
        case atStart => exact ⟨1, rfl, Nat.le_refl _, by omega, Below.refl _ _⟩
        case round =>
          obtain ⟨k, rfl, hk1, hk, hb⟩ := hrel
          generalize wr = wv at *
          have HB := Lib.hid hb
          have HX8 := Lib.hid (D8.out.trans (hb.mono D8.out.size))
          clear hb
          have k0 : (0 : Int) ≤ (k : Int) := by omega
          by_cases h2 : (k : Int) ≤ (ou2.length : Int)
          · have hkl : k ≤ ou2.length := by omega
            obtain ⟨t', hct⟩ := chn_take HC2.out k
            have htl : (ou2.take k).length = k := by rw [List.length_take]; omega
            have htm : t' < m := chn_lt HRR.out hmml hct
            have hne : ou2.take k ≠ [] := fun e => by rw [e] at htl; simp at htl; omega
            have XO := Lib.hid (XS8.out.on HX8.out)
            have NOO := Lib.hid (NO2.out.on HB.out)
            have SO := Lib.hid (SS8.out.below HX8.out)
            have CC : ∀ W, Below wv.heap.size wv W → Calls Tryd.prog 19 #[.agg #[.int .i64 (m : Nat), .int .u8 (acc : Nat), .slice va rs.length vc], .int .i64 (mm : Nat), .slice (some ⟨gw, 0, none⟩) k wd] W fun e w' => e = .returned (.tuple #[.int .i64 (t' : Nat), .bool true]) ∧ Below wv.heap.size wv w' := fun W h => by
              have := Chain_any m acc va vc rs mm t' (ou2.take k) (some ⟨gw, 0, none⟩) wd W (XO.out.on h) hrl HRR.out (by rw [htl]; exact (numsAt_pre NOO.out hkl).on h) (by omega) hct
              rw [htl] at this
              exact this.mono fun e w' h' => ⟨h'.1, h.trans (h'.2.mono h.size)⟩
            have FS := Lib.hid (show ∀ W, Below wv.heap.size wv W → W.cell? ⟨gs, 0, none⟩ = some (.int .i64 (m : Nat)) ∧ W.cell? ⟨gs, 1, none⟩ = some (.int .u8 (acc : Nat)) ∧ W.cell? ⟨gs, 2, none⟩ = some (.slice va rs.length vc) from fun W h => (SO.out.below h).cells)
            have hnw : k ≤ wd := by omega
            have hnw' : (k : Int) ≤ (wd : Int) := by omega
            have HCT := Lib.hid hct
            have HNE := Lib.hid hne
            have HTL := Lib.hid htl
            clear hct hne htl
            go_upto_region 17 with fail
            refine wp_normal ?_
            refine wp_region_class (C := fun W => Below wv.heap.size wv W) (by kernel_rfl) (by kernel_rfl) (Below.refl _ _).drew ?_
            repeat (first | go_big_quiet_skip | (go_big_quiet_want; first | (go_big_quiet_op; go_big_quiet_on) | (refine quiet_value ?_ (fun W h => ?_) ?_; rotate_left; (· obtain ⟨f0, f1, f2⟩ := FS.out W h; go_simp; rfl); go_simp; go_big_quiet_on) | (refine quiet_call _ _ _ (fun W => ?_) CC ?_; (· go_simp; done); go_simp; go_big_quiet_on)))
            refine wpQuiet_nil ?_
            intro W5 hcj
            refine ⟨rfl, ?_⟩
            have HB5 := Lib.hid (HB.out.trans (hcj.mono HB.out.size))
            have H85 := Lib.hid (HX8.out.trans (hcj.mono HX8.out.size))
            clear hcj CC FS SO XO NOO HB HX8
            have htm' : (t' : Int) < (m : Int) := by omega
            have t0 : (0 : Int) ≤ (t' : Int) := by omega
            by_cases htq : t' = mm
            · subst htq
              have eqt : ((t' : Int) == (t' : Int)) = true := by simp
              obtain ⟨D, hD⟩ : ∃ D : Bool, D = true ↔ ∀ j (hj : j < rs.length), j ∈ ou2.take k → noIn rs[j] = true := by
                by_cases h : ∀ j (hj : j < rs.length), j ∈ ou2.take k → noIn rs[j] = true
                · exact ⟨true, fun _ => h, fun _ => rfl⟩
                · exact ⟨false, fun e => (by cases e), fun e => absurd e h⟩
              have HDD := Lib.hid hD
              have C1 : ∀ W, Below W5.heap.size W5 W → Calls Tryd.prog 21 #[.agg #[.int .i64 (m : Nat), .int .u8 (acc : Nat), .slice va rs.length vc], .slice (some ⟨gw, 0, none⟩) k wd] W fun e w' => e = .returned (.bool D) ∧ Below W5.heap.size W5 w' := fun W h => by
                have := Silent_any m acc va vc rs (ou2.take k) (some ⟨gw, 0, none⟩) wd D W (XS8.out.on (H85.out.trans (h.mono H85.out.size))) hrl (by rw [HTL.out]; exact numsAt_pre (NO2.out.on (HB5.out.trans (h.mono HB5.out.size))) hkl) (by rw [HTL.out]; omega) (fun j hj => chn_num HCT.out j hj) HDD.out
                rw [HTL.out] at this
                exact this.mono fun e w' h' => ⟨h'.1, h.trans (h'.2.mono h.size)⟩
              clear hD
              obtain ⟨L, hL⟩ : ∃ L, L = liveB m acc rs t' := ⟨_, rfl⟩
              have FW := Lib.hid (show ∀ W, Below W5.heap.size W5 W → (W.cell? ⟨gs, 0, none⟩ = some (.int .i64 (m : Nat)) ∧ W.cell? ⟨gs, 1, none⟩ = some (.int .u8 (acc : Nat)) ∧ W.cell? ⟨gs, 2, none⟩ = some (.slice va rs.length vc)) ∧ W.cell? ⟨lb, t', none⟩ = some (.bool L) ∧ W.cell? ⟨gr, 2, none⟩ = some (.slice a3 rp.endless.length c3) from fun W h => by
                have hx := H85.out.trans (h.mono H85.out.size)
                exact ⟨(SS8.out.below hx).cells, by rw [hL]; exact LV8.out W hx t' htm, (RP8.out.below hx).cells.2.2⟩)
              have HLL := Lib.hid hL
              clear hL
              cases D with
              | false =>
                go_upto_region 18 with fail
                refine wp_normal ?_
                refine wp_region_class (C := fun W => Below W5.heap.size W5 W) (by kernel_rfl) (by kernel_rfl) (Below.refl _ _).drew ?_
                repeat (first | go_big_quiet_skip | (go_big_quiet_want; first | (go_big_quiet_op; go_big_quiet_on) | (refine quiet_value ?_ (fun W h => ?_) ?_; rotate_left; (· obtain ⟨⟨f0, f1, f2⟩, f3, f4⟩ := FW.out W h; go_simp; rfl); go_simp; go_big_quiet_on) | (refine quiet_call _ _ _ (fun W => ?_) C1 ?_; (· go_simp; done); go_simp; go_big_quiet_on)))
                refine wpQuiet_nil ?_
                intro W6 hcj
                refine ⟨rfl, ?_⟩
                have HB6 := Lib.hid (HB5.out.trans (hcj.mono HB5.out.size))
                clear hcj FW HB5 C1
                go_wp2_with fail
                go_roundw
                case rel => exact ⟨k + 1, by go_num, by omega, by omega, HB6.out⟩
                case measure => simp [intOf]; omega
              | true =>
                cases L with
                | false =>
                  go_upto_region 18 with fail
                  refine wp_normal ?_
                  refine wp_region_class (C := fun W => Below W5.heap.size W5 W) (by kernel_rfl) (by kernel_rfl) (Below.refl _ _).drew ?_
                  repeat (first | go_big_quiet_skip | (go_big_quiet_want; first | (go_big_quiet_op; go_big_quiet_on) | (refine quiet_value ?_ (fun W h => ?_) ?_; rotate_left; (· obtain ⟨⟨f0, f1, f2⟩, f3, f4⟩ := FW.out W h; go_simp; rfl); go_simp; go_big_quiet_on) | (refine quiet_call _ _ _ (fun W => ?_) C1 ?_; (· go_simp; done); go_simp; go_big_quiet_on)))
                  refine wpQuiet_nil ?_
                  intro W6 hcj
                  refine ⟨rfl, ?_⟩
                  have HB6 := Lib.hid (HB5.out.trans (hcj.mono HB5.out.size))
                  clear hcj FW HB5 C1
                  go_wp2_with fail
                  go_roundw
                  case rel => exact ⟨k + 1, by go_num, by omega, by omega, HB6.out⟩
                  case measure => simp [intOf]; omega
                | true =>
                  have CR := fun W (h : Below W5.heap.size W5 W) => Lib.hid (Reached_any m acc 0 va vc rs W hm.1 (by omega) (by omega) (XS8.out.on (H85.out.trans (h.mono H85.out.size))) (by unfold maxLen; omega) HRR.out)
                  go_upto_region 18 with fail
                  refine wp_normal ?_
                  refine held_start (S := fun W => Below W5.heap.size W5 W) 38 (by kernel_rfl) rfl ?_
                  have S0 := (Below.refl W5.heap.size W5).drew
                  refine held_take 0 (.int .i64 (t' : Nat)) rfl (by kernel_rfl) (by kernel_rfl) (by kernel_rfl) (fun c a w h => by cases h.1) (by kernel_rfl) (fun W hW => by go_simp) S0 ?_
                  skip
                  refine held_take 1 (.int .i64 (t' : Nat)) rfl (by kernel_rfl) (by kernel_rfl) (by kernel_rfl) (fun c a w h => by cases h.1) (by kernel_rfl) (fun W hW => by go_simp) S0 ?_
                  skip
                  refine held_take 2 (.bool true) rfl (by kernel_rfl) (by kernel_rfl) (by kernel_rfl) (fun c a w h => by cases h.1) (by kernel_rfl) (fun W hW => by go_simp) S0 ?_
                  skip
                  refine held_take 3 (.bool true) rfl (by kernel_rfl) (by kernel_rfl) (by kernel_rfl) (fun c a w h => by cases h.1) (by kernel_rfl) (fun W hW => by go_simp) S0 ?_
                  skip
                  refine held_take 4 (.agg #[.int .i64 (m : Nat), .int .u8 (acc : Nat), .slice va rs.length vc]) rfl (by kernel_rfl) (by kernel_rfl) (by kernel_rfl) (fun c a w h => by cases h.1) (by kernel_rfl) (fun W hW => by obtain ⟨⟨f0, f1, f2⟩, f3, f4⟩ := FW.out W hW; go_simp) S0 ?_
                  skip
                  refine held_take 5 (.slice (some ⟨gw, 0, none⟩) ou2.length wd) rfl (by kernel_rfl) (by kernel_rfl) (by kernel_rfl) (fun c a w h => by cases h.1) (by kernel_rfl) (fun W hW => by go_simp) S0 ?_
                  skip
                  refine held_take 6 (.int .i64 (k : Nat)) rfl (by kernel_rfl) (by kernel_rfl) (by kernel_rfl) (fun c a w h => by cases h.1) (by kernel_rfl) (fun W hW => by go_simp) S0 ?_
                  skip
                  refine held_take 7 (.slice (some ⟨gw, 0, none⟩) k wd) rfl (by kernel_rfl) (by kernel_rfl) (by kernel_rfl) (fun c a w h => by cases h.1) (by kernel_rfl) (fun W hW => by go_simp) S0 ?_
                  skip
                  refine held_call 8 21 #[.agg #[.int .i64 (m : Nat), .int .u8 (acc : Nat), .slice va rs.length vc], .slice (some ⟨gw, 0, none⟩) k wd] rfl (by kernel_rfl) (by kernel_rfl) (by go_simp) (C1 _ S0) ?_
                  rintro e Wa ⟨rfl, S1⟩
                  refine ⟨_, rfl, S1, ?_⟩
                  skip
                  refine held_take 9 (.bool true) rfl (by kernel_rfl) (by kernel_rfl) (by kernel_rfl) (fun c a w h => by cases h.1) (by kernel_rfl) (fun W hW => by go_simp) S1 ?_
                  skip
                  refine held_take 10 (.bool true) rfl (by kernel_rfl) (by kernel_rfl) (by kernel_rfl) (fun c a w h => by cases h.1) (by kernel_rfl) (fun W hW => by go_simp) S1 ?_
                  skip
                  refine held_take 11 (.slice (some ⟨lb, 0, none⟩) m m) rfl (by kernel_rfl) (by kernel_rfl) (by kernel_rfl) (fun c a w h => by cases h.1) (by kernel_rfl) (fun W hW => by go_simp) S1 ?_
                  skip
                  refine held_take 12 (.int .i64 (t' : Nat)) rfl (by kernel_rfl) (by kernel_rfl) (by kernel_rfl) (fun c a w h => by cases h.1) (by kernel_rfl) (fun W hW => by go_simp) S1 ?_
                  skip
                  refine held_take 13 (.pointer (some ⟨lb, t', none⟩)) rfl (by kernel_rfl) (by kernel_rfl) (by kernel_rfl) (fun c a w h => by cases h.1) (by kernel_rfl) (fun W hW => by go_simp) S1 ?_
                  skip
                  refine held_take 14 (.bool true) rfl (by kernel_rfl) (by kernel_rfl) (by kernel_rfl) (fun c a w h => by cases h.1) (by kernel_rfl) (fun W hW => by obtain ⟨⟨f0, f1, f2⟩, f3, f4⟩ := FW.out W hW; go_simp) S1 ?_
                  skip
                  refine held_take 15 (.bool true) rfl (by kernel_rfl) (by kernel_rfl) (by kernel_rfl) (fun c a w h => by cases h.1) (by kernel_rfl) (fun W hW => by go_simp) S1 ?_
                  skip
                  refine held_take 16 (.bool true) rfl (by kernel_rfl) (by kernel_rfl) (by kernel_rfl) (fun c a w h => by cases h.1) (by kernel_rfl) (fun W hW => by go_simp) S1 ?_
                  skip
                  refine held_take 17 (.agg #[.int .i64 (m : Nat), .int .u8 (acc : Nat), .slice va rs.length vc]) rfl (by kernel_rfl) (by kernel_rfl) (by kernel_rfl) (fun c a w h => by cases h.1) (by kernel_rfl) (fun W hW => by obtain ⟨⟨f0, f1, f2⟩, f3, f4⟩ := FW.out W hW; go_simp) S1 ?_
                  skip
                  refine held_take 19 (.int .i64 (t' : Nat)) rfl (by kernel_rfl) (by kernel_rfl) (by kernel_rfl) (fun c a w h => by cases h.1) (by kernel_rfl) (fun W hW => by go_simp) S1 ?_
                  skip
                  refine held_call 18 22 #[.agg #[.int .i64 (m : Nat), .int .u8 (acc : Nat), .slice va rs.length vc], .int .i64 0] rfl (by kernel_rfl) (by kernel_rfl) (by go_simp) (CR _ S1).out ?_
                  rintro e Wb ⟨rb, rfl, hbs, -, hb1⟩
                  have S2 : Below W5.heap.size W5 Wb := S1.trans (hb1.mono S1.size)
                  obtain ⟨R, hR⟩ : ∃ R, R = (rnds rStep rs m (2 ^ 0)).testBit t' := ⟨_, rfl⟩
                  have hcell : Wb.cell? ⟨rb, t', none⟩ = some (.bool R) := by
                    have h := hbs.cell t' (by rw [setL_len]; exact htm)
                    rw [setL_get m _ t' htm] at h
                    rw [hR]; exact h
                  have HRT := Lib.hid hR
                  refine ⟨_, rfl, S2, ?_⟩
                  skip
                  clear hbs hb1 hR S0
                  refine held_take 20 (.pointer (some ⟨rb, t', none⟩)) rfl (by kernel_rfl) (by kernel_rfl) (by kernel_rfl) (fun c a w h => by cases h.1) (by kernel_rfl) (fun W hW => by go_simp) S2 ?_
                  skip
                  refine held_value 21 (.bool R) rfl (by kernel_rfl) (by kernel_rfl) (by go_simp) S2 ?_
                  skip
                  refine held_take 22 (.bool R) rfl (by kernel_rfl) (by kernel_rfl) (by kernel_rfl) (fun c a w h => by cases h.1) (by kernel_rfl) (fun W hW => by go_simp) S2 ?_
                  skip
                  refine held_take 23 (.bool R) rfl (by kernel_rfl) (by kernel_rfl) (by kernel_rfl) (fun c a w h => by cases h.1) (by kernel_rfl) (fun W hW => by go_simp) S2 ?_
                  skip
                  clear hcell
                  cases R with
                  | false =>
                    refine held_out 24 rfl (by kernel_rfl) (by kernel_rfl) (by kernel_rfl) (fun c a w h => by cases h.1) (by kernel_rfl) S2 ?_
                    skip
                    refine held_out 25 rfl (by kernel_rfl) (by kernel_rfl) (by kernel_rfl) (fun c a w h => by cases h.1) (by kernel_rfl) S2 ?_
                    skip
                    refine held_out 26 rfl (by kernel_rfl) (by kernel_rfl) (by kernel_rfl) (fun c a w h => by cases h.1) (by kernel_rfl) S2 ?_
                    skip
                    refine held_out 27 rfl (by kernel_rfl) (by kernel_rfl) (by kernel_rfl) (fun c a w h => by cases h.1) (by kernel_rfl) S2 ?_
                    skip
                    refine held_out 28 rfl (by kernel_rfl) (by kernel_rfl) (by kernel_rfl) (fun c a w h => by cases h.1) (by kernel_rfl) S2 ?_
                    skip
                    refine held_out 29 rfl (by kernel_rfl) (by kernel_rfl) (by kernel_rfl) (fun c a w h => by cases h.1) (by kernel_rfl) S2 ?_
                    skip
                    refine held_out 30 rfl (by kernel_rfl) (by kernel_rfl) (by kernel_rfl) (fun c a w h => by cases h.1) (by kernel_rfl) S2 ?_
                    skip
                    refine held_out 31 rfl (by kernel_rfl) (by kernel_rfl) (by kernel_rfl) (fun c a w h => by cases h.1) (by kernel_rfl) S2 ?_
                    skip
                    refine held_out 32 rfl (by kernel_rfl) (by kernel_rfl) (by kernel_rfl) (fun c a w h => by cases h.1) (by kernel_rfl) S2 ?_
                    skip
                    refine held_out 33 rfl (by kernel_rfl) (by kernel_rfl) (by kernel_rfl) (fun c a w h => by cases h.1) (by kernel_rfl) S2 ?_
                    skip
                    refine held_out 34 rfl (by kernel_rfl) (by kernel_rfl) (by kernel_rfl) (fun c a w h => by cases h.1) (by kernel_rfl) S2 ?_
                    skip
                    refine held_out 35 rfl (by kernel_rfl) (by kernel_rfl) (by kernel_rfl) (fun c a w h => by cases h.1) (by kernel_rfl) S2 ?_
                    skip
                    refine held_out 36 rfl (by kernel_rfl) (by kernel_rfl) (by kernel_rfl) (fun c a w h => by cases h.1) (by kernel_rfl) S2 ?_
                    skip
                    refine held_take 37 (.bool false) rfl (by kernel_rfl) (by kernel_rfl) (by kernel_rfl) (fun c a w h => by cases h.1) (by kernel_rfl) (fun W hW => by go_simp) S2 ?_
                    skip
                    refine held_done_as (b := ({ tmps := #[Value.agg #[Value.int IntKind.u8 ↑M, Value.int IntKind.u8 ↑A, Value.slice ma mn mc], Value.slice la ln lc, Value.int IntKind.u8 ↑fr, Value.pointer (some { block := w.heap.size, off := 0 }), undef, undef, u6, Value.bool true, Value.pointer (some { block := gs, off := 0 }), Value.pointer (some { block := gr, off := 0 }), Value.slice (some { block := lb, off := 0 }) m m, Value.slice (some { block := gv, off := 0 }) out.length wc, Value.int IntKind.i64 ↑n, u13, u14, Value.int IntKind.i64 ↑t', Value.slice (some { block := gw, off := 0 }) ou2.length wd, Value.int IntKind.i64 ↑k, Value.int IntKind.i64 ↑t', Value.bool true, Value.bool true, Value.agg #[Value.int IntKind.u8 ↑M, Value.int IntKind.u8 ↑A, Value.slice ma mn mc], Value.agg #[Value.int IntKind.i64 ↑m, Value.int IntKind.u8 ↑acc, Value.slice va rs.length vc], Value.agg #[Value.int IntKind.i64 ↑m, Value.int IntKind.u8 ↑acc, Value.slice va rs.length vc], Value.agg #[Value.slice a1 rp.dead.length c1, Value.slice a2 rp.stuck.length c2, Value.slice a3 rp.endless.length c3], Value.agg #[Value.int IntKind.i64 ↑m, Value.int IntKind.u8 ↑acc, Value.slice va rs.length vc], Value.slice (some { block := lb, off := 0 }) m m, Value.agg #[Value.int IntKind.i64 ↑m, Value.int IntKind.u8 ↑acc, Value.slice va rs.length vc], Value.slice la ln lc, Value.slice (some { block := gv, off := 0 }) out.length wc, Value.int IntKind.i64 ↑n, Value.slice (some { block := gv, off := 0 }) out.length wc, Value.int IntKind.i64 ↑out.length, Value.bool true, Value.bool true, Value.slice (some { block := lb, off := 0 }) m m, Value.pointer (some { block := lb, off := 0 }), Value.bool false, Value.bool false, u39, u40, u41, u42, u43, u44, u45, u46, u47, u48, u49, u50, u51, u52, u53, u54, u55, u56, u57, u58, u59, u60, u61, u62, u63, u64, u65, u66, u67, u68, Value.int IntKind.u8 ↑fr, Value.int IntKind.i64 ↑fr, Value.pointer (some { block := gs, off := 0 }), Value.int IntKind.i64 ↑m, Value.int IntKind.i64 ↑t', Value.agg #[Value.int IntKind.i64 ↑m, Value.int IntKind.u8 ↑acc, Value.slice va rs.length vc], Value.int IntKind.i64 ↑t', Value.slice la ln lc, Value.slice (some { block := gw, off := 0 }) ou2.length wd, Value.int IntKind.i64 ↑k, Value.slice (some { block := gw, off := 0 }) ou2.length wd, Value.int IntKind.i64 ↑ou2.length, Value.bool true, u82, u83, Value.tuple #[Value.int IntKind.i64 ↑t', Value.bool true], Value.agg #[Value.int IntKind.i64 ↑m, Value.int IntKind.u8 ↑acc, Value.slice va rs.length vc], Value.int IntKind.i64 ↑t', Value.slice (some { block := gw, off := 0 }) ou2.length wd, Value.int IntKind.i64 ↑k, Value.slice (some { block := gw, off := 0 }) k wd, Value.tuple #[Value.int IntKind.i64 ↑t', Value.bool true], Value.int IntKind.i64 ↑t', Value.bool true, (.int .i64 (t' : Nat)), (.int .i64 (t' : Nat)), (.bool true), (.bool true), (.agg #[.int .i64 (m : Nat), .int .u8 (acc : Nat), .slice va rs.length vc]), (.slice (some ⟨gw, 0, none⟩) ou2.length wd), (.int .i64 (k : Nat)), (.slice (some ⟨gw, 0, none⟩) k wd), (.bool true), (.bool true), (.bool true), (.slice (some ⟨lb, 0, none⟩) m m), (.int .i64 (t' : Nat)), (.pointer (some ⟨lb, t', none⟩)), (.bool true), (.bool true), (.bool true), (.agg #[.int .i64 (m : Nat), .int .u8 (acc : Nat), .slice va rs.length vc]), (.slice (some ⟨rb, 0, none⟩) m m), (.int .i64 (t' : Nat)), (.pointer (some ⟨rb, t', none⟩)), (.bool false), (.bool false), (.bool false), undef, undef, undef, undef, undef, undef, undef, undef, undef, undef, undef, undef, undef, (.bool false), undef], defers := [] } : Act)) (by kernel_rfl) (by kernel_rfl) ⟨rfl, ?_⟩
                    have HB6 := Lib.hid (HB5.out.trans (S2.mono HB5.out.size))
                    clear CR FW HB5 C1 S1 S2
                    go_wp2_with fail
                    go_roundw
                    case rel => exact ⟨k + 1, by go_num, by omega, by omega, HB6.out⟩
                    case measure => simp [intOf]; omega
                  | true =>
                    have MA := endless_first HV.out htm HNE.out HCT.out (HDD.out.1 rfl) HLL.out.symm HRT.out.symm
                    rw [← HRP.out, HTL.out] at MA
                    obtain ⟨ma1, ma2, ma3⟩ := MA
                    have ne0 : ((rp.endless.length : Int) == 0) = false := by simp; exact ma1
                    have C3 : ∀ W, Below W5.heap.size W5 W → Calls Tryd.prog 20 #[.slice a3 rp.endless.length c3, .slice (some ⟨gw, 0, none⟩) k wd] W fun e w' => e = .returned (.bool true) ∧ Below W5.heap.size W5 w' := fun W h => by
                      have hx := H85.out.trans (h.mono H85.out.size)
                      have hy := numsAt_pre (NO2.out.on (HB5.out.trans (h.mono HB5.out.size))) hkl
                      have := First_any rp.endless (ints (ou2.take k)) a3 (some ⟨gw, 0, none⟩) c3 wd W (NE8.out.on hx) (by rw [ints_len, HTL.out]; exact hy) (by omega) (by rw [ints_len, HTL.out]; omega)
                      rw [ints_len, HTL.out, ma3] at this
                      exact this.mono fun e w' h' => ⟨h'.1, h.trans (h'.2.mono h.size)⟩
                    clear ma1 ma2 ma3
                    refine held_take 24 (.pointer (some ⟨gr, 2, none⟩)) rfl (by kernel_rfl) (by kernel_rfl) (by kernel_rfl) (fun c a w h => by cases h.1) (by kernel_rfl) (fun W hW => by go_simp) S2 ?_
                    skip
                    refine held_take 25 (.slice a3 rp.endless.length c3) rfl (by kernel_rfl) (by kernel_rfl) (by kernel_rfl) (fun c a w h => by cases h.1) (by kernel_rfl) (fun W hW => by obtain ⟨⟨f0, f1, f2⟩, f3, f4⟩ := FW.out W hW; go_simp) S2 ?_
                    skip
                    refine held_take 26 (.int .i64 (rp.endless.length : Nat)) rfl (by kernel_rfl) (by kernel_rfl) (by kernel_rfl) (fun c a w h => by cases h.1) (by kernel_rfl) (fun W hW => by go_simp) S2 ?_
                    skip
                    refine held_take 27 (.bool false) rfl (by kernel_rfl) (by kernel_rfl) (by kernel_rfl) (fun c a w h => by cases h.1) (by kernel_rfl) (fun W hW => by go_simp) S2 ?_
                    skip
                    refine held_take 28 (.bool false) rfl (by kernel_rfl) (by kernel_rfl) (by kernel_rfl) (fun c a w h => by cases h.1) (by kernel_rfl) (fun W hW => by go_simp) S2 ?_
                    skip
                    refine held_take 29 (.pointer (some ⟨gr, 2, none⟩)) rfl (by kernel_rfl) (by kernel_rfl) (by kernel_rfl) (fun c a w h => by cases h.1) (by kernel_rfl) (fun W hW => by go_simp) S2 ?_
                    skip
                    refine held_take 30 (.slice a3 rp.endless.length c3) rfl (by kernel_rfl) (by kernel_rfl) (by kernel_rfl) (fun c a w h => by cases h.1) (by kernel_rfl) (fun W hW => by obtain ⟨⟨f0, f1, f2⟩, f3, f4⟩ := FW.out W hW; go_simp) S2 ?_
                    skip
                    refine held_take 31 (.slice (some ⟨gw, 0, none⟩) ou2.length wd) rfl (by kernel_rfl) (by kernel_rfl) (by kernel_rfl) (fun c a w h => by cases h.1) (by kernel_rfl) (fun W hW => by go_simp) S2 ?_
                    skip
                    refine held_take 32 (.int .i64 (k : Nat)) rfl (by kernel_rfl) (by kernel_rfl) (by kernel_rfl) (fun c a w h => by cases h.1) (by kernel_rfl) (fun W hW => by go_simp) S2 ?_
                    skip
                    refine held_take 33 (.slice (some ⟨gw, 0, none⟩) k wd) rfl (by kernel_rfl) (by kernel_rfl) (by kernel_rfl) (fun c a w h => by cases h.1) (by kernel_rfl) (fun W hW => by go_simp) S2 ?_
                    skip
                    refine held_call 34 20 #[.slice a3 rp.endless.length c3, .slice (some ⟨gw, 0, none⟩) k wd] rfl (by kernel_rfl) (by kernel_rfl) (by go_simp) (C3 _ S2) ?_
                    rintro e Wc ⟨rfl, S3⟩
                    refine ⟨_, rfl, S3, ?_⟩
                    skip
                    refine held_take 35 (.bool false) rfl (by kernel_rfl) (by kernel_rfl) (by kernel_rfl) (fun c a w h => by cases h.1) (by kernel_rfl) (fun W hW => by go_simp) S3 ?_
                    skip
                    refine held_take 36 (.bool false) rfl (by kernel_rfl) (by kernel_rfl) (by kernel_rfl) (fun c a w h => by cases h.1) (by kernel_rfl) (fun W hW => by go_simp) S3 ?_
                    skip
                    refine held_take 37 (.bool false) rfl (by kernel_rfl) (by kernel_rfl) (by kernel_rfl) (fun c a w h => by cases h.1) (by kernel_rfl) (fun W hW => by go_simp) S3 ?_
                    skip
                    refine held_done_as (b := ({ tmps := #[Value.agg #[Value.int IntKind.u8 ↑M, Value.int IntKind.u8 ↑A, Value.slice ma mn mc], Value.slice la ln lc, Value.int IntKind.u8 ↑fr, Value.pointer (some { block := w.heap.size, off := 0 }), undef, undef, u6, Value.bool true, Value.pointer (some { block := gs, off := 0 }), Value.pointer (some { block := gr, off := 0 }), Value.slice (some { block := lb, off := 0 }) m m, Value.slice (some { block := gv, off := 0 }) out.length wc, Value.int IntKind.i64 ↑n, u13, u14, Value.int IntKind.i64 ↑t', Value.slice (some { block := gw, off := 0 }) ou2.length wd, Value.int IntKind.i64 ↑k, Value.int IntKind.i64 ↑t', Value.bool true, Value.bool true, Value.agg #[Value.int IntKind.u8 ↑M, Value.int IntKind.u8 ↑A, Value.slice ma mn mc], Value.agg #[Value.int IntKind.i64 ↑m, Value.int IntKind.u8 ↑acc, Value.slice va rs.length vc], Value.agg #[Value.int IntKind.i64 ↑m, Value.int IntKind.u8 ↑acc, Value.slice va rs.length vc], Value.agg #[Value.slice a1 rp.dead.length c1, Value.slice a2 rp.stuck.length c2, Value.slice a3 rp.endless.length c3], Value.agg #[Value.int IntKind.i64 ↑m, Value.int IntKind.u8 ↑acc, Value.slice va rs.length vc], Value.slice (some { block := lb, off := 0 }) m m, Value.agg #[Value.int IntKind.i64 ↑m, Value.int IntKind.u8 ↑acc, Value.slice va rs.length vc], Value.slice la ln lc, Value.slice (some { block := gv, off := 0 }) out.length wc, Value.int IntKind.i64 ↑n, Value.slice (some { block := gv, off := 0 }) out.length wc, Value.int IntKind.i64 ↑out.length, Value.bool true, Value.bool true, Value.slice (some { block := lb, off := 0 }) m m, Value.pointer (some { block := lb, off := 0 }), Value.bool false, Value.bool false, u39, u40, u41, u42, u43, u44, u45, u46, u47, u48, u49, u50, u51, u52, u53, u54, u55, u56, u57, u58, u59, u60, u61, u62, u63, u64, u65, u66, u67, u68, Value.int IntKind.u8 ↑fr, Value.int IntKind.i64 ↑fr, Value.pointer (some { block := gs, off := 0 }), Value.int IntKind.i64 ↑m, Value.int IntKind.i64 ↑t', Value.agg #[Value.int IntKind.i64 ↑m, Value.int IntKind.u8 ↑acc, Value.slice va rs.length vc], Value.int IntKind.i64 ↑t', Value.slice la ln lc, Value.slice (some { block := gw, off := 0 }) ou2.length wd, Value.int IntKind.i64 ↑k, Value.slice (some { block := gw, off := 0 }) ou2.length wd, Value.int IntKind.i64 ↑ou2.length, Value.bool true, u82, u83, Value.tuple #[Value.int IntKind.i64 ↑t', Value.bool true], Value.agg #[Value.int IntKind.i64 ↑m, Value.int IntKind.u8 ↑acc, Value.slice va rs.length vc], Value.int IntKind.i64 ↑t', Value.slice (some { block := gw, off := 0 }) ou2.length wd, Value.int IntKind.i64 ↑k, Value.slice (some { block := gw, off := 0 }) k wd, Value.tuple #[Value.int IntKind.i64 ↑t', Value.bool true], Value.int IntKind.i64 ↑t', Value.bool true, (.int .i64 (t' : Nat)), (.int .i64 (t' : Nat)), (.bool true), (.bool true), (.agg #[.int .i64 (m : Nat), .int .u8 (acc : Nat), .slice va rs.length vc]), (.slice (some ⟨gw, 0, none⟩) ou2.length wd), (.int .i64 (k : Nat)), (.slice (some ⟨gw, 0, none⟩) k wd), (.bool true), (.bool true), (.bool true), (.slice (some ⟨lb, 0, none⟩) m m), (.int .i64 (t' : Nat)), (.pointer (some ⟨lb, t', none⟩)), (.bool true), (.bool true), (.bool true), (.agg #[.int .i64 (m : Nat), .int .u8 (acc : Nat), .slice va rs.length vc]), (.slice (some ⟨rb, 0, none⟩) m m), (.int .i64 (t' : Nat)), (.pointer (some ⟨rb, t', none⟩)), (.bool true), (.bool true), (.bool true), (.pointer (some ⟨gr, 2, none⟩)), (.slice a3 rp.endless.length c3), (.int .i64 (rp.endless.length : Nat)), (.bool false), (.bool false), (.pointer (some ⟨gr, 2, none⟩)), (.slice a3 rp.endless.length c3), (.slice (some ⟨gw, 0, none⟩) ou2.length wd), (.int .i64 (k : Nat)), (.slice (some ⟨gw, 0, none⟩) k wd), (.bool true), (.bool false), (.bool false), (.bool false), undef], defers := [] } : Act)) (by kernel_rfl) (by kernel_rfl) ⟨rfl, ?_⟩
                    have HB6 := Lib.hid (HB5.out.trans (S3.mono HB5.out.size))
                    clear CR FW HB5 C1 S1 S2 S3 C3
                    go_wp2_with fail
                    go_roundw
                    case rel => exact ⟨k + 1, by go_num, by omega, by omega, HB6.out⟩
                    case measure => simp [intOf]; omega
            · have eqt : ((t' : Int) == (mm : Int)) = false := by simp; omega
              go_upto_region 18 with fail
              refine wp_normal ?_
              refine wp_region_class (C := fun W => Below W5.heap.size W5 W) (by kernel_rfl) (by kernel_rfl) (Below.refl _ _).drew ?_
              repeat (first | go_big_quiet_skip | (go_big_quiet_want; first | (go_big_quiet_op; go_big_quiet_on) | (refine quiet_value ?_ (fun W h => ?_) ?_; rotate_left; (· have f0 := eqt; go_simp; rfl); go_simp; go_big_quiet_on)))
              refine wpQuiet_nil ?_
              intro W6 hcj
              refine ⟨rfl, ?_⟩
              have HB6 := Lib.hid (HB5.out.trans (hcj.mono HB5.out.size))
              clear hcj HB5
              go_wp2_with fail
              go_roundw
              case rel => exact ⟨k + 1, by go_num, by omega, by omega, HB6.out⟩
              case measure => simp [intOf]; omega
          · have BF := Lib.hid (BW8.out.trans (HX8.out.mono BW8.out.size))
            go_wp2_with fail
            go_ret
            exact ⟨rfl, BF.out⟩
      | true =>
        rw [hl0] at lv0
        have HL1 := Lib.hid (show liveB m acc rs 0 = true by rw [← HL0.out]; exact hl0)
        clear hl0
        have hnl : n ≤ out.length := by omega
        obtain ⟨t', hct⟩ := chn_take HCH.out n
        have htl : (out.take n).length = n := by rw [List.length_take]; omega
        have htm : t' < m := chn_lt HRR.out (by omega) hct
        have hne : out.take n ≠ [] := fun e => by rw [e] at htl; simp at htl; omega
        have XO := Lib.hid (XS8.out.on HB.out)
        have NOO := Lib.hid (NO.out.on HB.out)
        have CC : ∀ W, Below wo.heap.size wo W → Calls Tryd.prog 19 #[.agg #[.int .i64 (m : Nat), .int .u8 (acc : Nat), .slice va rs.length vc], .int .i64 0, .slice (some ⟨gv, 0, none⟩) n wc] W fun e w' => e = .returned (.tuple #[.int .i64 (t' : Nat), .bool true]) ∧ Below wo.heap.size wo w' := fun W h => by
          have := Chain_any m acc va vc rs 0 t' (out.take n) (some ⟨gv, 0, none⟩) wc W (XO.out.on h) hrl HRR.out (by rw [htl]; exact (numsAt_pre NOO.out hnl).on h) (by omega) hct
          rw [htl] at this
          exact this.mono fun e w' h' => ⟨h'.1, h.trans (h'.2.mono h.size)⟩
        have FS := Lib.hid (show ∀ W, Below wo.heap.size wo W → W.cell? ⟨gs, 0, none⟩ = some (.int .i64 (m : Nat)) ∧ W.cell? ⟨gs, 1, none⟩ = some (.int .u8 (acc : Nat)) ∧ W.cell? ⟨gs, 2, none⟩ = some (.slice va rs.length vc) from fun W h => (SO.out.below h).cells)
        have hnw : n ≤ wc := by omega
        have hnw' : (n : Int) ≤ (wc : Int) := by omega
        have HCT := Lib.hid hct
        have HNE := Lib.hid hne
        have HTL := Lib.hid htl
        clear hct hne htl
        go_upto_region 9 with fail
        clear lv0
        refine wp_normal ?_
        refine wp_region_class (C := fun W => Below wo.heap.size wo W) (by kernel_rfl) (by kernel_rfl) (Below.refl _ _).drew ?_
        repeat (first | go_big_quiet_skip | (go_big_quiet_want; first | (go_big_quiet_op; go_big_quiet_on) | (refine quiet_value ?_ (fun W h => ?_) ?_; rotate_left; (· obtain ⟨f0, f1, f2⟩ := FS.out W h; go_simp; rfl); go_simp; go_big_quiet_on) | (refine quiet_call _ _ _ (fun W => ?_) CC ?_; (· go_simp; done); go_simp; go_big_quiet_on)))
        refine wpQuiet_nil ?_
        intro W5 hcj
        refine ⟨rfl, ?_⟩
        have HB5 := Lib.hid (HB.out.trans (hcj.mono HB.out.size))
        clear hcj CC FS SO XO NOO HB
        have htm' : (t' : Int) < (m : Int) := by omega
        have t0 : (0 : Int) ≤ (t' : Int) := by omega
        cases hlt : liveB m acc rs t' with
        | true =>
          have FX := Lib.hid (show ∀ W, Below W5.heap.size W5 W → W.cell? ⟨lb, t', none⟩ = some (.bool true) from fun W h => by
            have := LV8.out W (HB5.out.trans (h.mono HB5.out.size)) t' htm
            rwa [hlt] at this)
          clear hlt
          go_upto_region 10 with fail
          refine wp_normal ?_
          refine wp_region_class (C := fun W => Below W5.heap.size W5 W) (by kernel_rfl) (by kernel_rfl) (Below.refl _ _).drew ?_
          repeat (first | go_big_quiet_skip | (go_big_quiet_want; first | (go_big_quiet_op; go_big_quiet_on) | (refine quiet_value ?_ (fun W h => ?_) ?_; rotate_left; (· have f0 := FX.out W h; go_simp; rfl); go_simp; go_big_quiet_on)))
          refine wpQuiet_nil ?_
          intro W6 hcj
          refine ⟨rfl, ?_⟩
          have HB6 := Lib.hid (HB5.out.trans (hcj.mono HB5.out.size))
          clear hcj FX HB5
          go_wp2_with fail
          go_roundw
          case rel => exact ⟨n + 1, by go_num, by omega, by omega, HB6.out⟩
          case measure => simp [intOf]; omega
        | false =>
          have MA := stuck_first HV.out h256 HNE.out HCT.out HL1.out hlt
          rw [← HRP.out, HTL.out] at MA
          obtain ⟨ma1, ma2, ma3⟩ := MA
          have sl0 : ((rp.stuck.length : Int) == 0) = false := by simp; exact ma1
          have FX := Lib.hid (show ∀ W, Below W5.heap.size W5 W → W.cell? ⟨lb, t', none⟩ = some (.bool false) ∧ W.cell? ⟨gr, 1, none⟩ = some (.slice a2 rp.stuck.length c2) from fun W h => by
            have h1 := LV8.out W (HB5.out.trans (h.mono HB5.out.size)) t' htm
            rw [hlt] at h1
            exact ⟨h1, (RP8.out.below (HB5.out.trans (h.mono HB5.out.size))).cells.2.1⟩)
          have C1 : ∀ W, Below W5.heap.size W5 W → Calls Tryd.prog 20 #[.slice a2 rp.stuck.length c2, .slice (some ⟨gv, 0, none⟩) n wc] W fun e w' => e = .returned (.bool true) ∧ Below W5.heap.size W5 w' := fun W h => by
            have hx := HB5.out.trans (h.mono HB5.out.size)
            have hy := numsAt_pre (NO.out.on hx) hnl
            have := First_any rp.stuck (ints (out.take n)) a2 (some ⟨gv, 0, none⟩) c2 wc W (NS8.out.on hx) (by rw [ints_len, HTL.out]; exact hy) (by omega) (by rw [ints_len, HTL.out]; omega)
            rw [ints_len, HTL.out, ma3] at this
            exact this.mono fun e w' h' => ⟨h'.1, h.trans (h'.2.mono h.size)⟩
          clear hlt ma1 ma2 ma3
          go_upto_region 10 with fail
          refine wp_normal ?_
          refine wp_region_class (C := fun W => Below W5.heap.size W5 W) (by kernel_rfl) (by kernel_rfl) (Below.refl _ _).drew ?_
          repeat (first | go_big_quiet_skip | (go_big_quiet_want; first | (go_big_quiet_op; go_big_quiet_on) | (refine quiet_value ?_ (fun W h => ?_) ?_; rotate_left; (· obtain ⟨f0, f1⟩ := FX.out W h; go_simp; rfl); go_simp; go_big_quiet_on) | (refine quiet_call _ _ _ (fun W => ?_) C1 ?_; (· go_simp; done); go_simp; go_big_quiet_on)))
          refine wpQuiet_nil ?_
          intro W6 hcj
          refine ⟨rfl, ?_⟩
          have HB6 := Lib.hid (HB5.out.trans (hcj.mono HB5.out.size))
          clear hcj FX HB5 C1
          go_wp2_with fail
          go_roundw
          case rel => exact ⟨n + 1, by go_num, by omega, by omega, HB6.out⟩
          case measure => simp [intOf]; omega
    · clear hn1
      obtain ⟨s0, s1, s2⟩ := SO.out.cells
      obtain ⟨mm, hmm⟩ : ∃ k, k = fr % m := ⟨_, rfl⟩
      have hmml : mm < m := by rw [hmm]; exact Nat.mod_lt _ m0
      have e1 : (fr : Int).tmod (m : Int) = (mm : Int) := by rw [Int.tmod_eq_emod_of_nonneg (by omega), hmm, Int.natCast_emod]
      have w1 : IntKind.i64.wrap (fr : Int) = (fr : Int) := IntWalk.i64_in _ (by omega)
      have w2 : IntKind.i64.wrap (mm : Int) = (mm : Int) := IntWalk.i64_in _ (by omega)
      have hm0 : ¬ (m : Int) = 0 := by omega
      clear hmm
      go_wp2_with fail
      refine (Walk_any m acc va vc rs mm la ln lc wo (XS8.out.on HB.out) hrl HRR.out (HU.out.on (BW8.out.trans (HB.out.mono BW8.out.size))) hln hmml).mono ?_
      rintro e y ⟨gw, wd, ou2, u, rfl, hno2, ho2, hch2, hb2⟩
      have D8 := Lib.hid (HB.out.trans (hb2.mono HB.out.size))
      have NO2 := Lib.hid (show NumsAt y y.heap.size (.slice (some ⟨gw, 0, none⟩) ou2.length wd) (ints ou2) from hno2.at)
      have HC2 := Lib.hid hch2
      have hwd : ou2.length ≤ wd := by have := numsOwn_cap hno2; rwa [ints_len] at this
      clear hno2 hch2 hb2 HB SO lv0 s0 s1 s2 e1 w1 w2
      go_wp2_with fail
      go_loopw [17] (fun iv wr => ∃ k : Nat, iv = .int .i64 (k : Nat) ∧ 1 ≤ k ∧ k ≤ ou2.length + 1 ∧ Below y.heap.size y wr) (fun iv _ => ou2.length + 1 - (intOf iv).toNat)
      case atStart => exact ⟨1, rfl, Nat.le_refl _, by omega, Below.refl _ _⟩
      case round =>
        obtain ⟨k, rfl, hk1, hk, hb⟩ := hrel
        generalize wr = wv at *
        have HB := Lib.hid hb
        have HX8 := Lib.hid (D8.out.trans (hb.mono D8.out.size))
        clear hb
        have k0 : (0 : Int) ≤ (k : Int) := by omega
        by_cases h2 : (k : Int) ≤ (ou2.length : Int)
        · have hkl : k ≤ ou2.length := by omega
          obtain ⟨t', hct⟩ := chn_take HC2.out k
          have htl : (ou2.take k).length = k := by rw [List.length_take]; omega
          have htm : t' < m := chn_lt HRR.out hmml hct
          have hne : ou2.take k ≠ [] := fun e => by rw [e] at htl; simp at htl; omega
          have XO := Lib.hid (XS8.out.on HX8.out)
          have NOO := Lib.hid (NO2.out.on HB.out)
          have SO := Lib.hid (SS8.out.below HX8.out)
          have CC : ∀ W, Below wv.heap.size wv W → Calls Tryd.prog 19 #[.agg #[.int .i64 (m : Nat), .int .u8 (acc : Nat), .slice va rs.length vc], .int .i64 (mm : Nat), .slice (some ⟨gw, 0, none⟩) k wd] W fun e w' => e = .returned (.tuple #[.int .i64 (t' : Nat), .bool true]) ∧ Below wv.heap.size wv w' := fun W h => by
            have := Chain_any m acc va vc rs mm t' (ou2.take k) (some ⟨gw, 0, none⟩) wd W (XO.out.on h) hrl HRR.out (by rw [htl]; exact (numsAt_pre NOO.out hkl).on h) (by omega) hct
            rw [htl] at this
            exact this.mono fun e w' h' => ⟨h'.1, h.trans (h'.2.mono h.size)⟩
          have FS := Lib.hid (show ∀ W, Below wv.heap.size wv W → W.cell? ⟨gs, 0, none⟩ = some (.int .i64 (m : Nat)) ∧ W.cell? ⟨gs, 1, none⟩ = some (.int .u8 (acc : Nat)) ∧ W.cell? ⟨gs, 2, none⟩ = some (.slice va rs.length vc) from fun W h => (SO.out.below h).cells)
          have hnw : k ≤ wd := by omega
          have hnw' : (k : Int) ≤ (wd : Int) := by omega
          have HCT := Lib.hid hct
          have HNE := Lib.hid hne
          have HTL := Lib.hid htl
          clear hct hne htl
          go_upto_region 17 with fail
          refine wp_normal ?_
          refine wp_region_class (C := fun W => Below wv.heap.size wv W) (by kernel_rfl) (by kernel_rfl) (Below.refl _ _).drew ?_
          repeat (first | go_big_quiet_skip | (go_big_quiet_want; first | (go_big_quiet_op; go_big_quiet_on) | (refine quiet_value ?_ (fun W h => ?_) ?_; rotate_left; (· obtain ⟨f0, f1, f2⟩ := FS.out W h; go_simp; rfl); go_simp; go_big_quiet_on) | (refine quiet_call _ _ _ (fun W => ?_) CC ?_; (· go_simp; done); go_simp; go_big_quiet_on)))
          refine wpQuiet_nil ?_
          intro W5 hcj
          refine ⟨rfl, ?_⟩
          have HB5 := Lib.hid (HB.out.trans (hcj.mono HB.out.size))
          have H85 := Lib.hid (HX8.out.trans (hcj.mono HX8.out.size))
          clear hcj CC FS SO XO NOO HB HX8
          have htm' : (t' : Int) < (m : Int) := by omega
          have t0 : (0 : Int) ≤ (t' : Int) := by omega
          by_cases htq : t' = mm
          · subst htq
            have eqt : ((t' : Int) == (t' : Int)) = true := by simp
            obtain ⟨D, hD⟩ : ∃ D : Bool, D = true ↔ ∀ j (hj : j < rs.length), j ∈ ou2.take k → noIn rs[j] = true := by
              by_cases h : ∀ j (hj : j < rs.length), j ∈ ou2.take k → noIn rs[j] = true
              · exact ⟨true, fun _ => h, fun _ => rfl⟩
              · exact ⟨false, fun e => (by cases e), fun e => absurd e h⟩
            have HDD := Lib.hid hD
            have C1 : ∀ W, Below W5.heap.size W5 W → Calls Tryd.prog 21 #[.agg #[.int .i64 (m : Nat), .int .u8 (acc : Nat), .slice va rs.length vc], .slice (some ⟨gw, 0, none⟩) k wd] W fun e w' => e = .returned (.bool D) ∧ Below W5.heap.size W5 w' := fun W h => by
              have := Silent_any m acc va vc rs (ou2.take k) (some ⟨gw, 0, none⟩) wd D W (XS8.out.on (H85.out.trans (h.mono H85.out.size))) hrl (by rw [HTL.out]; exact numsAt_pre (NO2.out.on (HB5.out.trans (h.mono HB5.out.size))) hkl) (by rw [HTL.out]; omega) (fun j hj => chn_num HCT.out j hj) HDD.out
              rw [HTL.out] at this
              exact this.mono fun e w' h' => ⟨h'.1, h.trans (h'.2.mono h.size)⟩
            clear hD
            obtain ⟨L, hL⟩ : ∃ L, L = liveB m acc rs t' := ⟨_, rfl⟩
            have FW := Lib.hid (show ∀ W, Below W5.heap.size W5 W → (W.cell? ⟨gs, 0, none⟩ = some (.int .i64 (m : Nat)) ∧ W.cell? ⟨gs, 1, none⟩ = some (.int .u8 (acc : Nat)) ∧ W.cell? ⟨gs, 2, none⟩ = some (.slice va rs.length vc)) ∧ W.cell? ⟨lb, t', none⟩ = some (.bool L) ∧ W.cell? ⟨gr, 2, none⟩ = some (.slice a3 rp.endless.length c3) from fun W h => by
              have hx := H85.out.trans (h.mono H85.out.size)
              exact ⟨(SS8.out.below hx).cells, by rw [hL]; exact LV8.out W hx t' htm, (RP8.out.below hx).cells.2.2⟩)
            have HLL := Lib.hid hL
            clear hL
            cases D with
            | false =>
              go_upto_region 18 with fail
              refine wp_normal ?_
              refine wp_region_class (C := fun W => Below W5.heap.size W5 W) (by kernel_rfl) (by kernel_rfl) (Below.refl _ _).drew ?_
              repeat (first | go_big_quiet_skip | (go_big_quiet_want; first | (go_big_quiet_op; go_big_quiet_on) | (refine quiet_value ?_ (fun W h => ?_) ?_; rotate_left; (· obtain ⟨⟨f0, f1, f2⟩, f3, f4⟩ := FW.out W h; go_simp; rfl); go_simp; go_big_quiet_on) | (refine quiet_call _ _ _ (fun W => ?_) C1 ?_; (· go_simp; done); go_simp; go_big_quiet_on)))
              refine wpQuiet_nil ?_
              intro W6 hcj
              refine ⟨rfl, ?_⟩
              have HB6 := Lib.hid (HB5.out.trans (hcj.mono HB5.out.size))
              clear hcj FW HB5 C1
              go_wp2_with fail
              go_roundw
              case rel => exact ⟨k + 1, by go_num, by omega, by omega, HB6.out⟩
              case measure => simp [intOf]; omega
            | true =>
              cases L with
              | false =>
                go_upto_region 18 with fail
                refine wp_normal ?_
                refine wp_region_class (C := fun W => Below W5.heap.size W5 W) (by kernel_rfl) (by kernel_rfl) (Below.refl _ _).drew ?_
                repeat (first | go_big_quiet_skip | (go_big_quiet_want; first | (go_big_quiet_op; go_big_quiet_on) | (refine quiet_value ?_ (fun W h => ?_) ?_; rotate_left; (· obtain ⟨⟨f0, f1, f2⟩, f3, f4⟩ := FW.out W h; go_simp; rfl); go_simp; go_big_quiet_on) | (refine quiet_call _ _ _ (fun W => ?_) C1 ?_; (· go_simp; done); go_simp; go_big_quiet_on)))
                refine wpQuiet_nil ?_
                intro W6 hcj
                refine ⟨rfl, ?_⟩
                have HB6 := Lib.hid (HB5.out.trans (hcj.mono HB5.out.size))
                clear hcj FW HB5 C1
                go_wp2_with fail
                go_roundw
                case rel => exact ⟨k + 1, by go_num, by omega, by omega, HB6.out⟩
                case measure => simp [intOf]; omega
              | true =>
                have CR := fun W (h : Below W5.heap.size W5 W) => Lib.hid (Reached_any m acc 0 va vc rs W hm.1 (by omega) (by omega) (XS8.out.on (H85.out.trans (h.mono H85.out.size))) (by unfold maxLen; omega) HRR.out)
                go_upto_region 18 with fail
                refine wp_normal ?_
                refine held_start (S := fun W => Below W5.heap.size W5 W) 38 (by kernel_rfl) rfl ?_
                have S0 := (Below.refl W5.heap.size W5).drew
                refine held_take 0 (.int .i64 (t' : Nat)) rfl (by kernel_rfl) (by kernel_rfl) (by kernel_rfl) (fun c a w h => by cases h.1) (by kernel_rfl) (fun W hW => by go_simp) S0 ?_
                skip
                refine held_take 1 (.int .i64 (t' : Nat)) rfl (by kernel_rfl) (by kernel_rfl) (by kernel_rfl) (fun c a w h => by cases h.1) (by kernel_rfl) (fun W hW => by go_simp) S0 ?_
                skip
                refine held_take 2 (.bool true) rfl (by kernel_rfl) (by kernel_rfl) (by kernel_rfl) (fun c a w h => by cases h.1) (by kernel_rfl) (fun W hW => by go_simp) S0 ?_
                skip
                refine held_take 3 (.bool true) rfl (by kernel_rfl) (by kernel_rfl) (by kernel_rfl) (fun c a w h => by cases h.1) (by kernel_rfl) (fun W hW => by go_simp) S0 ?_
                skip
                refine held_take 4 (.agg #[.int .i64 (m : Nat), .int .u8 (acc : Nat), .slice va rs.length vc]) rfl (by kernel_rfl) (by kernel_rfl) (by kernel_rfl) (fun c a w h => by cases h.1) (by kernel_rfl) (fun W hW => by obtain ⟨⟨f0, f1, f2⟩, f3, f4⟩ := FW.out W hW; go_simp) S0 ?_
                skip
                refine held_take 5 (.slice (some ⟨gw, 0, none⟩) ou2.length wd) rfl (by kernel_rfl) (by kernel_rfl) (by kernel_rfl) (fun c a w h => by cases h.1) (by kernel_rfl) (fun W hW => by go_simp) S0 ?_
                skip
                refine held_take 6 (.int .i64 (k : Nat)) rfl (by kernel_rfl) (by kernel_rfl) (by kernel_rfl) (fun c a w h => by cases h.1) (by kernel_rfl) (fun W hW => by go_simp) S0 ?_
                skip
                refine held_take 7 (.slice (some ⟨gw, 0, none⟩) k wd) rfl (by kernel_rfl) (by kernel_rfl) (by kernel_rfl) (fun c a w h => by cases h.1) (by kernel_rfl) (fun W hW => by go_simp) S0 ?_
                skip
                refine held_call 8 21 #[.agg #[.int .i64 (m : Nat), .int .u8 (acc : Nat), .slice va rs.length vc], .slice (some ⟨gw, 0, none⟩) k wd] rfl (by kernel_rfl) (by kernel_rfl) (by go_simp) (C1 _ S0) ?_
                rintro e Wa ⟨rfl, S1⟩
                refine ⟨_, rfl, S1, ?_⟩
                skip
                refine held_take 9 (.bool true) rfl (by kernel_rfl) (by kernel_rfl) (by kernel_rfl) (fun c a w h => by cases h.1) (by kernel_rfl) (fun W hW => by go_simp) S1 ?_
                skip
                refine held_take 10 (.bool true) rfl (by kernel_rfl) (by kernel_rfl) (by kernel_rfl) (fun c a w h => by cases h.1) (by kernel_rfl) (fun W hW => by go_simp) S1 ?_
                skip
                refine held_take 11 (.slice (some ⟨lb, 0, none⟩) m m) rfl (by kernel_rfl) (by kernel_rfl) (by kernel_rfl) (fun c a w h => by cases h.1) (by kernel_rfl) (fun W hW => by go_simp) S1 ?_
                skip
                refine held_take 12 (.int .i64 (t' : Nat)) rfl (by kernel_rfl) (by kernel_rfl) (by kernel_rfl) (fun c a w h => by cases h.1) (by kernel_rfl) (fun W hW => by go_simp) S1 ?_
                skip
                refine held_take 13 (.pointer (some ⟨lb, t', none⟩)) rfl (by kernel_rfl) (by kernel_rfl) (by kernel_rfl) (fun c a w h => by cases h.1) (by kernel_rfl) (fun W hW => by go_simp) S1 ?_
                skip
                refine held_take 14 (.bool true) rfl (by kernel_rfl) (by kernel_rfl) (by kernel_rfl) (fun c a w h => by cases h.1) (by kernel_rfl) (fun W hW => by obtain ⟨⟨f0, f1, f2⟩, f3, f4⟩ := FW.out W hW; go_simp) S1 ?_
                skip
                refine held_take 15 (.bool true) rfl (by kernel_rfl) (by kernel_rfl) (by kernel_rfl) (fun c a w h => by cases h.1) (by kernel_rfl) (fun W hW => by go_simp) S1 ?_
                skip
                refine held_take 16 (.bool true) rfl (by kernel_rfl) (by kernel_rfl) (by kernel_rfl) (fun c a w h => by cases h.1) (by kernel_rfl) (fun W hW => by go_simp) S1 ?_
                skip
                refine held_take 17 (.agg #[.int .i64 (m : Nat), .int .u8 (acc : Nat), .slice va rs.length vc]) rfl (by kernel_rfl) (by kernel_rfl) (by kernel_rfl) (fun c a w h => by cases h.1) (by kernel_rfl) (fun W hW => by obtain ⟨⟨f0, f1, f2⟩, f3, f4⟩ := FW.out W hW; go_simp) S1 ?_
                skip
                refine held_take 19 (.int .i64 (t' : Nat)) rfl (by kernel_rfl) (by kernel_rfl) (by kernel_rfl) (fun c a w h => by cases h.1) (by kernel_rfl) (fun W hW => by go_simp) S1 ?_
                skip
                refine held_call 18 22 #[.agg #[.int .i64 (m : Nat), .int .u8 (acc : Nat), .slice va rs.length vc], .int .i64 0] rfl (by kernel_rfl) (by kernel_rfl) (by go_simp) (CR _ S1).out ?_
                rintro e Wb ⟨rb, rfl, hbs, -, hb1⟩
                have S2 : Below W5.heap.size W5 Wb := S1.trans (hb1.mono S1.size)
                obtain ⟨R, hR⟩ : ∃ R, R = (rnds rStep rs m (2 ^ 0)).testBit t' := ⟨_, rfl⟩
                have hcell : Wb.cell? ⟨rb, t', none⟩ = some (.bool R) := by
                  have h := hbs.cell t' (by rw [setL_len]; exact htm)
                  rw [setL_get m _ t' htm] at h
                  rw [hR]; exact h
                have HRT := Lib.hid hR
                refine ⟨_, rfl, S2, ?_⟩
                skip
                clear hbs hb1 hR S0
                refine held_take 20 (.pointer (some ⟨rb, t', none⟩)) rfl (by kernel_rfl) (by kernel_rfl) (by kernel_rfl) (fun c a w h => by cases h.1) (by kernel_rfl) (fun W hW => by go_simp) S2 ?_
                skip
                refine held_value 21 (.bool R) rfl (by kernel_rfl) (by kernel_rfl) (by go_simp) S2 ?_
                skip
                refine held_take 22 (.bool R) rfl (by kernel_rfl) (by kernel_rfl) (by kernel_rfl) (fun c a w h => by cases h.1) (by kernel_rfl) (fun W hW => by go_simp) S2 ?_
                skip
                refine held_take 23 (.bool R) rfl (by kernel_rfl) (by kernel_rfl) (by kernel_rfl) (fun c a w h => by cases h.1) (by kernel_rfl) (fun W hW => by go_simp) S2 ?_
                skip
                clear hcell
                cases R with
                | false =>
                  refine held_out 24 rfl (by kernel_rfl) (by kernel_rfl) (by kernel_rfl) (fun c a w h => by cases h.1) (by kernel_rfl) S2 ?_
                  skip
                  refine held_out 25 rfl (by kernel_rfl) (by kernel_rfl) (by kernel_rfl) (fun c a w h => by cases h.1) (by kernel_rfl) S2 ?_
                  skip
                  refine held_out 26 rfl (by kernel_rfl) (by kernel_rfl) (by kernel_rfl) (fun c a w h => by cases h.1) (by kernel_rfl) S2 ?_
                  skip
                  refine held_out 27 rfl (by kernel_rfl) (by kernel_rfl) (by kernel_rfl) (fun c a w h => by cases h.1) (by kernel_rfl) S2 ?_
                  skip
                  refine held_out 28 rfl (by kernel_rfl) (by kernel_rfl) (by kernel_rfl) (fun c a w h => by cases h.1) (by kernel_rfl) S2 ?_
                  skip
                  refine held_out 29 rfl (by kernel_rfl) (by kernel_rfl) (by kernel_rfl) (fun c a w h => by cases h.1) (by kernel_rfl) S2 ?_
                  skip
                  refine held_out 30 rfl (by kernel_rfl) (by kernel_rfl) (by kernel_rfl) (fun c a w h => by cases h.1) (by kernel_rfl) S2 ?_
                  skip
                  refine held_out 31 rfl (by kernel_rfl) (by kernel_rfl) (by kernel_rfl) (fun c a w h => by cases h.1) (by kernel_rfl) S2 ?_
                  skip
                  refine held_out 32 rfl (by kernel_rfl) (by kernel_rfl) (by kernel_rfl) (fun c a w h => by cases h.1) (by kernel_rfl) S2 ?_
                  skip
                  refine held_out 33 rfl (by kernel_rfl) (by kernel_rfl) (by kernel_rfl) (fun c a w h => by cases h.1) (by kernel_rfl) S2 ?_
                  skip
                  refine held_out 34 rfl (by kernel_rfl) (by kernel_rfl) (by kernel_rfl) (fun c a w h => by cases h.1) (by kernel_rfl) S2 ?_
                  skip
                  refine held_out 35 rfl (by kernel_rfl) (by kernel_rfl) (by kernel_rfl) (fun c a w h => by cases h.1) (by kernel_rfl) S2 ?_
                  skip
                  refine held_out 36 rfl (by kernel_rfl) (by kernel_rfl) (by kernel_rfl) (fun c a w h => by cases h.1) (by kernel_rfl) S2 ?_
                  skip
                  refine held_take 37 (.bool false) rfl (by kernel_rfl) (by kernel_rfl) (by kernel_rfl) (fun c a w h => by cases h.1) (by kernel_rfl) (fun W hW => by go_simp) S2 ?_
                  skip
                  refine held_done_as (b := ({ tmps := #[Value.agg #[Value.int IntKind.u8 ↑M, Value.int IntKind.u8 ↑A, Value.slice ma mn mc], Value.slice la ln lc, Value.int IntKind.u8 ↑fr, Value.pointer (some { block := w.heap.size, off := 0 }), undef, undef, u6, Value.bool true, Value.pointer (some { block := gs, off := 0 }), Value.pointer (some { block := gr, off := 0 }), Value.slice (some { block := lb, off := 0 }) m m, Value.slice (some { block := gv, off := 0 }) out.length wc, Value.int IntKind.i64 ↑n, u13, u14, Value.int IntKind.i64 ↑t', Value.slice (some { block := gw, off := 0 }) ou2.length wd, Value.int IntKind.i64 ↑k, Value.int IntKind.i64 ↑t', Value.bool true, Value.bool true, Value.agg #[Value.int IntKind.u8 ↑M, Value.int IntKind.u8 ↑A, Value.slice ma mn mc], Value.agg #[Value.int IntKind.i64 ↑m, Value.int IntKind.u8 ↑acc, Value.slice va rs.length vc], Value.agg #[Value.int IntKind.i64 ↑m, Value.int IntKind.u8 ↑acc, Value.slice va rs.length vc], Value.agg #[Value.slice a1 rp.dead.length c1, Value.slice a2 rp.stuck.length c2, Value.slice a3 rp.endless.length c3], Value.agg #[Value.int IntKind.i64 ↑m, Value.int IntKind.u8 ↑acc, Value.slice va rs.length vc], Value.slice (some { block := lb, off := 0 }) m m, Value.agg #[Value.int IntKind.i64 ↑m, Value.int IntKind.u8 ↑acc, Value.slice va rs.length vc], Value.slice la ln lc, Value.slice (some { block := gv, off := 0 }) out.length wc, Value.int IntKind.i64 ↑n, Value.slice (some { block := gv, off := 0 }) out.length wc, Value.int IntKind.i64 ↑out.length, Value.bool false, Value.bool false, undef, undef, undef, Value.bool false, u39, u40, u41, u42, u43, u44, u45, u46, u47, u48, u49, u50, u51, u52, u53, u54, u55, u56, u57, u58, u59, u60, u61, u62, u63, u64, u65, u66, u67, u68, Value.int IntKind.u8 ↑fr, Value.int IntKind.i64 ↑fr, Value.pointer (some { block := gs, off := 0 }), Value.int IntKind.i64 ↑m, Value.int IntKind.i64 ↑t', Value.agg #[Value.int IntKind.i64 ↑m, Value.int IntKind.u8 ↑acc, Value.slice va rs.length vc], Value.int IntKind.i64 ↑t', Value.slice la ln lc, Value.slice (some { block := gw, off := 0 }) ou2.length wd, Value.int IntKind.i64 ↑k, Value.slice (some { block := gw, off := 0 }) ou2.length wd, Value.int IntKind.i64 ↑ou2.length, Value.bool true, u82, u83, Value.tuple #[Value.int IntKind.i64 ↑t', Value.bool true], Value.agg #[Value.int IntKind.i64 ↑m, Value.int IntKind.u8 ↑acc, Value.slice va rs.length vc], Value.int IntKind.i64 ↑t', Value.slice (some { block := gw, off := 0 }) ou2.length wd, Value.int IntKind.i64 ↑k, Value.slice (some { block := gw, off := 0 }) k wd, Value.tuple #[Value.int IntKind.i64 ↑t', Value.bool true], Value.int IntKind.i64 ↑t', Value.bool true, (.int .i64 (t' : Nat)), (.int .i64 (t' : Nat)), (.bool true), (.bool true), (.agg #[.int .i64 (m : Nat), .int .u8 (acc : Nat), .slice va rs.length vc]), (.slice (some ⟨gw, 0, none⟩) ou2.length wd), (.int .i64 (k : Nat)), (.slice (some ⟨gw, 0, none⟩) k wd), (.bool true), (.bool true), (.bool true), (.slice (some ⟨lb, 0, none⟩) m m), (.int .i64 (t' : Nat)), (.pointer (some ⟨lb, t', none⟩)), (.bool true), (.bool true), (.bool true), (.agg #[.int .i64 (m : Nat), .int .u8 (acc : Nat), .slice va rs.length vc]), (.slice (some ⟨rb, 0, none⟩) m m), (.int .i64 (t' : Nat)), (.pointer (some ⟨rb, t', none⟩)), (.bool false), (.bool false), (.bool false), undef, undef, undef, undef, undef, undef, undef, undef, undef, undef, undef, undef, undef, (.bool false), undef], defers := [] } : Act)) (by kernel_rfl) (by kernel_rfl) ⟨rfl, ?_⟩
                  have HB6 := Lib.hid (HB5.out.trans (S2.mono HB5.out.size))
                  clear CR FW HB5 C1 S1 S2
                  go_wp2_with fail
                  go_roundw
                  case rel => exact ⟨k + 1, by go_num, by omega, by omega, HB6.out⟩
                  case measure => simp [intOf]; omega
                | true =>
                  have MA := endless_first HV.out htm HNE.out HCT.out (HDD.out.1 rfl) HLL.out.symm HRT.out.symm
                  rw [← HRP.out, HTL.out] at MA
                  obtain ⟨ma1, ma2, ma3⟩ := MA
                  have ne0 : ((rp.endless.length : Int) == 0) = false := by simp; exact ma1
                  have C3 : ∀ W, Below W5.heap.size W5 W → Calls Tryd.prog 20 #[.slice a3 rp.endless.length c3, .slice (some ⟨gw, 0, none⟩) k wd] W fun e w' => e = .returned (.bool true) ∧ Below W5.heap.size W5 w' := fun W h => by
                    have hx := H85.out.trans (h.mono H85.out.size)
                    have hy := numsAt_pre (NO2.out.on (HB5.out.trans (h.mono HB5.out.size))) hkl
                    have := First_any rp.endless (ints (ou2.take k)) a3 (some ⟨gw, 0, none⟩) c3 wd W (NE8.out.on hx) (by rw [ints_len, HTL.out]; exact hy) (by omega) (by rw [ints_len, HTL.out]; omega)
                    rw [ints_len, HTL.out, ma3] at this
                    exact this.mono fun e w' h' => ⟨h'.1, h.trans (h'.2.mono h.size)⟩
                  clear ma1 ma2 ma3
                  refine held_take 24 (.pointer (some ⟨gr, 2, none⟩)) rfl (by kernel_rfl) (by kernel_rfl) (by kernel_rfl) (fun c a w h => by cases h.1) (by kernel_rfl) (fun W hW => by go_simp) S2 ?_
                  skip
                  refine held_take 25 (.slice a3 rp.endless.length c3) rfl (by kernel_rfl) (by kernel_rfl) (by kernel_rfl) (fun c a w h => by cases h.1) (by kernel_rfl) (fun W hW => by obtain ⟨⟨f0, f1, f2⟩, f3, f4⟩ := FW.out W hW; go_simp) S2 ?_
                  skip
                  refine held_take 26 (.int .i64 (rp.endless.length : Nat)) rfl (by kernel_rfl) (by kernel_rfl) (by kernel_rfl) (fun c a w h => by cases h.1) (by kernel_rfl) (fun W hW => by go_simp) S2 ?_
                  skip
                  refine held_take 27 (.bool false) rfl (by kernel_rfl) (by kernel_rfl) (by kernel_rfl) (fun c a w h => by cases h.1) (by kernel_rfl) (fun W hW => by go_simp) S2 ?_
                  skip
                  refine held_take 28 (.bool false) rfl (by kernel_rfl) (by kernel_rfl) (by kernel_rfl) (fun c a w h => by cases h.1) (by kernel_rfl) (fun W hW => by go_simp) S2 ?_
                  skip
                  refine held_take 29 (.pointer (some ⟨gr, 2, none⟩)) rfl (by kernel_rfl) (by kernel_rfl) (by kernel_rfl) (fun c a w h => by cases h.1) (by kernel_rfl) (fun W hW => by go_simp) S2 ?_
                  skip
                  refine held_take 30 (.slice a3 rp.endless.length c3) rfl (by kernel_rfl) (by kernel_rfl) (by kernel_rfl) (fun c a w h => by cases h.1) (by kernel_rfl) (fun W hW => by obtain ⟨⟨f0, f1, f2⟩, f3, f4⟩ := FW.out W hW; go_simp) S2 ?_
                  skip
                  refine held_take 31 (.slice (some ⟨gw, 0, none⟩) ou2.length wd) rfl (by kernel_rfl) (by kernel_rfl) (by kernel_rfl) (fun c a w h => by cases h.1) (by kernel_rfl) (fun W hW => by go_simp) S2 ?_
                  skip
                  refine held_take 32 (.int .i64 (k : Nat)) rfl (by kernel_rfl) (by kernel_rfl) (by kernel_rfl) (fun c a w h => by cases h.1) (by kernel_rfl) (fun W hW => by go_simp) S2 ?_
                  skip
                  refine held_take 33 (.slice (some ⟨gw, 0, none⟩) k wd) rfl (by kernel_rfl) (by kernel_rfl) (by kernel_rfl) (fun c a w h => by cases h.1) (by kernel_rfl) (fun W hW => by go_simp) S2 ?_
                  skip
                  refine held_call 34 20 #[.slice a3 rp.endless.length c3, .slice (some ⟨gw, 0, none⟩) k wd] rfl (by kernel_rfl) (by kernel_rfl) (by go_simp) (C3 _ S2) ?_
                  rintro e Wc ⟨rfl, S3⟩
                  refine ⟨_, rfl, S3, ?_⟩
                  skip
                  refine held_take 35 (.bool false) rfl (by kernel_rfl) (by kernel_rfl) (by kernel_rfl) (fun c a w h => by cases h.1) (by kernel_rfl) (fun W hW => by go_simp) S3 ?_
                  skip
                  refine held_take 36 (.bool false) rfl (by kernel_rfl) (by kernel_rfl) (by kernel_rfl) (fun c a w h => by cases h.1) (by kernel_rfl) (fun W hW => by go_simp) S3 ?_
                  skip
                  refine held_take 37 (.bool false) rfl (by kernel_rfl) (by kernel_rfl) (by kernel_rfl) (fun c a w h => by cases h.1) (by kernel_rfl) (fun W hW => by go_simp) S3 ?_
                  skip
                  refine held_done_as (b := ({ tmps := #[Value.agg #[Value.int IntKind.u8 ↑M, Value.int IntKind.u8 ↑A, Value.slice ma mn mc], Value.slice la ln lc, Value.int IntKind.u8 ↑fr, Value.pointer (some { block := w.heap.size, off := 0 }), undef, undef, u6, Value.bool true, Value.pointer (some { block := gs, off := 0 }), Value.pointer (some { block := gr, off := 0 }), Value.slice (some { block := lb, off := 0 }) m m, Value.slice (some { block := gv, off := 0 }) out.length wc, Value.int IntKind.i64 ↑n, u13, u14, Value.int IntKind.i64 ↑t', Value.slice (some { block := gw, off := 0 }) ou2.length wd, Value.int IntKind.i64 ↑k, Value.int IntKind.i64 ↑t', Value.bool true, Value.bool true, Value.agg #[Value.int IntKind.u8 ↑M, Value.int IntKind.u8 ↑A, Value.slice ma mn mc], Value.agg #[Value.int IntKind.i64 ↑m, Value.int IntKind.u8 ↑acc, Value.slice va rs.length vc], Value.agg #[Value.int IntKind.i64 ↑m, Value.int IntKind.u8 ↑acc, Value.slice va rs.length vc], Value.agg #[Value.slice a1 rp.dead.length c1, Value.slice a2 rp.stuck.length c2, Value.slice a3 rp.endless.length c3], Value.agg #[Value.int IntKind.i64 ↑m, Value.int IntKind.u8 ↑acc, Value.slice va rs.length vc], Value.slice (some { block := lb, off := 0 }) m m, Value.agg #[Value.int IntKind.i64 ↑m, Value.int IntKind.u8 ↑acc, Value.slice va rs.length vc], Value.slice la ln lc, Value.slice (some { block := gv, off := 0 }) out.length wc, Value.int IntKind.i64 ↑n, Value.slice (some { block := gv, off := 0 }) out.length wc, Value.int IntKind.i64 ↑out.length, Value.bool false, Value.bool false, undef, undef, undef, Value.bool false, u39, u40, u41, u42, u43, u44, u45, u46, u47, u48, u49, u50, u51, u52, u53, u54, u55, u56, u57, u58, u59, u60, u61, u62, u63, u64, u65, u66, u67, u68, Value.int IntKind.u8 ↑fr, Value.int IntKind.i64 ↑fr, Value.pointer (some { block := gs, off := 0 }), Value.int IntKind.i64 ↑m, Value.int IntKind.i64 ↑t', Value.agg #[Value.int IntKind.i64 ↑m, Value.int IntKind.u8 ↑acc, Value.slice va rs.length vc], Value.int IntKind.i64 ↑t', Value.slice la ln lc, Value.slice (some { block := gw, off := 0 }) ou2.length wd, Value.int IntKind.i64 ↑k, Value.slice (some { block := gw, off := 0 }) ou2.length wd, Value.int IntKind.i64 ↑ou2.length, Value.bool true, u82, u83, Value.tuple #[Value.int IntKind.i64 ↑t', Value.bool true], Value.agg #[Value.int IntKind.i64 ↑m, Value.int IntKind.u8 ↑acc, Value.slice va rs.length vc], Value.int IntKind.i64 ↑t', Value.slice (some { block := gw, off := 0 }) ou2.length wd, Value.int IntKind.i64 ↑k, Value.slice (some { block := gw, off := 0 }) k wd, Value.tuple #[Value.int IntKind.i64 ↑t', Value.bool true], Value.int IntKind.i64 ↑t', Value.bool true, (.int .i64 (t' : Nat)), (.int .i64 (t' : Nat)), (.bool true), (.bool true), (.agg #[.int .i64 (m : Nat), .int .u8 (acc : Nat), .slice va rs.length vc]), (.slice (some ⟨gw, 0, none⟩) ou2.length wd), (.int .i64 (k : Nat)), (.slice (some ⟨gw, 0, none⟩) k wd), (.bool true), (.bool true), (.bool true), (.slice (some ⟨lb, 0, none⟩) m m), (.int .i64 (t' : Nat)), (.pointer (some ⟨lb, t', none⟩)), (.bool true), (.bool true), (.bool true), (.agg #[.int .i64 (m : Nat), .int .u8 (acc : Nat), .slice va rs.length vc]), (.slice (some ⟨rb, 0, none⟩) m m), (.int .i64 (t' : Nat)), (.pointer (some ⟨rb, t', none⟩)), (.bool true), (.bool true), (.bool true), (.pointer (some ⟨gr, 2, none⟩)), (.slice a3 rp.endless.length c3), (.int .i64 (rp.endless.length : Nat)), (.bool false), (.bool false), (.pointer (some ⟨gr, 2, none⟩)), (.slice a3 rp.endless.length c3), (.slice (some ⟨gw, 0, none⟩) ou2.length wd), (.int .i64 (k : Nat)), (.slice (some ⟨gw, 0, none⟩) k wd), (.bool true), (.bool false), (.bool false), (.bool false), undef], defers := [] } : Act)) (by kernel_rfl) (by kernel_rfl) ⟨rfl, ?_⟩
                  have HB6 := Lib.hid (HB5.out.trans (S3.mono HB5.out.size))
                  clear CR FW HB5 C1 S1 S2 S3 C3
                  go_wp2_with fail
                  go_roundw
                  case rel => exact ⟨k + 1, by go_num, by omega, by omega, HB6.out⟩
                  case measure => simp [intOf]; omega
          · have eqt : ((t' : Int) == (mm : Int)) = false := by simp; omega
            go_upto_region 18 with fail
            refine wp_normal ?_
            refine wp_region_class (C := fun W => Below W5.heap.size W5 W) (by kernel_rfl) (by kernel_rfl) (Below.refl _ _).drew ?_
            repeat (first | go_big_quiet_skip | (go_big_quiet_want; first | (go_big_quiet_op; go_big_quiet_on) | (refine quiet_value ?_ (fun W h => ?_) ?_; rotate_left; (· have f0 := eqt; go_simp; rfl); go_simp; go_big_quiet_on)))
            refine wpQuiet_nil ?_
            intro W6 hcj
            refine ⟨rfl, ?_⟩
            have HB6 := Lib.hid (HB5.out.trans (hcj.mono HB5.out.size))
            clear hcj HB5
            go_wp2_with fail
            go_roundw
            case rel => exact ⟨k + 1, by go_num, by omega, by omega, HB6.out⟩
            case measure => simp [intOf]; omega
        · have BF := Lib.hid (BW8.out.trans (HX8.out.mono BW8.out.size))
          go_wp2_with fail
          go_ret
          exact ⟨rfl, BF.out⟩
end Go.Proofs.YtendieoandclkaaDoor
