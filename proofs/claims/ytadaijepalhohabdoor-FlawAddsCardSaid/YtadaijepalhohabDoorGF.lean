/-
  flaw.stuck, flaw.endless.
-/
import Derived.Test.YtadaijepalhohabDoorGE
import Derived.Test.YtadaijepalhohabDoorGH
import Derived.Test.YtadaijepalhohabDoorFU
namespace Go.Proofs.YtadaijepalhohabDoor
open Go.RowKit
open Pl

theorem compl_all : (List.range 256).all (fun m => (List.range 8).all fun i => (255 - m).testBit i == !m.testBit i) = true := by decide +kernel
theorem compl_bit (m i : Nat) (hm : m < 256) (hi : i < 8) : (255 - m).testBit i = !m.testBit i := by
  have h := List.all_eq_true.1 (List.all_eq_true.1 compl_all m (List.mem_range.2 hm)) i (List.mem_range.2 hi)
  simpa using h
theorem xor_all : (List.range 256).all (fun m => bits BinOp.xor IntKind.u8 IntKind.u8.max (m : Int) == ((255 - m : Nat) : Int)) = true := by decide +kernel
theorem xor_nat (m : Nat) (hm : m < 256) : bits BinOp.xor IntKind.u8 IntKind.u8.max (m : Int) = ((255 - m : Nat) : Int) := by
  have h := List.all_eq_true.1 xor_all m (List.mem_range.2 hm)
  simpa using h
/-- What stuck answers, by the set of live modes. -/
noncomputable def stuckL (l : Nat) (rs : List Rl) : List Nat := if l.testBit 0 = true then fC anyR rs 0 (fun t => (255 - l).testBit t = true) else []
/-- What a function that finds a chain hands back. -/
def ChPost (xs : List Nat) (w : World) (e : Ending) (w' : World) : Prop := ∃ v, e = .returned v ∧ NumsOwn w' w.heap.size v (ints xs) ∧ (xs = [] → v = .slice none 0 0) ∧ Below w.heap.size w w'
set_option maxHeartbeats 1000000 in
set_option maxRecDepth 100000 in
theorem Stuck_any (m acc r l : Nat) (a : Option Addr) (c : Nat) (rs : List Rl) (w : World) (hm1 : 1 ≤ m) (hm8 : m ≤ 8) (hlv : l < 256) (hx : RlsAt w w.heap.size (.slice a rs.length c) rs) (hl : rs.length ≤ 100000) (hr : ∀ x ∈ rs, InM m x) :
    Calls Tryd.prog 21 #[.agg #[.int .i64 (m : Nat), .int .u8 (acc : Nat), .slice a rs.length c], .agg #[.int .u8 (r : Nat), .int .u8 (l : Nat)]] w (ChPost (stuckL l rs) w) := by
  have b1 := (Below.refl w.heap.size w).alloc (Nat.le_refl _) (.cells #[.int .i64 (m : Nat), .int .u8 (acc : Nat), .slice a rs.length c] 28)
  have b2 := b1.alloc b1.size (.cells #[.int .u8 (r : Nat), .int .u8 (l : Nat)] 51)
  have s1 := (SchBlock.new w (.int .i64 (m : Nat)) (.int .u8 (acc : Nat)) (.slice a rs.length c)).below ((Below.refl _ _).alloc (Nat.le_refl _) (.cells #[.int .u8 (r : Nat), .int .u8 (l : Nat)] 51))
  have k1 := KBlock.new (w.alloc (.cells #[.int .i64 (m : Nat), .int .u8 (acc : Nat), .slice a rs.length c] 28)) r l
  rw [World.size_alloc] at k1
  have CF := fun W (h : Below w.heap.size w W) => Lib.hid (FirstChain_any 37 anyR enterAny (fun x W => takesAny_any x W) m acc 0 (255 - l) a c rs W hm1 hm8 (by omega) (by omega) (hx.on h) hl hr)
  have CA := fun W => Lib.hid (hasM_any l 0 hlv (by decide) W)
  obtain ⟨s0, sa, s2⟩ := s1.cells
  have K1 := Lib.hid k1
  have S1 := Lib.hid s1
  have B2 := Lib.hid b2
  have XN := Lib.hid (xor_nat l hlv)
  have HP := Lib.hid (show stuckL l rs = if l.testBit 0 = true then fC anyR rs 0 (fun t => (255 - l).testBit t = true) else [] from rfl)
  clear hx s1 k1 b1 b2
  go_enter Tryd.func21, Tryd.ntmps21
  go_upto_region 1 with fail
  generalize (w.alloc _).alloc _ = x1 at *
  obtain ⟨k0, k1⟩ := K1.out.cells
  go_wp2_with fail
  refine ((CA _).out).mono ?_
  rintro e x2 ⟨rfl, rfl⟩
  cases h0 : l.testBit 0 with
  | false =>
    have HN := Lib.hid (show stuckL l rs = [] by rw [HP.out, h0]; rfl)
    clear h0
    go_wp2_with fail
    go_ret
    exact ⟨_, rfl, by rw [HN.out]; exact NumsOwn.nil _ _, fun _ => rfl, B2.out⟩
  | true =>
    have HN := Lib.hid (show stuckL l rs = fC anyR rs 0 (fun t => (255 - l).testBit t = true) by rw [HP.out, if_pos h0])
    clear h0
    go_wp2_with fail
    rw [XN.out]
    refine ((CF _ B2.out).out).mono ?_
    rintro e x3 ⟨v, rfl, ho, hn, hb⟩
    have HV := Lib.hid ho
    have HNI := Lib.hid hn
    have HB := Lib.hid (B2.out.trans (hb.mono B2.out.size))
    have HZ := Lib.hid B2.out.size
    clear ho hn hb CF
    go_wp2_with fail
    go_ret
    exact ⟨v, rfl, by rw [HN.out]; exact HV.out.base HZ.out, by rw [HN.out]; exact HNI.out, HB.out⟩
theorem NumsOwn.some {W : World} {b : Nat} {v : Value} {xs : List Int} (h : NumsOwn W b v xs) (hne : xs ≠ []) : ∃ p c, v = .slice (some p) xs.length c := by
  rcases h.2 with ⟨rfl, h0⟩ | ⟨g, cap, cur, rfl, _⟩
  · exact absurd (List.eq_nil_of_length_eq_zero h0) hne
  · exact ⟨_, _, rfl⟩
theorem nonil_yes (W : World) : (binOp .neq 35 (.slice none 0 0) (.slice none 0 0)).run Tryd.prog W = .ok (.bool false) W := by kernel_rfl
theorem nonil_no (p : Addr) (n c : Nat) (W : World) : (binOp .neq 35 (.slice (some p) n c) (.slice none 0 0)).run Tryd.prog W = .ok (.bool true) W := by kernel_rfl
set_option maxHeartbeats 2000000 in
set_option maxRecDepth 100000 in
theorem Endless_any (m acc r l : Nat) (a : Option Addr) (c : Nat) (rs : List Rl) (w : World) (hm1 : 1 ≤ m) (hm8 : m ≤ 8) (hrv : r < 256) (hlv : l < 256) (hx : RlsAt w w.heap.size (.slice a rs.length c) rs) (hl : rs.length ≤ 100000) (hr : ∀ x ∈ rs, InM m x) :
    Calls Tryd.prog 22 #[.agg #[.int .i64 (m : Nat), .int .u8 (acc : Nat), .slice a rs.length c], .agg #[.int .u8 (r : Nat), .int .u8 (l : Nat)]] w (ChPost (endC (r &&& l) rs m) w) := by
  have b1 := (Below.refl w.heap.size w).alloc (Nat.le_refl _) (.cells #[.int .i64 (m : Nat), .int .u8 (acc : Nat), .slice a rs.length c] 28)
  have b2 := b1.alloc b1.size (.cells #[.int .u8 (r : Nat), .int .u8 (l : Nat)] 51)
  have s1 := (SchBlock.new w (.int .i64 (m : Nat)) (.int .u8 (acc : Nat)) (.slice a rs.length c)).below ((Below.refl _ _).alloc (Nat.le_refl _) (.cells #[.int .u8 (r : Nat), .int .u8 (l : Nat)] 51))
  have k1 := KBlock.new (w.alloc (.cells #[.int .i64 (m : Nat), .int .u8 (acc : Nat), .slice a rs.length c] 28)) r l
  rw [World.size_alloc] at k1
  have HX := Lib.hid hx
  have HR := Lib.hid hr
  have HL := Lib.hid hl
  have K1 := Lib.hid k1
  have S1 := Lib.hid s1
  have B2 := Lib.hid b2
  obtain ⟨s0, sa, s2⟩ := s1.cells
  obtain ⟨u, hu⟩ : ∃ u, u = r &&& l := ⟨_, rfl⟩
  rw [← hu]
  have hu8 : u < 256 := by rw [hu]; exact Nat.lt_of_le_of_lt Nat.and_le_left hrv
  have CU := fun W => Lib.hid (useful_any r l W)
  rw [and_nat r l hrv hlv, ← hu] at CU
  have HNY := nil_yes
  have HNN := nil_no
  have HOY := nonil_yes
  have HON := nonil_no
  clear hx hr hl s1 k1 b1 b2 hu
  go_enter Tryd.func22, Tryd.ntmps22
  go_upto_region 1 with fail
  generalize (w.alloc _).alloc _ = x1 at *
  go_wp2_with fail
  clear s0 sa s2
  go_loopw [5, 10] (fun cv iv wr => ∃ k : Nat, iv = .int .i64 (k : Nat) ∧ k ≤ m ∧ NumsOwn wr w.heap.size cv (ints (endC u rs k)) ∧ (endC u rs k = [] → cv = .slice none 0 0) ∧ SchBlock wr w.heap.size (.int .i64 (m : Nat)) (.int .u8 (acc : Nat)) (.slice a rs.length c) ∧ KBlock wr (w.heap.size + 1) r l ∧ Below w.heap.size w wr) (fun _ iv _ => m - (intOf iv).toNat)
  case atStart => exact ⟨0, rfl, Nat.zero_le _, NumsOwn.nil _ _, fun _ => rfl, S1.out, K1.out, B2.out⟩
  case round =>
    obtain ⟨k, rfl, hk, hown, hnil, hsb, hkb, hb⟩ := hrel
    obtain ⟨va, vc, rfl⟩ := hown.shape
    have HO := Lib.hid hown
    have HNL := Lib.hid hnil
    have SB := Lib.hid hsb
    have KB := Lib.hid hkb
    have HB := Lib.hid hb
    obtain ⟨s0, sa, s2⟩ := hsb.cells
    obtain ⟨k0, k1⟩ := hkb.cells
    clear hown hnil hsb hkb hb S1 K1 B2
    have kk0 : (0 : Int) ≤ (k : Int) := by omega
    by_cases h1 : (k : Int) < (m : Int)
    · have hkm : k < m := by omega
      have CH := fun W => Lib.hid (hasM_any u k hu8 (by omega) W)
      have HES := Lib.hid (show endC u rs (k + 1) = endStep u rs (endC u rs k) k from endC_succ u rs k)
      go_wp2_with fail
      refine ((CU wr).out).mono ?_
      rintro e W2 ⟨rfl, hb⟩
      have HO2 := Lib.hid (HO.out.below hb)
      have SB2 := Lib.hid (SB.out.below hb)
      have KB2 := Lib.hid (KB.out.below hb)
      have HB2 := Lib.hid (HB.out.trans (hb.mono HB.out.size))
      clear hb HO SB KB HB s0 sa s2 k0 k1
      go_wp2_with fail
      refine ((CH _).out).mono ?_
      rintro e W3 ⟨rfl, rfl⟩
      cases hb3 : u.testBit k with
      | false =>
        have HE := Lib.hid (show endC u rs (k + 1) = endC u rs k by rw [HES.out, endStep, if_neg (by rw [hb3]; simp)])
        clear hb3
        go_wp2_with fail
        go_roundw
        case rel => exact ⟨k + 1, by go_num, by omega, by rw [HE.out]; exact HO2.out, by rw [HE.out]; exact HNL.out, SB2.out, KB2.out, HB2.out⟩
        case measure => simp [intOf]; omega
      | true =>
        have HE := Lib.hid (show endC u rs (k + 1) = if rndC rs k ≠ [] ∧ (endC u rs k = [] ∨ befB (ints (rndC rs k)) (ints (endC u rs k)) = true) then rndC rs k else endC u rs k by rw [HES.out, endStep, if_pos hb3])
        clear hb3 HES CH
        obtain ⟨s0, sa, s2⟩ := SB2.out.cells
        go_upto_region 6 with fail
        have CO := fun W => Lib.hid (onlyM_any k (by omega) W)
        have hp2 : ((2 : Int) ^ k) = ((2 ^ k : Nat) : Int) := by push_cast; rfl
        have hlt2 : 2 ^ k < 256 := by have := Nat.pow_lt_pow_right (a := 2) (by decide) (show k < 8 by omega); omega
        have CF := fun W (h : Below w.heap.size w W) => Lib.hid (FirstChain_any 39 noIn enterNothing takesNothing_any m acc k (2 ^ k) a c rs W hm1 hm8 hkm hlt2 (HX.out.on h) HL.out HR.out)
        have HB3 := Lib.hid HB2.out.drew
        rw [hp2] at CO
        clear hp2 hlt2
        refine wp_normal ?_
        refine wp_region_pick (C := fun W => W = W3.drew) [0, 1, 2] [3, 4, 5] (fun j => decide (4 ≤ j)) (by kernel_rfl) (by kernel_rfl) (by kernel_rfl) rfl (by kernel_rfl) rfl (fun c d v a w h => by cases h.1) ?_
        refine hoistI_step (.agg #[.int .i64 (m : Nat), .int .u8 (acc : Nat), .slice a rs.length c]) rfl (fun W hW => by rw [hW]; go_simp) ?_
        refine hoistI_step (.int .i64 (k : Nat)) rfl (fun W hW => by go_simp) ?_
        refine hoistI_step (.int .i64 (k : Nat)) rfl (fun W hW => by go_simp) ?_
        refine hoistI_done (seqI_step ?_)
        refine wpOp_call 34 #[.int .i64 (k : Nat)] rfl rfl (by go_simp) ((CO _).out) ?_
        rintro e W4 ⟨rfl, rfl⟩
        refine ⟨_, rfl, fun _ => rfl, seqI_step ?_⟩
        refine wpOp_call 36 #[.agg #[.int .i64 (m : Nat), .int .u8 (acc : Nat), .slice a rs.length c], .func (.func 39) #[] #[], .int .i64 (k : Nat), .int .u8 ((2 ^ k : Nat) : Int)] rfl rfl (by go_simp) ((CF _ HB3.out).out) ?_
        rintro e W5 ⟨v, rfl, ho5, hn5, hb5⟩
        refine ⟨v, rfl, fun hh => absurd hh (by decide), seqI_step ?_⟩
        change NumsOwn _ _ _ (ints (rndC rs k)) at ho5
        change rndC rs k = [] → _ at hn5
        have HLS := rndC_short HR.out hkm
        have HLE := endC_short (u := u) HR.out k (by omega)
        obtain ⟨xr, hxr⟩ : ∃ xr, xr = rndC rs k := ⟨_, rfl⟩
        rw [← hxr] at ho5 hn5 HE HLS
        have HO5 := Lib.hid (HO2.out.below ((Below.refl W3.heap.size W3).drew.trans (hb5.mono (Below.refl W3.heap.size W3).drew.size)))
        have hz5 : w.heap.size ≤ W3.drew.heap.size := HB3.out.size
        have HR5 := Lib.hid (ho5.base hz5)
        have SB5 := Lib.hid (SB2.out.below ((Below.refl W3.heap.size W3).drew.trans (hb5.mono (Below.refl W3.heap.size W3).drew.size)))
        have KB5 := Lib.hid (KB2.out.below ((Below.refl W3.heap.size W3).drew.trans (hb5.mono (Below.refl W3.heap.size W3).drew.size)))
        have HB5 := Lib.hid (HB3.out.trans (hb5.mono hz5))
        have HN5 := Lib.hid hn5
        obtain ⟨xe, hxe⟩ : ∃ xe, xe = endC u rs k := ⟨_, rfl⟩
        rw [← hxe] at HO5 HNL HE HLE HO2 ⊢
        clear hxr hxe ho5 hn5 hb5 hz5 s0 sa s2 CF CO HB3 SB2 KB2 HB2 HO2
        refine wpOp_value (w' := W5) v rfl rfl (by go_simp) ⟨fun hh => absurd hh (by decide), seqI_done ⟨rfl, ?_⟩⟩
        by_cases hr0 : xr = []
        · obtain rfl := HN5.out hr0
          have HEN := Lib.hid (show endC u rs (k + 1) = xe by rw [HE.out, if_neg (fun h => h.1 hr0)])
          clear hr0
          go_wp2_with fail
          go_roundw
          case rel => exact ⟨k + 1, by go_num, by omega, by rw [HEN.out]; exact HO5.out, by rw [HEN.out]; exact HNL.out, SB5.out, KB5.out, HB5.out⟩
          case measure => simp [intOf]; omega
        · obtain ⟨pr, cr, rfl⟩ := HR5.out.some (fun e => hr0 (ints_ne.1 e))
          by_cases he0 : xe = []
          · have hv0 := HNL.out he0
            obtain ⟨rfl, hv1, rfl⟩ : va = none ∧ (ints xe).length = 0 ∧ vc = 0 := by simpa using hv0
            have HEN := Lib.hid (show endC u rs (k + 1) = xr by rw [HE.out, if_pos ⟨hr0, Or.inl he0⟩])
            rw [hv1]
            clear hv0 hv1 hr0 he0
            go_wp2_with fail
            go_roundw
            case rel => exact ⟨k + 1, by go_num, by omega, by rw [HEN.out]; exact HR5.out, by rw [HEN.out]; exact HN5.out, SB5.out, KB5.out, HB5.out⟩
            case measure => simp [intOf]; omega
          · obtain ⟨pe, ce, hve⟩ := HO5.out.some (fun e => he0 (ints_ne.1 e))
            obtain ⟨rfl, rfl⟩ : va = some pe ∧ vc = ce := by simpa using hve
            have CB := Lib.hid (Before_any (ints xr) (ints xe) (some pr) (some pe) cr vc W5 HR5.out.at HO5.out.at (by rw [ints_len]; unfold maxLen; omega))
            obtain ⟨bb, hbb⟩ : ∃ bb, bb = befB (ints xr) (ints xe) := ⟨_, rfl⟩
            rw [← hbb] at CB
            have HEN := Lib.hid (show endC u rs (k + 1) = if bb = true then xr else xe by
              rw [HE.out, hbb]
              by_cases q : befB (ints xr) (ints xe) = true
              · rw [if_pos ⟨hr0, Or.inr q⟩, if_pos q]
              · rw [if_neg (fun h => h.2.elim he0 q), if_neg q])
            clear hve hbb hr0 he0
            go_wp2_with fail
            refine (CB.out).mono ?_
            rintro e W6 ⟨rfl, hb6⟩
            have HO6 := Lib.hid (HO5.out.below hb6)
            have HR6 := Lib.hid (HR5.out.below hb6)
            have SB6 := Lib.hid (SB5.out.below hb6)
            have KB6 := Lib.hid (KB5.out.below hb6)
            have HB6 := Lib.hid (HB5.out.trans (hb6.mono HB5.out.size))
            clear hb6 CB HO5 HR5 SB5 KB5 HB5
            cases bb with
            | true =>
              have HEM := Lib.hid (show endC u rs (k + 1) = xr from HEN.out)
              go_wp2_with fail
              go_roundw
              case rel => exact ⟨k + 1, by go_num, by omega, by rw [HEM.out]; exact HR6.out, by rw [HEM.out]; exact HN5.out, SB6.out, KB6.out, HB6.out⟩
              case measure => simp [intOf]; omega
            | false =>
              have HEM := Lib.hid (show endC u rs (k + 1) = xe from HEN.out)
              go_wp2_with fail
              go_roundw
              case rel => exact ⟨k + 1, by go_num, by omega, by rw [HEM.out]; exact HO6.out, by rw [HEM.out]; exact HNL.out, SB6.out, KB6.out, HB6.out⟩
              case measure => simp [intOf]; omega
    · have hke : k = m := by omega
      have HF := Lib.hid (show NumsOwn wr w.heap.size (.slice va (ints (endC u rs k)).length vc) (ints (endC u rs m)) ∧ (endC u rs m = [] → (.slice va (ints (endC u rs k)).length vc : Value) = .slice none 0 0) by rw [← hke]; exact ⟨HO.out, HNL.out⟩)
      clear hke
      go_wp2_with fail
      go_ret
      exact ⟨_, rfl, HF.out.1, HF.out.2, HB.out⟩
end Go.Proofs.YtadaijepalhohabDoor
