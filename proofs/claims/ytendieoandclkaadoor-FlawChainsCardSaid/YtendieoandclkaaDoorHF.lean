/-
  The law's first, the reference's Silent.
-/
import Derived.Test.YtendieoandclkaaDoorHC
namespace Go.Proofs.YtendieoandclkaaDoor
open Go.RowKit
open Pl

theorem cmpI_lt {x y : Int} (h : x < y) : Lib.compareInt x y = -1 := by unfold Lib.compareInt; rw [if_pos h]
theorem cmpI_eq (x : Int) : Lib.compareInt x x = 0 := by unfold Lib.compareInt; rw [if_neg (by omega), if_neg (by omega)]
theorem cmpI_gt {x y : Int} (h : y < x) : Lib.compareInt x y = 1 := by unfold Lib.compareInt; rw [if_neg (by omega), if_pos h]
theorem bef_len {xs ys : List Int} (h : xs.length ≠ ys.length) : (!befB ys xs) = decide (xs.length < ys.length) := by
  unfold befB
  rcases Nat.lt_or_gt_of_ne h with q | q
  · rw [cmpI_gt (show (xs.length : Int) < (ys.length : Int) by omega), if_neg (by decide), decide_eq_true q]; rfl
  · rw [cmpI_lt (show (ys.length : Int) < (xs.length : Int) by omega), if_neg (by decide), decide_eq_false (Nat.lt_asymm q)]; rfl
theorem bef_same {xs ys : List Int} (h : xs.length = ys.length) : befB ys xs = decide (cmpL ys xs < 0) := by
  unfold befB
  rw [h, cmpI_eq, if_pos rfl]

set_option maxHeartbeats 1000000 in
set_option maxRecDepth 100000 in
theorem First_any (xs ys : List Int) (a b : Option Addr) (c d : Nat) (w : World) (hx : NumsAt w w.heap.size (.slice a xs.length c) xs) (hy : NumsAt w w.heap.size (.slice b ys.length d) ys) (hl : xs.length ≤ 1000) (hl2 : ys.length ≤ 1000) :
    Calls Tryd.prog 20 #[.slice a xs.length c, .slice b ys.length d] w fun e w' => e = .returned (.bool (!befB ys xs)) ∧ Below w.heap.size w w' := by
  obtain ⟨F, hF⟩ : ∃ F, F = !befB ys xs := ⟨_, rfl⟩
  rw [← hF]
  by_cases hxy : xs.length = ys.length
  · have HX := Lib.hid hx
    have HY := Lib.hid hy
    have HXY := Lib.hid hxy
    rw [bef_same hxy] at hF
    have HF := Lib.hid hF
    have hn : ¬ ((xs.length : Int) ≠ (ys.length : Int)) := by omega
    have hne : ((xs.length : Int) != (ys.length : Int)) = false := by simpa using hn
    clear hx hy hxy hn hF
    go_enter Tryd.func20, Tryd.ntmps20
    go_wp2_with fail
    go_loopw [5] (fun iv wr => ∃ i : Nat, iv = .int .i64 (i : Nat) ∧ i ≤ xs.length ∧ cmpL ys xs = cmpL (ys.drop i) (xs.drop i) ∧ Below w.heap.size w wr) (fun iv _ => xs.length - (intOf iv).toNat)
    case atStart => exact ⟨0, rfl, Nat.zero_le _, rfl, Below.refl _ _⟩
    case round =>
      obtain ⟨i, rfl, hi, ht, hb⟩ := hrel
      have HB := Lib.hid hb
      have HT := Lib.hid ht
      clear hb ht
      have i0 : (0 : Int) ≤ (i : Int) := by omega
      by_cases h1 : (i : Int) < (xs.length : Int)
      · have hix : i < xs.length := by omega
        have hiy : i < ys.length := by have := HXY.out; omega
        have h1y : (i : Int) < (ys.length : Int) := by omega
        obtain ⟨a', c', hv, hP⟩ := HX.out.on HB.out
        obtain ⟨rfl, -⟩ : a = a' ∧ c = c' := by simpa using hv
        obtain ⟨b1, o1, ha, -, hc⟩ := hP (by omega)
        subst ha
        obtain ⟨a'', c'', hv', hP'⟩ := HY.out.on HB.out
        obtain ⟨rfl, -⟩ : b = a'' ∧ d = c'' := by simpa using hv'
        obtain ⟨b2, o2, ha', -, hc'⟩ := hP' (by omega)
        subst ha'
        have p1 := hc i hix
        have p2 := hc' i hiy
        have HD := cmpL_drop ys xs i hiy hix
        obtain ⟨x, hxe⟩ : ∃ x, x = xs[i] := ⟨_, rfl⟩
        obtain ⟨y, hye⟩ : ∃ y, y = ys[i] := ⟨_, rfl⟩
        rw [← hxe] at p1
        rw [← hye] at p2
        rw [← hxe, ← hye] at HD
        by_cases he : x = y
        · have HN := Lib.hid (show cmpL ys xs = cmpL (ys.drop (i + 1)) (xs.drop (i + 1)) by rw [HT.out, HD, he, cmpI_eq, if_pos rfl])
          have hb1 : (x != y) = false := by simpa using he
          clear hc hc' hP hP' hv hv' hxe hye he HD
          go_wp2_with fail
          go_region
          go_wp2_with fail
          go_roundw
          case rel => exact ⟨i + 1, by go_num, by omega, HN.out, HB.out.drew⟩
          case measure => simp [intOf]; omega
        · have HN := Lib.hid (show decide (x < y) = F by
            rw [HF.out, HT.out, HD]
            rcases Int.lt_or_gt_of_ne he with q | q
            · rw [cmpI_gt q, if_neg (by decide), decide_eq_true q]; rfl
            · rw [cmpI_lt q, if_neg (by decide), decide_eq_false (by omega)]; rfl)
          have hb1 : (x != y) = true := by simpa using he
          clear hc hc' hP hP' hv hv' hxe hye he HD
          go_wp2_with fail
          go_region
          go_wp2_with fail
          go_region
          go_wp2_with fail
          go_ret
          exact ⟨by rw [← HN.out]; rfl, HB.out.drew.drew⟩
      · have HN := Lib.hid (show F = true by
          rw [HF.out, HT.out, List.drop_eq_nil_of_le (by have := HXY.out; omega), List.drop_eq_nil_of_le (by omega)]; rfl)
        go_wp2_with fail
        go_ret
        exact ⟨by rw [HN.out]; rfl, HB.out⟩
  · rw [bef_len hxy] at hF
    have HF := Lib.hid hF
    have hne : ((xs.length : Int) != (ys.length : Int)) = true := by simp; omega
    clear hx hy hxy hF
    go_enter Tryd.func20, Tryd.ntmps20
    go_wp2_with fail
    go_ret
    exact ⟨by rw [HF.out]; rfl, Below.refl _ _⟩

set_option maxHeartbeats 1000000 in
set_option maxRecDepth 100000 in
theorem Silent_any (m acc : Nat) (a : Option Addr) (c : Nat) (rs : List Rl) (l : List Nat) (la : Option Addr) (lc : Nat) (D : Bool) (w : World) (hx : RlsAt w w.heap.size (.slice a rs.length c) rs) (hl : rs.length ≤ 12) (hu : NumsAt w w.heap.size (.slice la l.length lc) (ints l)) (hln : l.length ≤ 10) (hk : ∀ k ∈ l, k < rs.length) (hD : D = true ↔ ∀ k (hk : k < rs.length), k ∈ l → noIn rs[k] = true) :
    Calls Tryd.prog 21 #[.agg #[.int .i64 (m : Nat), .int .u8 (acc : Nat), .slice a rs.length c], .slice la l.length lc] w fun e w' => e = .returned (.bool D) ∧ Below w.heap.size w w' := by
  have b1 := (Below.refl w.heap.size w).alloc (Nat.le_refl _) (.cells #[.int .i64 (m : Nat), .int .u8 (acc : Nat), .slice a rs.length c] 33)
  have k1 := SchBlock.new w (.int .i64 (m : Nat)) (.int .u8 (acc : Nat)) (.slice a rs.length c)
  have HX := Lib.hid hx
  have HU := Lib.hid hu
  have HK := Lib.hid hk
  have HD := Lib.hid hD
  have B1 := Lib.hid b1
  have K1 := Lib.hid k1
  clear hx hu hk b1 k1 hD
  go_enter Tryd.func21, Tryd.ntmps21
  go_upto_region 1 with fail
  generalize w.alloc _ = x1 at *
  go_wp2_with fail
  go_loopw [5] (fun iv wr => ∃ i : Nat, iv = .int .i64 (i : Nat) ∧ i ≤ l.length ∧ (∀ k (hk : k < rs.length), k ∈ l.take i → noIn rs[k] = true) ∧ SchBlock wr w.heap.size (.int .i64 (m : Nat)) (.int .u8 (acc : Nat)) (.slice a rs.length c) ∧ Below w.heap.size w wr) (fun iv _ => l.length - (intOf iv).toNat)
  case atStart => exact ⟨0, rfl, Nat.zero_le _, fun k _ h => by simp at h, K1.out, B1.out⟩
  case round =>
    obtain ⟨i, rfl, hi, hc, hs, hb⟩ := hrel
    have KS := Lib.hid hs
    have HB := Lib.hid hb
    have HC := Lib.hid hc
    clear hc hs hb K1 B1
    have i0 : (0 : Int) ≤ (i : Int) := by omega
    by_cases h1 : (i : Int) < (l.length : Int)
    · have hil : i < l.length := by omega
      obtain ⟨k, hke⟩ : ∃ k, k = l[i] := ⟨_, rfl⟩
      have hkm : k ∈ l := by rw [hke]; exact List.getElem_mem hil
      have hkl := HK.out k hkm
      obtain ⟨la', lc', hv, hP⟩ := HU.out.on HB.out
      rw [ints_len] at hv
      obtain ⟨rfl, -⟩ : la = la' ∧ lc = lc' := by simpa using hv
      obtain ⟨ub, uo, hua, hult, huc⟩ := hP (by rw [ints_len]; omega)
      subst hua
      have pk := huc i (by rw [ints_len]; exact hil)
      have hik : (ints l)[i]'(by rw [ints_len]; exact hil) = (k : Int) := by simp [ints, hke]
      rw [hik] at pk
      obtain ⟨a', c', hv', hP'⟩ := HX.out.on HB.out
      obtain ⟨rfl, -⟩ : a = a' ∧ c = c' := by simpa using hv'
      obtain ⟨b, off, ha, hlt, hcc⟩ := hP' (by omega)
      subst ha
      obtain ⟨p0, p1, p2, p3, p4⟩ := hcc k hkl
      obtain ⟨s, hs⟩ : ∃ s, s = rs[k].inp := ⟨_, rfl⟩
      rw [← hs] at p2
      have k0 : (0 : Int) ≤ (k : Int) := by omega
      have kl : (k : Int) < (rs.length : Int) := by omega
      have hno : noIn rs[k] = (B s).toList.isEmpty := by rw [hs]; rfl
      have FW := Lib.hid (show ∀ W, Below wr.heap.size wr W → W.cell? ⟨w.heap.size, 2, none⟩ = some (.slice (some ⟨b, off, none⟩) rs.length c) ∧ W.cell? ⟨ub, uo + i, none⟩ = some (.int .i64 (k : Int)) ∧ W.cell? ⟨b, off + k * 5 + 2, none⟩ = some (.string (B s)) from fun W h =>
        ⟨(KS.out.below h).cells.2.2, (h.cell (p := ⟨ub, _, none⟩) hult).trans pk, (h.cell (p := ⟨b, _, none⟩) hlt).trans p2⟩)
      have HN1 := Lib.hid (show (B s).toList.isEmpty = true → ∀ k (hk : k < rs.length), k ∈ l.take (i + 1) → noIn rs[k] = true from fun h j hj hm => by
        rw [List.take_succ_eq_append_getElem hil, List.mem_append, List.mem_singleton, ← hke] at hm
        rcases hm with hm | rfl
        · exact HC.out j hj hm
        · rw [hno]; exact h)
      have HN0 := Lib.hid (show (B s).toList.isEmpty = false → D = false from fun h => by
        cases hd : D with
        | false => rfl
        | true =>
          have := HD.out.1 hd k hkl hkm
          rw [hno, h] at this; cases this)
      clear hke hkm hv hP huc hik hv' hP' hcc p0 p1 p2 p3 p4 hs hno pk HC
      have sz := KS.out.cells.2.2
      cases hemp : (B s).toList.isEmpty with
      | true =>
        have HN := Lib.hid (HN1.out hemp)
        have HE := Lib.hid hemp
        clear HN1 HN0 hemp
        go_upto_region 4 with fail
        clear sz
        refine wp_normal ?_
        refine wp_region_class (C := fun W => Below wr.heap.size wr W) (by kernel_rfl) (by kernel_rfl) (Below.refl _ _).drew ?_
        repeat (first | go_big_quiet_skip | (go_big_quiet_want; first | (go_big_quiet_op; go_big_quiet_on) | (refine quiet_value ?_ (fun W h => ?_) ?_; rotate_left; (· obtain ⟨f0, f1, f2⟩ := FW.out W h; go_simp; rfl); go_simp; go_big_quiet_on)))
        refine wpQuiet_nil ?_
        intro W5 hcj
        refine ⟨rfl, ?_⟩
        have HB5 := Lib.hid (HB.out.trans (hcj.mono HB.out.size))
        have KS5 := Lib.hid (KS.out.below hcj)
        clear hcj FW
        try rw [HE.out]
        go_wp2_with fail
        go_roundw
        case rel => exact ⟨i + 1, by go_num, by omega, HN.out, KS5.out, HB5.out⟩
        case measure => simp [intOf]; omega
      | false =>
        have HN := Lib.hid (HN0.out hemp)
        have HE := Lib.hid hemp
        clear HN1 HN0 hemp
        go_upto_region 4 with fail
        clear sz
        refine wp_normal ?_
        refine wp_region_class (C := fun W => Below wr.heap.size wr W) (by kernel_rfl) (by kernel_rfl) (Below.refl _ _).drew ?_
        repeat (first | go_big_quiet_skip | (go_big_quiet_want; first | (go_big_quiet_op; go_big_quiet_on) | (refine quiet_value ?_ (fun W h => ?_) ?_; rotate_left; (· obtain ⟨f0, f1, f2⟩ := FW.out W h; go_simp; rfl); go_simp; go_big_quiet_on)))
        refine wpQuiet_nil ?_
        intro W5 hcj
        refine ⟨rfl, ?_⟩
        have HB5 := Lib.hid (HB.out.trans (hcj.mono HB.out.size))
        clear hcj FW
        try rw [HE.out]
        go_wp2_with fail
        go_ret
        exact ⟨by rw [HN.out]; rfl, HB5.out⟩
    · have HN := Lib.hid (show D = true from HD.out.2 (by
        have h := HC.out
        rwa [List.take_of_length_le (by omega)] at h))
      have sz := KS.out.cells.2.2
      go_wp2_with fail
      go_ret
      exact ⟨by rw [HN.out]; rfl, HB.out⟩
end Go.Proofs.YtendieoandclkaaDoor
