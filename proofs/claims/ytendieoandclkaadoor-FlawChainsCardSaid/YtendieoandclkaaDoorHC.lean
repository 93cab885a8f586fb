/-
  The reference's Chain on chains.
-/
import Derived.Test.YtendieoandclkaaDoorHA
namespace Go.Proofs.YtendieoandclkaaDoor
open Go.RowKit
open Pl

theorem chn_prefix {E : Nat → Option (Nat × Nat)} {s t : Nat} {l : List Nat} (c : Chn E s l t) : ∀ i (h : i < l.length), ∃ q g, Chn E s (l.take i) q ∧ E l[i] = some (q, g) ∧ Chn E s (l.take (i + 1)) g := by
  induction c with
  | nil => intro i h; cases h
  | @snoc l a k b c e ih =>
    intro i h
    rw [List.length_append, List.length_singleton] at h
    by_cases h2 : i < l.length
    · obtain ⟨q, g, h3, h4, h5⟩ := ih i h2
      refine ⟨q, g, ?_, ?_, ?_⟩
      · rw [List.take_append_of_le_length (by omega)]; exact h3
      · rw [List.getElem_append_left h2]; exact h4
      · rw [List.take_append_of_le_length (by omega)]; exact h5
    · obtain rfl : i = l.length := by omega
      refine ⟨a, b, ?_, ?_, ?_⟩
      · rw [List.take_append_of_le_length (Nat.le_refl _), List.take_length]; exact c
      · rw [List.getElem_append_right (Nat.le_refl _)]; simpa using e
      · rw [List.take_of_length_le (by simp)]; exact .snoc c e
theorem chn_end {E : Nat → Option (Nat × Nat)} {s : Nat} {l : List Nat} : ∀ {t u : Nat}, Chn E s l t → Chn E s l u → t = u := by
  intro t u c d
  rcases c.inv with ⟨h1, h2⟩ | ⟨r, a, k, h1, h2, e⟩
  · rcases d.inv with ⟨_, h4⟩ | ⟨r', a', k', h3, h4, e'⟩
    · omega
    · rw [h1] at h3; simp at h3
  · rcases d.inv with ⟨h3, _⟩ | ⟨r', a', k', h3, h4, e'⟩
    · rw [h3] at h1; simp at h1
    · rw [h1] at h3
      obtain ⟨-, h5⟩ := List.append_inj' h3 rfl
      obtain rfl : k = k' := by simpa using h5
      rw [e] at e'
      exact (Prod.mk.inj (Option.some.inj e')).2

set_option maxHeartbeats 1000000 in
set_option maxRecDepth 100000 in
theorem Chain_any (m acc : Nat) (a : Option Addr) (c : Nat) (rs : List Rl) (f t : Nat) (l : List Nat) (la : Option Addr) (lc : Nat) (w : World) (hx : RlsAt w w.heap.size (.slice a rs.length c) rs) (hl : rs.length ≤ 12) (hr : ∀ x ∈ rs, InM m x) (hu : NumsAt w w.heap.size (.slice la l.length lc) (ints l)) (hln : l.length ≤ 10) (hch : Chn (edgeOf anyR rs) f l t) :
    Calls Tryd.prog 19 #[.agg #[.int .i64 (m : Nat), .int .u8 (acc : Nat), .slice a rs.length c], .int .i64 (f : Nat), .slice la l.length lc] w fun e w' => e = .returned (.tuple #[.int .i64 (t : Nat), .bool true]) ∧ Below w.heap.size w w' := by
  have b1 := (Below.refl w.heap.size w).alloc (Nat.le_refl _) (.cells #[.int .i64 (m : Nat), .int .u8 (acc : Nat), .slice a rs.length c] 33)
  have k1 := SchBlock.new w (.int .i64 (m : Nat)) (.int .u8 (acc : Nat)) (.slice a rs.length c)
  have HX := Lib.hid hx
  have HR := Lib.hid hr
  have HU := Lib.hid hu
  have HC := Lib.hid hch
  have B1 := Lib.hid b1
  have K1 := Lib.hid k1
  clear hx hr hu hch b1 k1
  go_enter Tryd.func19, Tryd.ntmps19
  go_upto_region 1 with fail
  generalize w.alloc _ = x1 at *
  go_wp2_with fail
  go_loopw [1, 8] (fun fv iv wr => ∃ i f' : Nat, fv = .int .i64 (f' : Nat) ∧ iv = .int .i64 (i : Nat) ∧ i ≤ l.length ∧ Chn (edgeOf anyR rs) f (l.take i) f' ∧ SchBlock wr w.heap.size (.int .i64 (m : Nat)) (.int .u8 (acc : Nat)) (.slice a rs.length c) ∧ Below w.heap.size w wr) (fun _ iv _ => l.length - (intOf iv).toNat)
  case atStart => exact ⟨0, f, rfl, rfl, Nat.zero_le _, .nil, K1.out, B1.out⟩
  case round =>
    obtain ⟨i, f', rfl, rfl, hi, hc, hs, hb⟩ := hrel
    have KS := Lib.hid hs
    have HB := Lib.hid hb
    have HCI := Lib.hid hc
    clear hc hs hb K1 B1
    have i0 : (0 : Int) ≤ (i : Int) := by omega
    obtain ⟨s0, s1, s2⟩ := KS.out.cells
    by_cases h1 : (i : Int) < (l.length : Int)
    · have hil : i < l.length := by omega
      obtain ⟨q, g, h2, h3, h4⟩ := chn_prefix HC.out i hil
      obtain rfl : f' = q := chn_end HCI.out h2
      obtain ⟨k, hk⟩ : ∃ k, k = l[i] := ⟨_, rfl⟩
      rw [← hk] at h3
      obtain ⟨hkl, -, hsrc, hdst⟩ := edgeOf_some h3
      obtain ⟨la', lc', hv, hP⟩ := HU.out.on HB.out
      rw [ints_len] at hv
      obtain ⟨rfl, -⟩ : la = la' ∧ lc = lc' := by simpa using hv
      obtain ⟨ub, uo, hua, hult, huc⟩ := hP (by rw [ints_len]; omega)
      subst hua
      have pk := huc i (by rw [ints_len]; exact hil)
      have hik : (ints l)[i]'(by rw [ints_len]; exact hil) = (k : Int) := by simp [ints, hk]
      rw [hik] at pk
      obtain ⟨a', c', hv', hP'⟩ := HX.out.on HB.out
      obtain ⟨rfl, -⟩ : a = a' ∧ c = c' := by simpa using hv'
      obtain ⟨b, off, ha, hlt, hcc⟩ := hP' (by omega)
      subst ha
      obtain ⟨p0, p1, p2, p3, p4⟩ := hcc k hkl
      have hy := HR.out _ (List.getElem_mem hkl)
      have es : rs[k].src = (f' : Int) := by rw [← hsrc]; exact (Int.toNat_of_nonneg hy.1.1).symm
      have ed : rs[k].dst = (g : Int) := by rw [← hdst]; exact (Int.toNat_of_nonneg hy.2.1).symm
      rw [es] at p0
      rw [ed] at p1
      have k0 : (0 : Int) ≤ (k : Int) := by omega
      have kl : (k : Int) < (rs.length : Int) := by omega
      have kn : ¬ (k : Int) < 0 := by omega
      have kn2 : ¬ (rs.length : Int) ≤ (k : Int) := by omega
      have fe : ((f' : Int) != (f' : Int)) = false := by simp
      have HG := Lib.hid h4
      clear h2 h3 h4 hk hsrc hdst hv hP huc hik hv' hP' hcc p2 p3 p4 hy es ed HCI
      have FW := Lib.hid (show ∀ W, Below wr.heap.size wr W → W.cell? ⟨w.heap.size, 2, none⟩ = some (.slice (some ⟨b, off, none⟩) rs.length c) ∧ W.cell? ⟨ub, uo + i, none⟩ = some (.int .i64 (k : Int)) ∧ W.cell? ⟨b, off + k * 5, none⟩ = some (.int .i64 (f' : Int)) ∧ W.cell? ⟨b, off + k * 5 + 1, none⟩ = some (.int .i64 (g : Int)) from fun W h =>
        ⟨(KS.out.below h).cells.2.2, (h.cell (p := ⟨ub, _, none⟩) hult).trans pk, (h.cell (p := ⟨b, _, none⟩) hlt).trans p0, (h.cell (p := ⟨b, _, none⟩) hlt).trans p1⟩)
      clear p0 p1 pk s0 s1
      go_upto_region 4 with fail
      clear s2
      refine wp_normal ?_
      refine wp_region_class (C := fun W => Below wr.heap.size wr W) (by kernel_rfl) (by kernel_rfl) (Below.refl _ _).drew ?_
      repeat (first | go_big_quiet_skip | (go_big_quiet_want; first | (go_big_quiet_op; go_big_quiet_on) | (refine quiet_value ?_ (fun W h => ?_) ?_; rotate_left; (· obtain ⟨f0, f1, f2, f3⟩ := FW.out W h; go_simp; rfl); go_simp; go_big_quiet_on)))
      refine wpQuiet_nil ?_
      intro W5 hcj
      refine ⟨rfl, ?_⟩
      have HJ := Lib.hid hcj
      obtain ⟨f0, f1, f2, f3⟩ := FW.out W5 hcj
      have HB5 := Lib.hid (HB.out.trans (hcj.mono HB.out.size))
      have KS5 := Lib.hid (KS.out.below hcj)
      clear hcj FW
      go_wp2_with fail
      go_region
      go_wp2_with fail
      go_roundw
      case rel => exact ⟨i + 1, g, by first | rfl | simp, by go_num, by omega, HG.out, KS5.out.below (Below.refl _ _).drew, HB5.out.drew⟩
      case measure => simp [intOf]; omega
    · have hfull : l.take i = l := List.take_of_length_le (by omega)
      have hcc := HCI.out
      rw [hfull] at hcc
      obtain rfl : t = f' := chn_end HC.out hcc
      clear hcc hfull
      go_wp2_with fail
      go_ret2
      exact ⟨rfl, HB.out⟩
end Go.Proofs.YtendieoandclkaaDoor
