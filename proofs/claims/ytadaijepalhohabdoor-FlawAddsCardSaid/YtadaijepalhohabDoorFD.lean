/-
  The reference's Live: from which modes chains lead to accepting ones.
-/
import Derived.Test.YtadaijepalhohabDoorFC
namespace Go.Proofs.YtadaijepalhohabDoor
open Go.RowKit
open Pl

/-- Whether a chain leads from the mode i to an accepting one. -/
def liveB (m acc : Nat) (rs : List Rl) (i : Nat) : Bool := (List.range m).any fun k => (rnds rStep rs m (2 ^ i)).testBit k && acc.testBit k
/-- The first n of f, then b, then nothing. -/
def outL (m n : Nat) (f : Nat → Bool) (b : Bool) : List Bool := (List.range m).map fun i => if i < n then f i else if i = n then b else false
theorem outL_len (m n : Nat) (f : Nat → Bool) (b : Bool) : (outL m n f b).length = m := by simp [outL]
theorem outL_get (m n : Nat) (f : Nat → Bool) (b : Bool) (h : n < m) : (outL m n f b)[n]'(by rw [outL_len]; exact h) = b := by simp [outL]
theorem outL_set (m n : Nat) (f : Nat → Bool) (b v : Bool) : (outL m n f b).set n v = outL m n f v := by
  apply List.ext_getElem
  · simp [outL]
  · intro k h1 h2
    rw [List.getElem_set]
    simp only [outL, List.getElem_map, List.getElem_range]
    by_cases hk : n = k
    · subst hk; simp
    · simp only [if_neg hk]
      by_cases h3 : k < n
      · simp [h3]
      · simp [h3, show ¬ k = n from fun e => hk e.symm]
theorem outL_next (m n : Nat) (f : Nat → Bool) : outL m n f (f n) = outL m (n + 1) f false := by
  unfold outL
  refine List.map_congr_left fun i _ => ?_
  by_cases h : i < n
  · simp [h, show i < n + 1 by omega]
  · by_cases h2 : i = n
    · subst h2; simp
    · simp [h, h2, show ¬ i < n + 1 by omega]
theorem outL_zero (m : Nat) (f : Nat → Bool) : outL m 0 f false = setL m 0 := by
  unfold outL setL
  refine List.map_congr_left fun i _ => ?_
  simp
theorem outL_all (m : Nat) (f : Nat → Bool) : outL m m f false = (List.range m).map f := by
  unfold outL
  refine List.map_congr_left fun i hi => ?_
  simp [List.mem_range.1 hi]
theorem any_succ (p : Nat → Bool) (k : Nat) : (List.range (k + 1)).any p = ((List.range k).any p || p k) := by
  rw [List.range_succ, List.any_append]; simp
/-- What the loops of Live keep. -/
def LvRel (w : World) (sv av : Value) (gb m : Nat) (xs : List Bool) (W : World) : Prop :=
  SchBlock W w.heap.size (.int .i64 (m : Nat)) av sv ∧ BsBlock W gb xs ∧ Below w.heap.size w W
theorem LvRel.into {w W W' : World} {sv av : Value} {gb m : Nat} {xs : List Bool} (h : LvRel w sv av gb m xs W) (hb : Below W.heap.size W W') : LvRel w sv av gb m xs W' :=
  ⟨h.1.below hb, h.2.1.below hb, h.2.2.trans (hb.mono h.2.2.size)⟩

set_option maxHeartbeats 1000000 in
set_option maxRecDepth 100000 in
theorem RLive_any (m acc : Nat) (a : Option Addr) (c : Nat) (rs : List Rl) (w : World) (hm1 : 1 ≤ m) (hm8 : m ≤ 8) (hacc : acc < 256) (hx : RlsAt w w.heap.size (.slice a rs.length c) rs) (hl : rs.length ≤ maxLen) (hr : ∀ x ∈ rs, InM m x) :
    Calls Tryd.prog 6 #[.agg #[.int .i64 (m : Nat), .int .u8 (acc : Nat), .slice a rs.length c]] w fun e w' => ∃ b, e = .returned (.slice (some ⟨b, 0, none⟩) m m) ∧ BsBlock w' b ((List.range m).map (liveB m acc rs)) ∧ w.heap.size ≤ b ∧ Below w.heap.size w w' := by
  have b1 := (Below.refl w.heap.size w).alloc (Nat.le_refl _) (.cells #[.int .i64 (m : Nat), .int .u8 (acc : Nat), .slice a rs.length c] 28)
  have k1 := SchBlock.new w (.int .i64 (m : Nat)) (.int .u8 (acc : Nat)) (.slice a rs.length c)
  have hgt : w.heap.size < (w.alloc (.cells #[.int .i64 (m : Nat), .int .u8 (acc : Nat), .slice a rs.length c] 28)).heap.size := by rw [World.size_alloc]; omega
  have HX := Lib.hid hx
  have HR := Lib.hid hr
  have HL := Lib.hid hl
  have HMK := fun W => make_bools m hm1 hm8 W
  obtain ⟨s0, s1, s2⟩ := k1.cells
  have HB := Lib.hid b1
  have HK := Lib.hid k1
  clear hx hr hl b1 k1
  go_enter Tryd.func6, Tryd.ntmps6
  go_upto_region 1 with fail
  generalize w.alloc _ = x1 at *
  go_upto_region 2 with fail
  have SB := HK.out.below ((Below.refl x1.heap.size x1).alloc (Nat.le_refl _) (.cells ((setL m 0).map Value.bool).toArray 4))
  have HB2 := HB.out.alloc HB.out.size (.cells ((setL m 0).map Value.bool).toArray 4)
  have RR := Lib.hid (show LvRel w (.slice a rs.length c) (.int .u8 (acc : Nat)) x1.heap.size m (setL m 0) (x1.alloc (.cells ((setL m 0).map Value.bool).toArray 4)) from
    ⟨SB, BsBlock.new x1 _, HB2⟩)
  clear SB HB2 HMK s0 s1 s2 HB HK
  generalize x1.alloc _ = x2 at *
  generalize x1.heap.size = gb at *
  go_wp2_with fail
  have HGB : w.heap.size < gb := hgt
  go_loopw [4] (fun nv wr => ∃ n : Nat, nv = .int .i64 (n : Nat) ∧ n ≤ m ∧ LvRel w (.slice a rs.length c) (.int .u8 (acc : Nat)) gb m (outL m n (liveB m acc rs) false) wr) (fun nv _ => m - (intOf nv).toNat)
  case atStart => exact ⟨0, rfl, Nat.zero_le _, by rw [outL_zero]; exact RR.out⟩
  case round =>
    obtain ⟨n, rfl, hn, hrl⟩ := hrel
    obtain ⟨s0, s1, s2⟩ := hrl.1.cells
    have KR := Lib.hid hrl
    clear hrl RR
    have n0 : (0 : Int) ≤ (n : Int) := by omega
    by_cases h1 : (n : Int) < (m : Int)
    · have hnm : n < m := by omega
      go_wp2_with fail
      refine (Reached_any m acc n a c rs wr hm1 hm8 hnm (HX.out.on KR.out.2.2) HL.out HR.out).mono ?_
      rintro e W5 ⟨lb, rfl, hlb, hlw, hb5⟩
      have K5 := Lib.hid (KR.out.into hb5)
      have hgl : gb < lb := Nat.lt_of_lt_of_le (lt_of_heap KR.out.2.1) hlw
      obtain ⟨S, hS⟩ : ∃ S, S = rnds rStep rs m (2 ^ n) := ⟨_, rfl⟩
      rw [← hS] at hlb
      have HSE := Lib.hid hS
      have LB := Lib.hid hlb
      clear hlb hb5 hS KR s0 s1 s2 hlw
      go_wp2_with fail
      go_loopw [6] (fun kv wr => ∃ k : Nat, kv = .int .i64 (k : Nat) ∧ k ≤ m ∧ LvRel w (.slice a rs.length c) (.int .u8 (acc : Nat)) gb m (outL m n (liveB m acc rs) ((List.range k).any fun k => S.testBit k && acc.testBit k)) wr ∧ BsBlock wr lb (setL m S)) (fun kv _ => m - (intOf kv).toNat)
      case atStart => exact ⟨0, rfl, Nat.zero_le _, K5.out, LB.out⟩
      case round =>
        obtain ⟨k, rfl, hk, hrl, hlb⟩ := hrel
        obtain ⟨s0, s1, s2⟩ := hrl.1.cells
        have KI := Lib.hid hrl
        have LI := Lib.hid hlb
        clear hrl hlb K5 LB
        have k0 : (0 : Int) ≤ (k : Int) := by omega
        by_cases h2 : (k : Int) < (m : Int)
        · have hkm : k < m := by omega
          obtain ⟨v, hv⟩ : ∃ v, v = (List.range k).any fun k => S.testBit k && acc.testBit k := ⟨_, rfl⟩
          rw [← hv] at KI
          have HV := Lib.hid (show (List.range (k + 1)).any (fun k => S.testBit k && acc.testBit k) = (v || (S.testBit k && acc.testBit k)) by rw [any_succ, hv])
          clear hv
          have t0 := KI.out.2.1.cell n (by rw [outL_len]; exact hnm)
          rw [outL_get m n _ v hnm] at t0
          have z0 := KI.out.2.1.free n
          have t1 := LI.out.cell k (by rw [setL_len]; exact hkm)
          rw [setL_get m S k hkm] at t1
          have KP := Lib.hid (show ∀ W, LvRel w (.slice a rs.length c) (.int .u8 (acc : Nat)) gb m (outL m n (liveB m acc rs) v) W → BsBlock W lb (setL m S) → ∀ u : Bool, LvRel w (.slice a rs.length c) (.int .u8 (acc : Nat)) gb m (outL m n (liveB m acc rs) u) (W.setCell ⟨gb, n, none⟩ (.bool u)) ∧ BsBlock (W.setCell ⟨gb, n, none⟩ (.bool u)) lb (setL m S) from
            fun W h hb u => ⟨⟨h.1.setCellK (by omega), by have := h.2.1.put n u; rwa [outL_set] at this, h.2.2.setCell (by show w.heap.size ≤ gb; omega) _⟩, hb.setCell (by omega)⟩)
          cases v with
          | true =>
            go_wp2_with fail
            go_roundw
            case rel => exact ⟨k + 1, by go_num, by omega, by rw [HV.out]; exact (KP.out _ KI.out LI.out true).1, (KP.out _ KI.out LI.out true).2⟩
            case measure => simp [intOf]; omega
          | false =>
            cases h3 : S.testBit k with
            | false =>
              rw [h3] at t1
              have H3 := Lib.hid h3
              clear h3
              go_wp2_with fail
              go_roundw
              case rel => exact ⟨k + 1, by go_num, by omega, by rw [HV.out, H3.out]; exact (KP.out _ KI.out LI.out false).1, (KP.out _ KI.out LI.out false).2⟩
              case measure => simp [intOf]; omega
            | true =>
              rw [h3] at t1
              have H3 := Lib.hid h3
              clear h3
              have hk8 : k < 8 := by omega
              have CA := Lib.hid (Accepts_any m acc k (.slice a rs.length c) hacc hk8 wr)
              go_wp2_with fail
              refine (CA.out).mono ?_
              rintro e W8 ⟨rfl, hb8⟩
              have K8 := Lib.hid (KI.out.into hb8)
              have L8 := Lib.hid (LI.out.below hb8)
              have z8 := K8.out.2.1.free n
              have t8 := K8.out.2.1.cell n (by rw [outL_len]; exact hnm)
              clear hb8 CA KI LI t0 z0 t1 s0 s1 s2
              go_wp2_with fail
              go_roundw
              case rel => exact ⟨k + 1, by go_num, by omega, by rw [HV.out, H3.out]; exact (KP.out _ K8.out L8.out (acc.testBit k)).1, (KP.out _ K8.out L8.out (acc.testBit k)).2⟩
              case measure => simp [intOf]; omega
        · have hke : k = m := by omega
          have HKJ := Lib.hid (show LvRel w (.slice a rs.length c) (.int .u8 (acc : Nat)) gb m (outL m (n + 1) (liveB m acc rs) false) wr by
            have := KI.out
            rw [hke, HSE.out] at this
            rw [← outL_next]
            exact this)
          clear KI LI hke
          go_wp2_with fail
          go_roundw
          case rel => exact ⟨n + 1, by go_num, by omega, HKJ.out⟩
          case measure => simp [intOf]; omega
    · have hje : n = m := by omega
      have HJE := Lib.hid hje
      clear hje
      go_wp2_with fail
      go_ret
      exact ⟨gb, rfl, by have := KR.out.2.1; rw [HJE.out, outL_all] at this; exact this, by omega, KR.out.2.2⟩
end Go.Proofs.YtadaijepalhohabDoor
