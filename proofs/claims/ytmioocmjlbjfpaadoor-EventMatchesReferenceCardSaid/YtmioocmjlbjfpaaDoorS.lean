/-
  event.fits at every event; event.Valid.
-/
import Derived.Test.YtmioocmjlbjfpaaDoorR
import Derived.Deep.RegionWith
import Derived.Deep.DeepMust
namespace Go.Proofs.YtmioocmjlbjfpaaDoor
open Go.RowKit
open Pl

def validB (ev : Ev) : Bool := if 1 ≤ ev.kind ∧ ev.kind ≤ 12 then fitsK (ev.kind - 1).toNat ev.keys ev.p ev.text ev.n ev.l else false
theorem fits_any (b : Nat) (kd : Int) (keys : List UInt8) (va : Option Addr) (vc : Nat) (ps : List (Int × Int)) (text : List UInt8) (n l : Int) (w : World) (hT : TabAt w b) (hP : PtsAt w w.heap.size (.slice va ps.length vc) ps) (hl : ps.length ≤ maxLen) :
    Calls Tryd.prog 24 #[.map (some b), .agg #[.int .i64 kd, .string (B keys), .slice va ps.length vc, .string (B text), .int .i64 n, .int .i64 l]] w fun e w' => e = .returned (.bool (validB ⟨kd, keys, ps, text, n, l⟩)) ∧ Below w.heap.size w w' := by
  by_cases hk : 1 ≤ kd ∧ kd ≤ 12
  · have e1 : validB ⟨kd, keys, ps, text, n, l⟩ = fitsK (kd - 1).toNat keys ps text n l := by
      show (if 1 ≤ kd ∧ kd ≤ 12 then fitsK (kd - 1).toNat keys ps text n l else false) = _
      rw [if_pos hk]
    obtain ⟨i, hi⟩ : ∃ i : Nat, i = (kd - 1).toNat := ⟨_, rfl⟩
    have hkd : kd = ((i + 1 : Nat) : Int) := by omega
    rw [e1, ← hi, hkd]
    exact fits_yes b i (by omega) keys va vc ps text n l w hT hP hl
  · have e1 : validB ⟨kd, keys, ps, text, n, l⟩ = false := by
      show (if 1 ≤ kd ∧ kd ≤ 12 then fitsK (kd - 1).toNat keys ps text n l else false) = _
      rw [if_neg hk]
    rw [e1]
    exact fits_no b kd keys va vc ps text n l w hT (by omega)

theorem tab_after {W x1 : World} {c : Nat} (h : Tab W.heap.size W tableEs x1) (hc : W.heap.size = c) : TabAt x1 c := by
  subst hc; exact h.at
set_option maxHeartbeats 1000000 in
set_option maxRecDepth 100000 in
theorem Valid_any (kd : Int) (keys : List UInt8) (va : Option Addr) (vc : Nat) (ps : List (Int × Int)) (text : List UInt8) (n l : Int) (w : World) (hP : PtsAt w w.heap.size (.slice va ps.length vc) ps) (hl : ps.length ≤ maxLen) :
    Calls Tryd.prog 13 #[.agg #[.int .i64 kd, .string (B keys), .slice va ps.length vc, .string (B text), .int .i64 n, .int .i64 l]] w fun e w' => e = .returned (.bool (validB ⟨kd, keys, ps, text, n, l⟩)) ∧ Below w.heap.size w w' := by
  have C1 := fun w => Lib.hid (forms_any w)
  have C2 := fun b w hT hP => Lib.hid (fits_any b kd keys va vc ps text n l w hT hP hl)
  generalize validB ⟨kd, keys, ps, text, n, l⟩ = r at *
  have HP := Lib.hid hP
  clear hP hl
  have H0 := Lib.hid (show Below w.heap.size w (w.alloc (.cells #[.int .i64 kd, .string (B keys), .slice va ps.length vc, .string (B text), .int .i64 n, .int .i64 l] 31)).drew from ((Below.refl _ _).alloc (Nat.le_refl _) _).drew)
  go_enter Tryd.func13, Tryd.ntmps13
  go_wp2_with fail
  go_region_with (first
    | (go_at_call 19; refine ((C1 _).out).mono ?_; rintro e x1 ⟨rfl, hTab⟩; go_must (have hc := (bcell hTab.2.1).1); go_must (have HB := Lib.hid (H0.out.trans (hTab.2.1.mono H0.out.size))); go_must (have HT := Lib.hid (tab_after (c := w.heap.size + 1) hTab (by simp))); clear hTab)
    | (go_at_call 24; refine ((C2 (w.heap.size + 1) _ HT.out ((HP.out.below HB.out).up HB.out.size)).out).mono ?_; rintro e x2 ⟨rfl, hb⟩; have HB2 := Lib.hid (HB.out.trans (hb.mono HB.out.size)); clear hb))
  all_goals (go_wp2_with fail; go_ret; exact ⟨rfl, HB2.out⟩)
end Go.Proofs.YtmioocmjlbjfpaaDoor
