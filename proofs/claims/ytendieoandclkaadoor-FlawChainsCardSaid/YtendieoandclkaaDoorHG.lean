/-
  FlawChains, plain: no chain comes before those that are reported.
-/
import Derived.Test.YtendieoandclkaaDoorGT
import Derived.Test.YtendieoandclkaaDoorHF
namespace Go.Proofs.YtendieoandclkaaDoor
open Go.RowKit
open Pl

section
variable {m acc : Nat} {rs : List Rl}
theorem chn_only {p : Rl → Bool} {s t : Nat} {l : List Nat} (c : Chn (edgeOf anyR rs) s l t) : (∀ k (hk : k < rs.length), k ∈ l → p rs[k] = true) → Chn (edgeOf p rs) s l t := by
  induction c with
  | nil => exact fun _ => .nil
  | @snoc l a k b c e ih =>
    intro h
    refine .snoc (ih fun j hj hm => h j hj (List.mem_append_left _ hm)) ?_
    obtain ⟨hk, _, h1, h2⟩ := edgeOf_some e
    rw [edgeOf_at hk, if_pos (h k hk (List.mem_append_right _ (List.mem_singleton.2 rfl))), h1, h2]
theorem stuck_first (hv : validB m acc rs = true) (hacc : acc < 256) {l : List Nat} {t : Nat} (hl : l ≠ []) (c : Chn (edgeOf anyR rs) 0 l t) (h0 : liveB m acc rs 0 = true) (ht : liveB m acc rs t = false) :
    (repC m acc rs).stuck ≠ [] ∧ (repC m acc rs).stuck.length ≤ l.length ∧ (!befB (ints l) (repC m acc rs).stuck) = true := by
  obtain ⟨⟨hm, hm8⟩, hr, -, -⟩ := valid_in hv
  obtain ⟨ha, ha0⟩ := valid_acc hv
  have htm : t < m := chn_lt hr (by omega) c
  have hL : ∀ i, i < m → (lMs m acc rs).testBit i = liveB m acc rs i := fun i hi => kinds_live hr hm ha ha0 i hi
  have e : (repC m acc rs).stuck = ints (fC anyR rs 0 (fun t => (255 - lMs m acc rs).testBit t = true)) := by
    unfold repC
    rw [if_pos hv]
    show ints (stuckC m acc rs) = _
    unfold stuckC
    rw [if_pos (by rw [hL 0 (by omega)]; exact h0)]
  have hx : (255 - lMs m acc rs).testBit t = true := by
    rw [compl_bit' _ _ (kinds_lt hm8 hr hacc).2 (by omega), hL t htm, ht]; rfl
  obtain ⟨h1, h2⟩ := fC_le (X := fun t => (255 - lMs m acc rs).testBit t = true) hl hx c
  rw [e]
  refine ⟨fun h => h1 (ints_ne.1 h), by rw [ints_len]; exact (fC_len (X := fun t => (255 - lMs m acc rs).testBit t = true) hl hx c).2, ?_⟩
  rw [befB_code (N := rs.length + 2) (by omega) (fun k hk => by have := chn_num c k hk; omega) (fun k hk => by have := fC_lt _ _ _ _ k hk; omega), decide_eq_false (by omega)]
  rfl
theorem endless_first (hv : validB m acc rs = true) {l : List Nat} {i : Nat} (hi : i < m) (hl : l ≠ []) (c : Chn (edgeOf anyR rs) i l i) (hs : ∀ k (hk : k < rs.length), k ∈ l → noIn rs[k] = true) (h0 : liveB m acc rs i = true) (ht : (rnds rStep rs m (2 ^ 0)).testBit i = true) :
    (repC m acc rs).endless ≠ [] ∧ (repC m acc rs).endless.length ≤ l.length ∧ (!befB (ints l) (repC m acc rs).endless) = true := by
  obtain ⟨⟨hm, hm8⟩, hr, -, -⟩ := valid_in hv
  obtain ⟨ha, ha0⟩ := valid_acc hv
  have hu : (rMs m rs &&& lMs m acc rs).testBit i = true := by
    rw [Nat.testBit_and, show (rMs m rs).testBit i = _ from kinds_reached hr hm i, show (lMs m acc rs).testBit i = _ from kinds_live hr hm ha ha0 i hi, h0, ht]; rfl
  have e : (repC m acc rs).endless = ints (endlessC m acc rs) := by unfold repC; rw [if_pos hv]
  obtain ⟨h1, h2⟩ := fC_le (p := noIn) (rs := rs) (s := i) (X := fun t => (2 ^ i).testBit t = true) hl ((pow_bit i i).2 rfl) (chn_only c hs)
  obtain ⟨h3, h4⟩ := (endC_spec (rMs m rs &&& lMs m acc rs) rs m).2.2 i hi hu h1
  have hlt : ∀ x ∈ endlessC m acc rs, x < rs.length + 2 := fun x hx => by
    obtain ⟨j, _, _, ej⟩ := (endC_spec (rMs m rs &&& lMs m acc rs) rs m).2.1 h3
    unfold endlessC at hx
    rw [ej] at hx
    have := fC_lt _ _ _ _ x hx
    omega
  have hll : ∀ k ∈ l, k < rs.length + 2 := fun k hk => by have := chn_num c k hk; omega
  have hc : code (rs.length + 2) (endlessC m acc rs) ≤ code (rs.length + 2) l := Nat.le_trans h4 h2
  rw [e]
  refine ⟨fun h => h3 (ints_ne.1 h), ?_, ?_⟩
  · rw [ints_len]
    refine Nat.le_of_not_lt fun hlt2 => ?_
    have := code_len (rs.length + 2) (by omega) hll hlt2
    omega
  · rw [befB_code (N := rs.length + 2) (by omega) hll hlt, decide_eq_false (by omega)]
    rfl
end
theorem numsAt_pre {W : World} {B0 gv vc n : Nat} {l : List Nat} (h : NumsAt W B0 (.slice (some ⟨gv, 0, none⟩) l.length vc) (ints l)) (hn : n ≤ l.length) : NumsAt W B0 (.slice (some ⟨gv, 0, none⟩) n vc) (ints (l.take n)) := by
  obtain ⟨a, c, hv, hP⟩ := h
  have hl : (ints (l.take n)).length = n := by rw [ints_len, List.length_take]; omega
  refine ⟨some ⟨gv, 0, none⟩, vc, by rw [hl], fun hp => ?_⟩
  obtain ⟨b, off, ha, hlt, hc⟩ := hP (by rw [ints_len]; omega)
  have hv1 : some ⟨gv, 0, none⟩ = a := by injection hv
  rw [ha] at hv1
  obtain ⟨rfl, rfl⟩ : gv = b ∧ 0 = off := by simpa using hv1
  refine ⟨gv, 0, rfl, hlt, fun i hi => ?_⟩
  rw [hl] at hi
  rw [hc i (by rw [ints_len]; omega)]
  congr 2
  simp [ints]
end Go.Proofs.YtendieoandclkaaDoor
