/-
  A scheme without its dead rules, plain.
-/
import Derived.Test.YtadaijepalhohabDoorGP
namespace Go.Proofs.YtadaijepalhohabDoor
open Go.RowKit
open Pl

/-- The rules that are not dead. -/
def kept (m acc : Nat) (rs : List Rl) : List Rl := rs.filter fun x => !deadK (rMs m rs) (lMs m acc rs) x
section
variable {m acc : Nat} {rs : List Rl}
theorem kept_iff (hr : ∀ x ∈ rs, InM m x) (hm : 1 ≤ m) (ha : acc < 2 ^ m) (ha0 : acc ≠ 0) {x : Rl} : x ∈ kept m acc rs ↔ x ∈ rs ∧ Path (rs.map edg) 0 x.src.toNat ∧ ∃ a, acc.testBit a = true ∧ Path (rs.map edg) x.dst.toNat a := by
  unfold kept deadK
  rw [List.mem_filter]
  simp only [Bool.not_or, Bool.not_not, Bool.and_eq_true]
  rw [reached_iff hr hm, live_iff hr ha ha0]
theorem kept_sub {x : Rl} (h : x ∈ kept m acc rs) : x ∈ rs := (List.mem_filter.1 h).1
theorem edge_mem {k j : Nat} (h : (k, j) ∈ rs.map edg) : ∃ x ∈ rs, x.src.toNat = k ∧ x.dst.toNat = j := by
  obtain ⟨x, hx, e⟩ := List.mem_map.1 h
  unfold edg at e
  exact ⟨x, hx, (Prod.mk.inj e).1, (Prod.mk.inj e).2⟩
theorem edge_of {x : Rl} (h : x ∈ rs) : (x.src.toNat, x.dst.toNat) ∈ rs.map edg := List.mem_map.2 ⟨x, h, rfl⟩
def Lv (acc : Nat) (rs : List Rl) (i : Nat) : Prop := ∃ a, acc.testBit a = true ∧ Path (rs.map edg) i a
theorem Lv.back {i j : Nat} (h : Lv acc rs j) (p : Path (rs.map edg) i j) : Lv acc rs i := by
  obtain ⟨a, h1, h2⟩ := h
  exact ⟨a, h1, p.trans h2⟩
theorem kept_path (hr : ∀ x ∈ rs, InM m x) (hm : 1 ≤ m) (ha : acc < 2 ^ m) (ha0 : acc ≠ 0) {i j : Nat} (hi : Path (rs.map edg) 0 i) (p : Path (rs.map edg) i j) (hj : Lv acc rs j) : Path ((kept m acc rs).map edg) i j := by
  induction p with
  | refl => exact .refl _
  | @snoc k j q e ih =>
    have hk : Lv acc rs k := hj.back (.snoc (.refl _) e)
    obtain ⟨x, hx, rfl, rfl⟩ := edge_mem e
    exact .snoc (ih hk) (edge_of ((kept_iff hr hm ha ha0).2 ⟨hx, hi.trans q, hj⟩))
theorem kept_up {i j : Nat} (p : Path ((kept m acc rs).map edg) i j) : Path (rs.map edg) i j := path_mem (fun e he => by
  obtain ⟨x, hx, rfl⟩ := List.mem_map.1 he
  exact List.mem_map.2 ⟨x, kept_sub hx, rfl⟩) p
theorem kept_in (hr : ∀ x ∈ rs, InM m x) : ∀ x ∈ kept m acc rs, InM m x := fun x hx => hr x (kept_sub hx)
theorem kept_live (hr : ∀ x ∈ rs, InM m x) (hm : 1 ≤ m) (ha : acc < 2 ^ m) (ha0 : acc ≠ 0) {i : Nat} (hi : Path (rs.map edg) 0 i) (hl : Lv acc rs i) : Lv acc (kept m acc rs) i := by
  obtain ⟨a, h1, h2⟩ := hl
  exact ⟨a, h1, kept_path hr hm ha ha0 hi h2 ⟨a, h1, .refl _⟩⟩
theorem Lv.up {i : Nat} (h : Lv acc (kept m acc rs) i) : Lv acc rs i := by
  obtain ⟨a, h1, h2⟩ := h
  exact ⟨a, h1, kept_up h2⟩
/-- What a kept rule leads to is live without the dead rules, too; where it begins is reached. -/
theorem kept_dst (hr : ∀ x ∈ rs, InM m x) (hm : 1 ≤ m) (ha : acc < 2 ^ m) (ha0 : acc ≠ 0) {x : Rl} (h : x ∈ kept m acc rs) : Path ((kept m acc rs).map edg) 0 x.src.toNat ∧ Lv acc (kept m acc rs) x.dst.toNat := by
  obtain ⟨hx, h1, h2⟩ := (kept_iff hr hm ha ha0).1 h
  have hl : Lv acc rs x.src.toNat := Lv.back h2 (.snoc (.refl _) (edge_of hx))
  exact ⟨kept_path hr hm ha ha0 (.refl _) h1 hl, kept_live hr hm ha ha0 (.snoc h1 (edge_of hx)) h2⟩
theorem kept_valid (hv : validB m acc rs = true) : validB m acc (kept m acc rs) = true := by
  obtain ⟨h1, h2, h3⟩ := valid_iff.1 hv
  refine valid_iff.2 ⟨?_, fun r hr => h2 r (kept_sub hr), h3.filter _⟩
  unfold frameB at h1 ⊢
  simp only [Bool.and_eq_true, decide_eq_true_eq] at h1 ⊢
  have := List.length_filter_le (fun x => !deadK (rMs m rs) (lMs m acc rs) x) rs
  exact ⟨h1.1, h1.2.1, h1.2.2.1, h1.2.2.2.1, by unfold kept; omega⟩
theorem pickN_none {p : Rl → Bool} {rs : List Rl} (h : ∀ x ∈ rs, p x = false) : pickN p rs rs.length = [] := by
  cases hl : pickN p rs rs.length with
  | nil => rfl
  | cons a r =>
    obtain ⟨k, -, hk, hp⟩ := pickN_mem p rs a (by rw [hl]; exact List.mem_cons_self ..)
    rw [h _ (List.getElem_mem hk)] at hp; cases hp
theorem kept_dead (hr : ∀ x ∈ rs, InM m x) (hm : 1 ≤ m) (ha : acc < 2 ^ m) (ha0 : acc ≠ 0) : ∀ x ∈ kept m acc rs, deadK (rMs m (kept m acc rs)) (lMs m acc (kept m acc rs)) x = false := fun x hx => by
  obtain ⟨h1, h2⟩ := kept_dst hr hm ha ha0 hx
  unfold deadK
  rw [(reached_iff (kept_in hr) hm _).2 h1, (live_iff (kept_in hr) ha ha0 _).2 h2]
  rfl
theorem bit_lt {n i : Nat} (hn : n < 256) (h : n.testBit i = true) : i < 8 := Classical.byContradiction fun hi => by
  have := Nat.testBit_lt_two_pow (x := n) (i := i) (Nat.lt_of_lt_of_le (show n < 2 ^ 8 from hn) (Nat.pow_le_pow_right (by decide) (show 8 ≤ i by omega)))
  rw [h] at this; cases this
theorem kinds_lt {rs : List Rl} (hm8 : m ≤ 8) (hr : ∀ x ∈ rs, InM m x) (hacc : acc < 256) : rMs m rs < 256 ∧ lMs m acc rs < 256 := by
  have h8 : ∀ x ∈ rs, In8 x := fun x hx => by
    have := hr x hx
    exact ⟨⟨this.1.1, by have := this.1.2; omega⟩, this.2.1, by have := this.2.2; omega⟩
  exact ⟨rnds_lt (f := rStep) (fun m x h1 h2 => rStep_lt h1 h2) rs h8 _ 1 (by decide), rnds_lt (f := lStep) (fun m x h1 h2 => lStep_lt h1 h2) rs h8 _ acc hacc⟩
theorem compl_all' : (List.range 256).all (fun m => (List.range 8).all fun i => (255 - m).testBit i == !m.testBit i) = true := by decide +kernel
theorem compl_bit' (m i : Nat) (hm : m < 256) (hi : i < 8) : (255 - m).testBit i = !m.testBit i := by
  have h := List.all_eq_true.1 (List.all_eq_true.1 compl_all' m (List.mem_range.2 hm)) i (List.mem_range.2 hi)
  simpa using h
theorem kept_last (hr : ∀ x ∈ rs, InM m x) (hm : 1 ≤ m) (ha : acc < 2 ^ m) (ha0 : acc ≠ 0) {p : Rl → Bool} {s t : Nat} {l : List Nat} (hn : l ≠ []) (c : Chn (edgeOf p (kept m acc rs)) s l t) : Lv acc (kept m acc rs) t := by
  rcases c.inv with ⟨h, _⟩ | ⟨r, a, k, _, _, e⟩
  · exact absurd h hn
  · obtain ⟨hk, _, _, h2⟩ := edgeOf_some e
    rw [← h2]
    exact (kept_dst hr hm ha ha0 (List.getElem_mem hk)).2
theorem kept_stuck (hm8 : m ≤ 8) (hacc : acc < 256) (hr : ∀ x ∈ rs, InM m x) (hm : 1 ≤ m) (ha : acc < 2 ^ m) (ha0 : acc ≠ 0) : stuckC m acc (kept m acc rs) = [] := by
  unfold stuckC
  split
  · refine fC_none fun l t hn hx c => ?_
    have h1 := (live_iff (kept_in hr) ha ha0 t).2 (kept_last hr hm ha ha0 hn c)
    have hl := (kinds_lt (acc := acc) hm8 (kept_in (acc := acc) hr) hacc).2
    rw [compl_bit' _ _ hl (bit_lt hl h1), h1] at hx
    cases hx
  · rfl
theorem endless_nil {rs : List Rl} : endlessC m acc rs = [] ↔ ∀ i, i < m → (rMs m rs &&& lMs m acc rs).testBit i = true → rndC rs i = [] := by
  constructor
  · exact fun h => (endC_spec _ rs m).1 h
  · intro h
    refine Classical.byContradiction fun hn => ?_
    obtain ⟨i, h1, h2, h3⟩ := (endC_spec _ rs m).2.1 hn
    exact hn (h3.trans (h i h1 h2))
theorem kept_circle (hr : ∀ x ∈ rs, InM m x) (hm : 1 ≤ m) (ha : acc < 2 ^ m) (ha0 : acc ≠ 0) {i : Nat} (hi : Path (rs.map edg) 0 i) {l : List Nat} {t : Nat} (c : Chn (edgeOf noIn rs) i l t) (ht : Lv acc rs t) : ∃ l', l'.length = l.length ∧ Chn (edgeOf noIn (kept m acc rs)) i l' t := by
  induction c with
  | nil => exact ⟨[], rfl, .nil⟩
  | @snoc l a k b c e ih =>
    obtain ⟨hk, hp, h1, h2⟩ := edgeOf_some e
    have hx : rs[k] ∈ rs := List.getElem_mem hk
    have he : (a, b) ∈ rs.map edg := by
      have := edge_of hx
      rwa [h1, h2] at this
    obtain ⟨l', hl, c'⟩ := ih (ht.back (.snoc (.refl _) he))
    have hkm : rs[k] ∈ kept m acc rs := (kept_iff hr hm ha ha0).2 ⟨hx, by rw [h1]; exact hi.trans (chn_path c), by rw [h2]; exact ht⟩
    obtain ⟨j, hj, hje⟩ := List.getElem_of_mem hkm
    refine ⟨l' ++ [j], by simp [hl], .snoc c' ?_⟩
    rw [edgeOf_at hj, hje, if_pos hp, h1, h2]
theorem kept_endless (hr : ∀ x ∈ rs, InM m x) (hm : 1 ≤ m) (ha : acc < 2 ^ m) (ha0 : acc ≠ 0) : endlessC m acc (kept m acc rs) = [] ↔ endlessC m acc rs = [] := by
  rw [endless_nil, endless_nil]
  constructor
  · intro h i him hu
    rw [Nat.testBit_and, Bool.and_eq_true, reached_iff hr hm, live_iff hr ha ha0] at hu
    refine Classical.byContradiction fun hn => ?_
    have hu' : (rMs m (kept m acc rs) &&& lMs m acc (kept m acc rs)).testBit i = true := by
      rw [Nat.testBit_and, Bool.and_eq_true, reached_iff (kept_in hr) hm, live_iff (kept_in hr) ha ha0]
      exact ⟨kept_path hr hm ha ha0 (.refl _) hu.1 hu.2, kept_live hr hm ha ha0 hu.1 hu.2⟩
    have h0 := h i him hu'
    obtain ⟨l, t, h1, h2, h3⟩ := fC_iff.1 hn
    rw [pow_bit] at h2
    subst h2
    obtain ⟨l', hl, c'⟩ := kept_circle hr hm ha ha0 hu.1 h3 hu.2
    exact fC_nil h0 l' _ (fun e => h1 (List.eq_nil_of_length_eq_zero (by rw [← hl, e]; rfl))) ((pow_bit _ _).2 rfl) c'
  · intro h i him hu
    rw [Nat.testBit_and, Bool.and_eq_true, reached_iff (kept_in hr) hm, live_iff (kept_in hr) ha ha0] at hu
    refine Classical.byContradiction fun hn => ?_
    have hu' : (rMs m rs &&& lMs m acc rs).testBit i = true := by
      rw [Nat.testBit_and, Bool.and_eq_true, reached_iff hr hm, live_iff hr ha ha0]
      exact ⟨kept_up hu.1, Lv.up hu.2⟩
    exact (fC_like (like_of_mem fun x hx => kept_sub hx) hn).1 (h i him hu')
/-- All that FlawSound asks. -/
theorem sound_kept (hacc : acc < 256) (hv : validB m acc rs = true) :
    validB m acc (kept m acc rs) = true ∧ (repC m acc (kept m acc rs)).dead = [] ∧ (repC m acc (kept m acc rs)).stuck = [] ∧ ((repC m acc (kept m acc rs)).endless = [] ↔ (repC m acc rs).endless = []) ∧
      (soundC m acc (kept m acc rs) = 0 ↔ (lMs m acc rs).testBit 0 = true ∧ (repC m acc rs).endless = []) := by
  obtain ⟨⟨hm, hm8⟩, hr, -, -⟩ := valid_in hv
  obtain ⟨ha, ha0⟩ := valid_acc hv
  have hv' := kept_valid hv
  have hE := kept_endless hr hm ha ha0
  have e1 : (repC m acc (kept m acc rs)).endless = [] ↔ endlessC m acc (kept m acc rs) = [] := by unfold repC; rw [if_pos hv']; exact ints_ne
  have e2 : (repC m acc rs).endless = [] ↔ endlessC m acc rs = [] := by unfold repC; rw [if_pos hv]; exact ints_ne
  refine ⟨hv', ?_, ?_, e1.trans (hE.trans e2.symm), ?_⟩
  · unfold repC
    rw [if_pos hv']
    exact pickN_none (kept_dead hr hm ha ha0)
  · unfold repC
    rw [if_pos hv']
    show ints (stuckC m acc (kept m acc rs)) = []
    rw [kept_stuck hm8 hacc hr hm ha ha0]; rfl
  · have hb0 : (lMs m acc (kept m acc rs)).testBit 0 = true ↔ (lMs m acc rs).testBit 0 = true := by
      rw [live_iff (kept_in hr) ha ha0, live_iff hr ha ha0]
      exact ⟨fun h => Lv.up h, fun h => kept_live hr hm ha ha0 (.refl _) h⟩
    rw [e2, ← hE, ← hb0]
    unfold soundC
    rw [if_pos hv']
    by_cases h0 : (lMs m acc (kept m acc rs)).testBit 0 = true
    · have hz : rMs m (kept m acc rs) &&& (255 - lMs m acc (kept m acc rs)) = 0 := by
        apply Nat.eq_of_testBit_eq
        intro i
        rw [Nat.zero_testBit, Nat.testBit_and]
        cases hri : (rMs m (kept m acc rs)).testBit i with
        | false => rfl
        | true =>
          have hk := kinds_lt (acc := acc) hm8 (kept_in (acc := acc) hr) hacc
          have hl : (lMs m acc (kept m acc rs)).testBit i = true := by
            rw [reached_iff (kept_in hr) hm] at hri
            cases hri with
            | refl => exact h0
            | snoc _ e =>
              obtain ⟨x, hx, _, rfl⟩ := edge_mem e
              exact (live_iff (kept_in hr) ha ha0 _).2 (kept_dst hr hm ha ha0 hx).2
          rw [compl_bit' _ _ hk.2 (bit_lt hk.1 hri), hl]; rfl
      rw [if_pos h0, if_pos hz]
      by_cases h1 : endlessC m acc (kept m acc rs) = []
      · rw [if_pos h1]; exact ⟨fun _ => ⟨h0, h1⟩, fun _ => rfl⟩
      · rw [if_neg h1]; exact ⟨fun h => (by cases h), fun h => absurd h.2 h1⟩
    · rw [if_neg h0]
      exact ⟨fun h => (by cases h), fun h => absurd h.1 h0⟩
end
end Go.Proofs.YtadaijepalhohabDoor
