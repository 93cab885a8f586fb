/-
  A region that draws its order: operations that keep an invariant in any order, and one that comes last (no order is listed: for many operations).
-/
import Derived.Test.YtadaijepalhohabDoorTH
import Derived.Test.YtadaijepalhohabDoorTI
namespace Go.Proofs.YtadaijepalhohabDoor
open Go.RowKit

/-- How many of the first n are not listed. -/
def cntU : Nat → (Nat → Bool) → Nat
  | 0, _ => 0
  | n + 1, g => (if g n = true then 0 else 1) + cntU n g
theorem cntU_same : ∀ (n : Nat) (g h : Nat → Bool), (∀ k, k < n → g k = h k) → cntU n g = cntU n h
  | 0, _, _, _ => rfl
  | n + 1, g, h, e => by
    unfold cntU
    rw [e n (Nat.lt_succ_self _), cntU_same n g h fun k hk => e k (by omega)]
theorem cntU_one : ∀ (n i : Nat) (g h : Nat → Bool), i < n → g i = false → h i = true → (∀ k, k ≠ i → h k = g k) → cntU n h + 1 = cntU n g
  | 0, _, _, _, hi, _, _, _ => absurd hi (Nat.not_lt_zero _)
  | n + 1, i, g, h, hi, h1, h2, h3 => by
    unfold cntU
    by_cases e : i = n
    · subst e
      rw [h1, h2, cntU_same i h g fun k hk => h3 k (by omega)]
      simp; omega
    · have := cntU_one n i g h (by omega) h1 h2 h3
      rw [h3 n (fun q => e q.symm)]
      omega
theorem cntU_zero : ∀ (n : Nat) (g : Nat → Bool), cntU n g = 0 → ∀ k, k < n → g k = true
  | 0, _, _, k, hk => absurd hk (Nat.not_lt_zero _)
  | n + 1, g, h, k, hk => by
    unfold cntU at h
    by_cases e : g n = true
    · by_cases q : k = n
      · rw [q]; exact e
      · exact cntU_zero n g (by omega) k (by omega)
    · rw [if_neg e] at h; omega
theorem cntU_all : ∀ (n : Nat) (g : Nat → Bool), (∀ k, k < n → g k = true) → cntU n g = 0
  | 0, _, _ => rfl
  | n + 1, g, h => by
    unfold cntU
    rw [if_pos (h n (Nat.lt_succ_self _)), cntU_all n g fun k hk => h k (by omega)]
theorem cntU_none : ∀ (n : Nat) (g : Nat → Bool), (∀ k, k < n → g k = false) → cntU n g = n
  | 0, _, _ => rfl
  | n + 1, g, h => by
    unfold cntU
    rw [h n (Nat.lt_succ_self _), cntU_none n g fun k hk => h k (by omega)]
    simp; omega
theorem getD_same (l : Array Bool) (j : Nat) (h : j < l.size) : l.getD j true = l.getD j false := by simp [h]
theorem getD_low {l : Array Bool} {j : Nat} (h : l.getD j true = false) : l.getD j false = false := by
  by_cases hj : j < l.size
  · rw [← getD_same l j hj]; exact h
  · simp [hj] at h
section
variable {P : Program} {ops : Array Oper} {Q : Exit → Act → World → Prop}
def bindsOn (o : Oper) (k : Nat) : Bool := o.after.any (fun e => Region.binds .any e && e.on == k)
/-- Each operation waits only for earlier ones; the last one for all. -/
def earlyB (ops : Array Oper) (n : Nat) : Bool :=
  (List.range (n + 1)).all (fun j => match ops[j]? with
    | some o => o.after.all (fun e => !Region.binds .any e || decide (e.on < j))
    | none => false) && (List.range n).all (fun k => match ops[n]? with
    | some o => bindsOn o k
    | none => false)
theorem any_of_inv2 {n : Nat} (hsz : ops.size = n + 1) (hE : earlyB ops n = true) {J : Array Bool → Act → World → Prop}
    (step : ∀ listed a w i, J listed a w → i ∈ Region.ready .any ops listed → i < n → wpOp P ops Q i (fun a' w' => J (listed.setIfInBounds i true) a' w') a w)
    (fin : ∀ listed a w, J listed a w → (∀ i, i < n → listed.getD i false = true) → wpOp P ops Q n (fun a' w' => Q .normal a' w') a w) :
    ∀ (f : Nat) (listed : Array Bool) (a : Act) (w : World), listed.size = n + 1 → listed.getD n false = false → cntU n (fun k => listed.getD k false) = f → J listed a w → wpAny P .any ops Q (f + 1) listed a w := by
  unfold earlyB at hE
  rw [Bool.and_eq_true] at hE
  obtain ⟨hE1, hE2⟩ := hE
  have early : ∀ j o, j ≤ n → ops[j]? = some o → ∀ e ∈ o.after, Region.binds .any e = true → e.on < j := fun j o hj ho e he hb => by
    have h := List.all_eq_true.1 hE1 j (List.mem_range.2 (by omega))
    rw [ho] at h
    have h2 := Array.all_eq_true'.1 h e he
    rw [hb] at h2
    simpa using h2
  have last : ∀ listed, n ∈ Region.ready .any ops listed → ∀ k, k < n → listed.getD k false = true := fun listed hr k hk => by
    obtain ⟨-, o, ho, hall⟩ := mem_ready.1 hr
    have h := List.all_eq_true.1 hE2 k (List.mem_range.2 hk)
    rw [ho] at h
    unfold bindsOn at h
    obtain ⟨e, he, hb⟩ := Array.any_eq_true'.1 h
    simp only [Bool.and_eq_true, beq_iff_eq] at hb
    rw [← hb.2]
    exact hall e he hb.1
  have isr : ∀ (listed : Array Bool) j, listed.size = n + 1 → j ≤ n → listed.getD j false = false → (∀ k, k < j → listed.getD k false = true) → j ∈ Region.ready .any ops listed := fun listed j hs hj hl hk => by
    have hlt : j < ops.size := by omega
    exact mem_ready.2 ⟨by rw [getD_same listed j (by omega)]; exact hl, ops[j], by simp [hlt], fun e he hb => hk _ (early j ops[j] hj (by simp [hlt]) e he hb)⟩
  have inb : ∀ listed i, i ∈ Region.ready .any ops listed → i ≤ n ∧ listed.getD i false = false := fun listed i hi => by
    obtain ⟨h1, o, ho, -⟩ := mem_ready.1 hi
    have : i < ops.size := (Array.getElem?_eq_some_iff.1 ho).1
    exact ⟨by omega, getD_low h1⟩
  intro f
  induction f with
  | zero =>
    intro listed a w hs hn hc hJ
    have hall := cntU_zero n _ hc
    have hr := isr listed n hs (Nat.le_refl _) hn hall
    refine ⟨fun h => (by rw [h] at hr; cases hr), fun i hi => ?_⟩
    obtain ⟨h1, h2⟩ := inb listed i hi
    have hin : i = n := by
      refine Classical.byContradiction fun hne => ?_
      rw [hall i (by omega)] at h2; cases h2
    subst hin
    refine wpOp_mono (fun a' w' h => ?_) (fin listed a w hJ hall)
    refine ⟨?_, h⟩
    refine List.eq_nil_iff_forall_not_mem.2 fun j hj => ?_
    obtain ⟨h3, h4⟩ := inb _ j hj
    by_cases e : j = i
    · subst e
      simp [hs] at h4
    · have := hall j (by omega)
      rw [Array.getD_eq_getD_getElem?, Array.getElem?_setIfInBounds_ne (fun q => e q.symm), ← Array.getD_eq_getD_getElem?] at h4
      rw [this] at h4; cases h4
  | succ f ih =>
    intro listed a w hs hn hc hJ
    refine ⟨fun h => ?_, fun i hi => ?_⟩
    · exfalso
      have hex : ∃ j, j < n ∧ listed.getD j false = false := by
        refine Classical.byContradiction fun hno => ?_
        have : cntU n (fun k => listed.getD k false) = 0 := cntU_all n _ fun k hk => by
          cases hb : listed.getD k false with
          | true => rfl
          | false => exact absurd ⟨k, hk, hb⟩ hno
        omega
      have hleast : ∀ m j, j ≤ m → j < n → listed.getD j false = false → ∃ j, j < n ∧ listed.getD j false = false ∧ ∀ k, k < j → listed.getD k false = true := by
        intro m
        induction m with
        | zero => intro j hj hjn hl; exact ⟨j, hjn, hl, fun k hk => by omega⟩
        | succ m ihm =>
          intro j hj hjn hl
          by_cases hsm : ∃ k, k < j ∧ listed.getD k false = false
          · obtain ⟨k, hk, hkl⟩ := hsm
            exact ihm k (by omega) (by omega) hkl
          · refine ⟨j, hjn, hl, fun k hk => ?_⟩
            cases hb : listed.getD k false with
            | true => rfl
            | false => exact absurd ⟨k, hk, hb⟩ hsm
      obtain ⟨j, hj, hl⟩ := hex
      obtain ⟨j, hj, hl, hk⟩ := hleast j j (Nat.le_refl _) hj hl
      have := isr listed j hs (by omega) hl hk
      rw [h] at this; cases this
    · obtain ⟨h1, h2⟩ := inb listed i hi
      have hin : i < n := by
        refine Nat.lt_of_le_of_ne h1 fun e => ?_
        subst e
        have := cntU_all i _ (last listed hi)
        omega
      refine wpOp_mono (fun a' w' h => ?_) (step listed a w i hJ hi hin)
      have hset : ∀ k, k ≠ i → (listed.setIfInBounds i true).getD k false = listed.getD k false := fun k hk => by
        rw [Array.getD_eq_getD_getElem?, Array.getElem?_setIfInBounds_ne (fun q => hk q.symm), ← Array.getD_eq_getD_getElem?]
      refine ih _ a' w' (by simp [hs]) (by rw [hset n (by omega)]; exact hn) ?_ h
      have := cntU_one n i (fun k => listed.getD k false) (fun k => (listed.setIfInBounds i true).getD k false) hin h2 (by simp [hs]; omega) hset
      omega
theorem wp_region_inv2 {id : Nat} {a : Act} {w : World} {l : List Oper} (n : Nat) (hm : P.follows .mixedOrders = true) (hn : l.toArray.size = n + 1) (hE : earlyB l.toArray n = true) (J : Array Bool → Act → World → Prop)
    (start : J (Array.replicate l.toArray.size false) a w.drew)
    (step : ∀ listed a w i, J listed a w → i ∈ Region.ready .any l.toArray listed → i < n → wpOp P l.toArray Q i (fun a' w' => J (listed.setIfInBounds i true) a' w') a w)
    (fin : ∀ listed a w, J listed a w → (∀ i, i < n → listed.getD i false = true) → wpOp P l.toArray Q n (fun a' w' => Q .normal a' w') a w) : (Code.region id l.toArray true).wp P Q a w := by
  refine wp_region_any hm ?_
  rw [hn] at start
  have H := any_of_inv2 hn hE step fin n (Array.replicate (n + 1) false) a w.drew (by simp) (by simp) (cntU_none n _ fun k hk => by simp [show k < n + 1 by omega]) start
  rw [hn]
  exact H
theorem wpOp_of_list {i : Nat} {o : Oper} {a : Act} {w : World} {K : Act → World → Prop} (hi : ops[i]? = some o) (hg : o.guard = none) (h : wpList P ops Q [o] a w) (hK : ∀ a w, Q .normal a w → K a w) : wpOp P ops Q i K a w := by
  unfold wpOp
  simp only [hi]
  rw [if_pos (by simp [Region.wanted, hg])]
  rw [wpList, if_pos (by simp [Region.wanted, hg])] at h
  exact h.imp (fun h => Oper.wp_mono (fun a' w' hh => hK _ _ hh) h) id
end
end Go.Proofs.YtadaijepalhohabDoor
