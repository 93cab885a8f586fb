/-
  What Find reports is so, plain. A clone of a list of numbers, as a run: new memory or none. A region that draws its order: operations that keep an invariant in any order, and one that comes last (no order is listed: for many operations). FlawProves' walk. Three int8 as an argument; FlawProves for any arguments.
-/
import Derived.Test.YtendieoandclkaaDoorGT
import Derived.Test.YtendieoandclkaaDoorFV
import Derived.Test.YtendieoandclkaaDoorTH
import Derived.Test.YtendieoandclkaaDoorTJ
import Derived.Test.YtendieoandclkaaDoorKA
import Derived.ArgAppend
import Derived.Test.YtendieoandclkaaDoorTI
import Derived.Test.YtendieoandclkaaDoorKE
import Derived.Test.YtendieoandclkaaDoorKC
import Derived.Test.YtendieoandclkaaDoorGO
import Derived.Test.YtendieoandclkaaDoorGK
import Derived.Test.YtendieoandclkaaDoorGZ
import Derived.Deep.Strs
import Derived.Deep.Slices

namespace Go.Proofs.YtendieoandclkaaDoor
open Go.RowKit
open Pl

theorem pdB_all {p : Rl → Bool} {rs : List Rl} : ∀ (xs : List Int) (last : Int), xs.Pairwise (· < ·) → (∀ x ∈ xs, last < x) → (∀ x ∈ xs, ∃ k : Nat, x = (k : Int) ∧ ∃ h : k < rs.length, p rs[k] = true) → pdB p rs last xs = true
  | [], _, _, _, _ => by unfold pdB; rfl
  | x :: r, last, hp, hl, hk => by
    obtain ⟨k, rfl, hkl, hpk⟩ := hk x (List.mem_cons_self ..)
    have h1 := hl _ (List.mem_cons_self ..)
    rw [pdB_in (by omega) hkl, hpk, Bool.true_and]
    obtain ⟨h2, h3⟩ := List.pairwise_cons.1 hp
    exact pdB_all r _ h3 h2 fun y hy => hk y (List.mem_cons_of_mem _ hy)
theorem pickN_lt (p : Rl → Bool) (rs : List Rl) : ∀ n, n ≤ rs.length → (∀ x ∈ pickN p rs n, 0 ≤ x ∧ x < (n : Int)) ∧ (pickN p rs n).Pairwise (· < ·)
  | 0, _ => ⟨fun x hx => by simp [pickN] at hx, by simp [pickN]⟩
  | n + 1, hn => by
    obtain ⟨h1, h2⟩ := pickN_lt p rs n (by omega)
    rw [pickN_succ p rs n (by omega)]
    constructor
    · intro x hx
      rcases List.mem_append.1 hx with h | h
      · have := h1 x h; omega
      · cases hp : p rs[n] with
        | true => rw [hp] at h; have : x = (n : Int) := by simpa using h
                  omega
        | false => rw [hp] at h; simp at h
    · refine List.pairwise_append.2 ⟨h2, ?_, ?_⟩
      · cases p rs[n] <;> simp
      · intro a ha b hb
        have := h1 a ha
        cases hp : p rs[n] with
        | true => rw [hp] at hb; have : b = (n : Int) := by simpa using hb
                  omega
        | false => rw [hp] at hb; simp at hb
theorem fol_app {p : Rl → Bool} {rs : List Rl} : ∀ (xs : List Int) (mode : Int) (ys : List Int), folL p rs mode (xs ++ ys) = (folL p rs mode xs).bind fun t => folL p rs t ys
  | [], mode, ys => by rw [List.nil_append, folL]; rfl
  | x :: r, mode, ys => by
    by_cases h : 0 ≤ x ∧ x < (rs.length : Int)
    · obtain ⟨k, rfl⟩ : ∃ k : Nat, x = (k : Int) := ⟨x.toNat, by omega⟩
      have hk : k < rs.length := by omega
      rw [List.cons_append, folL_in hk, folL_in hk]
      split
      · exact fol_app r _ ys
      · rfl
    · rw [List.cons_append, folL_out h, folL_out h]; rfl
theorem fol_chn {p : Rl → Bool} {rs : List Rl} {m : Nat} (hr : ∀ x ∈ rs, InM m x) {s t : Nat} {l : List Nat} (c : Chn (edgeOf p rs) s l t) : folL p rs (s : Int) (ints l) = some (t : Int) := by
  induction c with
  | nil => rw [ints_nil, folL]
  | @snoc l a k b c e ih =>
    obtain ⟨hk, hp, h1, h2⟩ := edgeOf_some e
    have hx := hr _ (List.getElem_mem hk)
    have e1 : rs[k].src = (a : Int) := by rw [← h1]; exact (Int.toNat_of_nonneg hx.1.1).symm
    have e2 : rs[k].dst = (b : Int) := by rw [← h2]; exact (Int.toNat_of_nonneg hx.2.1).symm
    rw [ints_snoc, fol_app, ih]
    show folL p rs (a : Int) [(k : Int)] = _
    rw [folL_in hk, if_pos ⟨e1, hp⟩, e2, folL]
theorem rep_proved {m acc : Nat} {rs : List Rl} (hv : validB m acc rs = true) (hacc : acc < 256) : prB m acc rs (repC m acc rs) = true := by
  obtain ⟨⟨hm1, hm8⟩, hr, -, -⟩ := valid_in hv
  have hkl := kinds_lt hm8 hr hacc
  have hrp : repC m acc rs = ⟨pickN (deadK (rMs m rs) (lMs m acc rs)) rs rs.length, ints (stuckC m acc rs), ints (endlessC m acc rs)⟩ := by unfold repC; rw [if_pos hv]
  rw [hrp]
  unfold prB
  dsimp only
  obtain ⟨hp1, hp2⟩ := pickN_lt (deadK (rMs m rs) (lMs m acc rs)) rs rs.length (Nat.le_refl _)
  rw [pdB_all _ (-1) hp2 (fun x hx => by have := hp1 x hx; omega) (pickN_mem _ _), Bool.true_and]
  have hs : psB (lMs m acc rs) rs (ints (stuckC m acc rs)) = true := by
    by_cases h0 : stuckC m acc rs = []
    · rw [h0]; rfl
    · have hb : (lMs m acc rs).testBit 0 = true := by
        refine Classical.byContradiction fun hn => h0 ?_
        unfold stuckC; rw [if_neg hn]
      have e : stuckC m acc rs = fC anyR rs 0 (fun t => (255 - lMs m acc rs).testBit t = true) := by unfold stuckC; rw [if_pos hb]
      rw [e] at h0 ⊢
      obtain ⟨hne, ⟨t, hx, c⟩, -⟩ := fC_ne h0
      have hf := fol_chn hr c
      have htm : t < m := chn_lt hr (by omega) c
      unfold psB
      rw [if_neg (by rw [ints_len]; exact fun h => hne (List.eq_nil_of_length_eq_zero h)), show folL (fun _ => true) rs 0 (ints (fC anyR rs 0 fun t => (255 - lMs m acc rs).testBit t = true)) = some (t : Int) from hf]
      dsimp only
      rw [compl_bit' _ _ hkl.2 (by omega)] at hx
      rw [hb, Int.toNat_natCast, Bool.true_and]; exact hx
  have he : peB (rMs m rs) (lMs m acc rs) rs (ints (endlessC m acc rs)) = true := by
    by_cases h0 : endlessC m acc rs = []
    · rw [h0]; rfl
    · obtain ⟨i, him, hu, e⟩ := (endC_spec (rMs m rs &&& lMs m acc rs) rs m).2.1 h0
      have e' : endlessC m acc rs = rndC rs i := e
      rw [e'] at h0 ⊢
      obtain ⟨hne, ⟨t, hx, c⟩, -⟩ := fC_ne h0
      obtain rfl : t = i := (pow_bit i t).1 hx
      have hf := fol_chn hr c
      obtain ⟨l, hl⟩ : ∃ l, l = rndC rs t := ⟨_, rfl⟩
      have hl' : l = fC noIn rs t (fun t' => (2 ^ t).testBit t' = true) := hl
      rw [← hl'] at hf c hne
      rw [← hl]
      cases l with
      | nil => exact absurd rfl hne
      | cons k r =>
        obtain ⟨b, hb, -⟩ := c.inv' k r rfl
        obtain ⟨hk, hp, h1, h2⟩ := edgeOf_some hb
        have hxm := hr _ (List.getElem_mem hk)
        have e1 : rs[k].src = (t : Int) := by rw [← h1]; exact (Int.toNat_of_nonneg hxm.1.1).symm
        show peB _ _ rs ((k : Int) :: ints r) = true
        rw [peB_in hk, e1]
        rw [show folL noIn rs (t : Int) ((k : Int) :: ints r) = some (t : Int) from hf]
        dsimp only
        rw [Int.toNat_natCast, hu]; simp
  rw [hs, he]; rfl
end Go.Proofs.YtendieoandclkaaDoor

namespace Go.Proofs.YtendieoandclkaaDoor
open Go.RowKit
open Pl

theorem clone_run {W : World} {base g b2 : Nat} {v2 : Value} {xs : List Int} (hg : W.heap[g]? = some (.cells #[] 3 (0, 0))) (hb : base ≤ g) (h2 : NumsOwn W b2 v2 xs) (hl : xs.length ≤ 10000) :
    ∃ v' W', (Builtin.append_ #[38, 38] 38 #[.slice (some ⟨g, 0, none⟩) 0 0, v2]).run Tryd.prog W = .ok v' W' ∧ NumsOwn W' base v' xs ∧ Below W.heap.size W W' ∧ ∀ k, v'.ownBlock = some k → k = g ∨ W.heap.size ≤ k := by
  obtain ⟨i0, hi0, hz0, hz1, hz2⟩ := infoInt_parts
  have hgl := lt_of_heap hg
  have h1 : NumsOwn W base (.slice (some ⟨g, 0, none⟩) 0 0) [] := ⟨rfl, Or.inr ⟨g, 0, #[], rfl, hb, hg, Nat.le_refl _, Nat.zero_le _, rfl, rfl⟩⟩
  rcases h2.2 with ⟨rfl, h0⟩ | ⟨g', cap, cur, rfl, hg', hh, h3, h4, h5, h6⟩
  · obtain rfl : xs = [] := List.eq_nil_of_length_eq_zero h0
    exact ⟨_, W, run_append_owned_none (P := Tryd.prog) (w := W) base 38 38 3 i0 1 Tryd.underlying38 hi0 _ 0 [] h1, h1, Below.refl _ _, fun k hk => Or.inl (by cases hk; rfl)⟩
  · have hcell : ∀ j u, (intC xs)[j]? = some u → W.cell? ((⟨g', 0, none⟩ : Addr).add j) = some u := fun j u hu => by
      have e : (⟨g', 0, none⟩ : Addr).add j = ⟨g', j, none⟩ := by unfold Addr.add; split <;> simp_all
      rw [e]
      have hj : j < xs.length := by
        have := (List.getElem?_eq_some_iff.1 hu).1
        simpa [intC] using this
      rw [← h6, Nat.mul_one, List.getElem?_take, if_pos hj] at hu
      simp only [World.cell?, hh]
      simpa using hu
    by_cases hx : xs.length = 0
    · obtain rfl : xs = [] := List.eq_nil_of_length_eq_zero hx
      have hr := run_append_room_cells (P := Tryd.prog) W 38 38 3 i0 Tryd.underlying38 hi0 g 0 0 0 ⟨g', 0, none⟩ 0 cap [] (by simp) (fun j u hu => by simp at hu) (fun u hu => by cases hu) (Nat.le_refl _) (fun j hj => absurd hj (Nat.not_lt_zero _)) (fun j hj => absurd hj (Nat.not_lt_zero _))
      exact ⟨_, W, hr, h1, Below.refl _ _, fun k hk => Or.inl (by cases hk; rfl)⟩
    · obtain ⟨v', W', hr, h7, h8⟩ := run_append_arg_grows (P := Tryd.prog) W 38 38 3 i0 (.int .i64 0) 1 8 Tryd.underlying38 hi0 hz0 hz1 hz2 rfl (by decide) ⟨g, 0, none⟩ 0 0 [] rfl (fun j u hu => by simp at hu) ⟨g', 0, none⟩ xs.length cap (intC xs) (by simp [intC]) hcell (by omega) (by unfold maxLen; omega) (by omega)
      refine ⟨v', W', hr, ?_, (Below.refl _ _).grown h8 (Nat.le_refl _) (fun k hk => by cases hk), fun k hk => Or.inr (NumsOwn.blk (show NumsOwn W' W.heap.size v' xs by unfold NumsOwn; simpa using h7) k hk)⟩
      refine NumsOwn.base (b := W.heap.size) ?_ (by omega)
      unfold NumsOwn
      simpa using h7
end Go.Proofs.YtendieoandclkaaDoor

namespace Go.Proofs.YtendieoandclkaaDoor
open Go.RowKit

/-- How many of the first n are not listed. -/
def cntU : Nat → (Nat → Bool) → Nat
  | 0, _ => 0
  | n + 1, g => (if g n = true then 0 else 1) + cntU n g
theorem cntU_same : ∀ (n : Nat) (g h : Nat → Bool), (∀ k, k < n → g k = h k) → cntU n g = cntU n h
  | 0, _, _, _ => rfl
  | n + 1, g, h, e => by
    unfold cntU
    rw [e n (Nat.lt_succ_self _), cntU_same n g h fun k hk => e k (by omega)]
theorem cntU_one : ∀ (n i : Nat) (g h : Nat → Bool), i < n → g i = false → h i = true → (∀ k, k ≠ i → h k = g k) → cntU n h + 1 = cntU n g
  | 0, _, _, _, hi, _, _, _ => absurd hi (Nat.not_lt_zero _)
  | n + 1, i, g, h, hi, h1, h2, h3 => by
    unfold cntU
    by_cases e : i = n
    · subst e
      rw [h1, h2, cntU_same i h g fun k hk => h3 k (by omega)]
      simp; omega
    · have := cntU_one n i g h (by omega) h1 h2 h3
      rw [h3 n (fun q => e q.symm)]
      omega
theorem cntU_zero : ∀ (n : Nat) (g : Nat → Bool), cntU n g = 0 → ∀ k, k < n → g k = true
  | 0, _, _, k, hk => absurd hk (Nat.not_lt_zero _)
  | n + 1, g, h, k, hk => by
    unfold cntU at h
    by_cases e : g n = true
    · by_cases q : k = n
      · rw [q]; exact e
      · exact cntU_zero n g (by omega) k (by omega)
    · rw [if_neg e] at h; omega
theorem cntU_all : ∀ (n : Nat) (g : Nat → Bool), (∀ k, k < n → g k = true) → cntU n g = 0
  | 0, _, _ => rfl
  | n + 1, g, h => by
    unfold cntU
    rw [if_pos (h n (Nat.lt_succ_self _)), cntU_all n g fun k hk => h k (by omega)]
theorem cntU_none : ∀ (n : Nat) (g : Nat → Bool), (∀ k, k < n → g k = false) → cntU n g = n
  | 0, _, _ => rfl
  | n + 1, g, h => by
    unfold cntU
    rw [h n (Nat.lt_succ_self _), cntU_none n g fun k hk => h k (by omega)]
    simp; omega
theorem getD_same (l : Array Bool) (j : Nat) (h : j < l.size) : l.getD j true = l.getD j false := by simp [h]
theorem getD_low {l : Array Bool} {j : Nat} (h : l.getD j true = false) : l.getD j false = false := by
  by_cases hj : j < l.size
  · rw [← getD_same l j hj]; exact h
  · simp [hj] at h
section
variable {P : Program} {ops : Array Oper} {Q : Exit → Act → World → Prop}
def bindsOn (o : Oper) (k : Nat) : Bool := o.after.any (fun e => Region.binds .any e && e.on == k)
/-- Each operation waits only for earlier ones; the last one for all. -/
def earlyB (ops : Array Oper) (n : Nat) : Bool :=
  (List.range (n + 1)).all (fun j => match ops[j]? with
    | some o => o.after.all (fun e => !Region.binds .any e || decide (e.on < j))
    | none => false) && (List.range n).all (fun k => match ops[n]? with
    | some o => bindsOn o k
    | none => false)
theorem any_of_inv2 {n : Nat} (hsz : ops.size = n + 1) (hE : earlyB ops n = true) {J : Array Bool → Act → World → Prop}
    (step : ∀ listed a w i, J listed a w → i ∈ Region.ready .any ops listed → i < n → wpOp P ops Q i (fun a' w' => J (listed.setIfInBounds i true) a' w') a w)
    (fin : ∀ listed a w, J listed a w → (∀ i, i < n → listed.getD i false = true) → wpOp P ops Q n (fun a' w' => Q .normal a' w') a w) :
    ∀ (f : Nat) (listed : Array Bool) (a : Act) (w : World), listed.size = n + 1 → listed.getD n false = false → cntU n (fun k => listed.getD k false) = f → J listed a w → wpAny P .any ops Q (f + 1) listed a w := by
  unfold earlyB at hE
  rw [Bool.and_eq_true] at hE
  obtain ⟨hE1, hE2⟩ := hE
  have early : ∀ j o, j ≤ n → ops[j]? = some o → ∀ e ∈ o.after, Region.binds .any e = true → e.on < j := fun j o hj ho e he hb => by
    have h := List.all_eq_true.1 hE1 j (List.mem_range.2 (by omega))
    rw [ho] at h
    have h2 := Array.all_eq_true'.1 h e he
    rw [hb] at h2
    simpa using h2
  have last : ∀ listed, n ∈ Region.ready .any ops listed → ∀ k, k < n → listed.getD k false = true := fun listed hr k hk => by
    obtain ⟨-, o, ho, hall⟩ := mem_ready.1 hr
    have h := List.all_eq_true.1 hE2 k (List.mem_range.2 hk)
    rw [ho] at h
    unfold bindsOn at h
    obtain ⟨e, he, hb⟩ := Array.any_eq_true'.1 h
    simp only [Bool.and_eq_true, beq_iff_eq] at hb
    rw [← hb.2]
    exact hall e he hb.1
  have isr : ∀ (listed : Array Bool) j, listed.size = n + 1 → j ≤ n → listed.getD j false = false → (∀ k, k < j → listed.getD k false = true) → j ∈ Region.ready .any ops listed := fun listed j hs hj hl hk => by
    have hlt : j < ops.size := by omega
    exact mem_ready.2 ⟨by rw [getD_same listed j (by omega)]; exact hl, ops[j], by simp [hlt], fun e he hb => hk _ (early j ops[j] hj (by simp [hlt]) e he hb)⟩
  have inb : ∀ listed i, i ∈ Region.ready .any ops listed → i ≤ n ∧ listed.getD i false = false := fun listed i hi => by
    obtain ⟨h1, o, ho, -⟩ := mem_ready.1 hi
    have : i < ops.size := (Array.getElem?_eq_some_iff.1 ho).1
    exact ⟨by omega, getD_low h1⟩
  intro f
  induction f with
  | zero =>
    intro listed a w hs hn hc hJ
    have hall := cntU_zero n _ hc
    have hr := isr listed n hs (Nat.le_refl _) hn hall
    refine ⟨fun h => (by rw [h] at hr; cases hr), fun i hi => ?_⟩
    obtain ⟨h1, h2⟩ := inb listed i hi
    have hin : i = n := by
      refine Classical.byContradiction fun hne => ?_
      rw [hall i (by omega)] at h2; cases h2
    subst hin
    refine wpOp_mono (fun a' w' h => ?_) (fin listed a w hJ hall)
    refine ⟨?_, h⟩
    refine List.eq_nil_iff_forall_not_mem.2 fun j hj => ?_
    obtain ⟨h3, h4⟩ := inb _ j hj
    by_cases e : j = i
    · subst e
      simp [hs] at h4
    · have := hall j (by omega)
      rw [Array.getD_eq_getD_getElem?, Array.getElem?_setIfInBounds_ne (fun q => e q.symm), ← Array.getD_eq_getD_getElem?] at h4
      rw [this] at h4; cases h4
  | succ f ih =>
    intro listed a w hs hn hc hJ
    refine ⟨fun h => ?_, fun i hi => ?_⟩
    · exfalso
      have hex : ∃ j, j < n ∧ listed.getD j false = false := by
        refine Classical.byContradiction fun hno => ?_
        have : cntU n (fun k => listed.getD k false) = 0 := cntU_all n _ fun k hk => by
          cases hb : listed.getD k false with
          | true => rfl
          | false => exact absurd ⟨k, hk, hb⟩ hno
        omega
      have hleast : ∀ m j, j ≤ m → j < n → listed.getD j false = false → ∃ j, j < n ∧ listed.getD j false = false ∧ ∀ k, k < j → listed.getD k false = true := by
        intro m
        induction m with
        | zero => intro j hj hjn hl; exact ⟨j, hjn, hl, fun k hk => by omega⟩
        | succ m ihm =>
          intro j hj hjn hl
          by_cases hsm : ∃ k, k < j ∧ listed.getD k false = false
          · obtain ⟨k, hk, hkl⟩ := hsm
            exact ihm k (by omega) (by omega) hkl
          · refine ⟨j, hjn, hl, fun k hk => ?_⟩
            cases hb : listed.getD k false with
            | true => rfl
            | false => exact absurd ⟨k, hk, hb⟩ hsm
      obtain ⟨j, hj, hl⟩ := hex
      obtain ⟨j, hj, hl, hk⟩ := hleast j j (Nat.le_refl _) hj hl
      have := isr listed j hs (by omega) hl hk
      rw [h] at this; cases this
    · obtain ⟨h1, h2⟩ := inb listed i hi
      have hin : i < n := by
        refine Nat.lt_of_le_of_ne h1 fun e => ?_
        subst e
        have := cntU_all i _ (last listed hi)
        omega
      refine wpOp_mono (fun a' w' h => ?_) (step listed a w i hJ hi hin)
      have hset : ∀ k, k ≠ i → (listed.setIfInBounds i true).getD k false = listed.getD k false := fun k hk => by
        rw [Array.getD_eq_getD_getElem?, Array.getElem?_setIfInBounds_ne (fun q => hk q.symm), ← Array.getD_eq_getD_getElem?]
      refine ih _ a' w' (by simp [hs]) (by rw [hset n (by omega)]; exact hn) ?_ h
      have := cntU_one n i (fun k => listed.getD k false) (fun k => (listed.setIfInBounds i true).getD k false) hin h2 (by simp [hs]; omega) hset
      omega
theorem wp_region_inv2 {id : Nat} {a : Act} {w : World} {l : List Oper} (n : Nat) (hm : P.follows .mixedOrders = true) (hn : l.toArray.size = n + 1) (hE : earlyB l.toArray n = true) (J : Array Bool → Act → World → Prop)
    (start : J (Array.replicate l.toArray.size false) a w.drew)
    (step : ∀ listed a w i, J listed a w → i ∈ Region.ready .any l.toArray listed → i < n → wpOp P l.toArray Q i (fun a' w' => J (listed.setIfInBounds i true) a' w') a w)
    (fin : ∀ listed a w, J listed a w → (∀ i, i < n → listed.getD i false = true) → wpOp P l.toArray Q n (fun a' w' => Q .normal a' w') a w) : (Code.region id l.toArray true).wp P Q a w := by
  refine wp_region_any hm ?_
  rw [hn] at start
  have H := any_of_inv2 hn hE step fin n (Array.replicate (n + 1) false) a w.drew (by simp) (by simp) (cntU_none n _ fun k hk => by simp [show k < n + 1 by omega]) start
  rw [hn]
  exact H
theorem wpOp_of_list {i : Nat} {o : Oper} {a : Act} {w : World} {K : Act → World → Prop} (hi : ops[i]? = some o) (hg : o.guard = none) (h : wpList P ops Q [o] a w) (hK : ∀ a w, Q .normal a w → K a w) : wpOp P ops Q i K a w := by
  unfold wpOp
  simp only [hi]
  rw [if_pos (by simp [Region.wanted, hg])]
  rw [wpList, if_pos (by simp [Region.wanted, hg])] at h
  exact h.imp (fun h => Oper.wp_mono (fun a' w' hh => hK _ _ hh) h) id
end
end Go.Proofs.YtendieoandclkaaDoor

namespace Go.Proofs.YtendieoandclkaaDoor
open Go.RowKit
open Pl

theorem rep_len5 {m acc : Nat} {rs : List Rl} (hl : rs.length ≤ 12) (hv : validB m acc rs = true) : (repC m acc rs).dead.length ≤ 12 ∧ (repC m acc rs).stuck.length ≤ 8 ∧ (repC m acc rs).endless.length ≤ 8 := by
  obtain ⟨⟨hm1, hm8⟩, hr, -, -⟩ := valid_in hv
  unfold repC
  rw [if_pos hv]
  have h1 := pickN_len (deadK (rMs m rs) (lMs m acc rs)) rs rs.length
  have h2 := stuckC_short (acc := acc) hr hm1
  have h3 := endC_short (u := rMs m rs &&& lMs m acc rs) hr m (Nat.le_refl _)
  refine ⟨by show (pickN _ rs rs.length).length ≤ _; omega, ?_, ?_⟩
  · show (ints (stuckC m acc rs)).length ≤ _
    rw [ints_len]; omega
  · show (ints (endlessC m acc rs)).length ≤ _
    rw [ints_len]; unfold endlessC; omega
theorem rep_len4 {m acc : Nat} {rs : List Rl} (hl : rs.length ≤ 12) (hv : validB m acc rs = true) : (repC m acc rs).dead.length ≤ 10000 ∧ (repC m acc rs).stuck.length ≤ 10000 ∧ (repC m acc rs).endless.length ≤ 10000 := by
  have h := rep_len5 hl hv
  omega
theorem own_ne_rp {W : World} {b : Nat} {v : Value} {xs : List Int} {g : Nat} {c0 c1 c2 : Value} (h : NumsOwn W b v xs) (hr : RpBlock W g c0 c1 c2) : ∀ k, v.ownBlock = some k → k ≠ g := by
  intro k hk e
  subst e
  rcases h.2 with ⟨rfl, _⟩ | ⟨g', cap, cur, rfl, _, hh, _⟩
  · cases hk
  · obtain rfl : g' = k := by cases hk; rfl
    unfold RpBlock at hr
    rw [hr] at hh
    have h3 := Option.some.inj hh
    injection h3 with _ h4 _
    exact absurd h4 (by decide)
theorem NumsOwn.keptRow {W W' : World} {base : Nat} {v : Value} {xs : List Int} {row : Option Nat} (h : NumsOwn W base v xs) (hg : W.grownBy W' row) (hne : ∀ k, v.ownBlock = Option.some k → row ≠ Option.some k) : NumsOwn W' base v xs := by
  refine ⟨h.1, ?_⟩
  rcases h.2 with h0 | ⟨g, cap, cur, rfl, hg2, hh, h1, h2, h3, h4⟩
  · exact Or.inl h0
  · exact Or.inr ⟨g, cap, cur, rfl, hg2, by rw [hg.block g (lt_of_heap hh) (fun e => hne g rfl e.symm)]; exact hh, h1, h2, h3, h4⟩
theorem NumsOwn.setNe {W : World} {base g i : Nat} {v u : Value} {xs : List Int} (h : NumsOwn W base v xs) (hne : ∀ k, v.ownBlock = Option.some k → k ≠ g) : NumsOwn (W.setCell ⟨g, i, Option.none⟩ u) base v xs := by
  refine ⟨h.1, ?_⟩
  rcases h.2 with h0 | ⟨g', cap, cur, rfl, hg2, hh, h1, h2, h3, h4⟩
  · exact Or.inl h0
  · exact Or.inr ⟨g', cap, cur, rfl, hg2, by rw [heap_setCell_other _ _ _ _ (hne g' rfl)]; exact hh, h1, h2, h3, h4⟩
theorem held_done_as {P : Program} {ops : Array Oper} {md : Region.Mode} {S : World → Prop} {Q : Exit → Act → World → Prop} {fuel : Nat} {listed : Array Bool} {a : Act} {w : World} {b : Act} (hr : Region.ready md ops listed = []) (hab : a = b) (h : Q .normal b w) : wpAnyH P md ops Q S fuel listed a w :=
  held_done hr (by rw [hab]; exact h)
def I3Block (W : World) (b : Nat) (x y z : Int) : Prop := W.heap[b]? = some (.cells #[.int .i8 x, .int .i8 y, .int .i8 z] 46 (0, 0))
theorem I3Block.below {W W' : World} {b : Nat} {x y z : Int} (h : I3Block W b x y z) (hb : Below W.heap.size W W') : I3Block W' b x y z := by
  have hlt := lt_of_heap h
  unfold I3Block at h ⊢; rw [hb.block b hlt]; exact h
theorem I3Block.cells {W : World} {b : Nat} {x y z : Int} (h : I3Block W b x y z) : W.cell? ⟨b, 0, none⟩ = some (.int .i8 x) ∧ W.cell? ⟨b, 1, none⟩ = some (.int .i8 y) ∧ W.cell? ⟨b, 2, none⟩ = some (.int .i8 z) := by
  unfold I3Block at h
  exact ⟨by simp [World.cell?, h], by simp [World.cell?, h], by simp [World.cell?, h]⟩
theorem none_listed {n j : Nat} (h : (Array.replicate n false).getD j false = true) : False := by
  by_cases hj : j < n
  · simp [hj] at h
  · simp [hj] at h
theorem ready_dep {ops : Array Oper} {listed : Array Bool} {i k : Nat} {o : Oper} (h : i ∈ Region.ready .any ops listed) (ho : ops[i]? = some o) (hk : o.after.any (fun e => Region.binds .any e && e.on == k) = true) : listed.getD k false = true := by
  obtain ⟨-, o', ho', hall⟩ := mem_ready.1 h
  obtain rfl : o' = o := Option.some.inj (ho'.symm.trans ho)
  obtain ⟨e, he, hb⟩ := Array.any_eq_true'.1 hk
  simp only [Bool.and_eq_true, beq_iff_eq] at hb
  rw [← hb.2]
  exact hall e he hb.1
def upd (f : Nat → Value) (i : Nat) (v : Value) : Nat → Value := fun j => if j = i then v else f j
/-- Two slices share no block. -/
def DJ (v u : Value) : Prop := ∀ k, v.ownBlock = some k → u.ownBlock ≠ some k
def RepSep (W : World) (base : Nat) (v : Value) (r : Rep) : Prop := ∃ a1 a2 a3 c1 c2 c3, v = .agg #[.slice a1 r.dead.length c1, .slice a2 r.stuck.length c2, .slice a3 r.endless.length c3] ∧
  (NumsOwn W base (.slice a1 r.dead.length c1) r.dead ∧ NumsOwn W base (.slice a2 r.stuck.length c2) r.stuck ∧ NumsOwn W base (.slice a3 r.endless.length c3) r.endless) ∧
  DJ (.slice a1 r.dead.length c1) (.slice a2 r.stuck.length c2) ∧ DJ (.slice a1 r.dead.length c1) (.slice a3 r.endless.length c3) ∧ DJ (.slice a2 r.stuck.length c2) (.slice a3 r.endless.length c3)
def Grp : Nat → Option Nat
  | 0 => some 0
  | 3 => some 0
  | 4 => some 1
  | 7 => some 1
  | 8 => some 2
  | 11 => some 2
  | _ => none
/-- What the clones of a report are, one operation after the other. -/
def CFact (base gr : Nat) (s1 s2 s3 : Value) (r : Rep) (W : World) : Nat → Value → Prop
  | 0, v => ∃ g, v = .slice (some ⟨g, 0, none⟩) 0 0 ∧ base ≤ g ∧ W.heap[g]? = some (.cells #[] 3 (0, 0))
  | 1, v => v = .pointer (some ⟨gr, 0, none⟩)
  | 2, v => v = s1
  | 3, v => NumsOwn W base v r.dead
  | 4, v => ∃ g, v = .slice (some ⟨g, 0, none⟩) 0 0 ∧ base ≤ g ∧ W.heap[g]? = some (.cells #[] 3 (0, 0))
  | 5, v => v = .pointer (some ⟨gr, 1, none⟩)
  | 6, v => v = s2
  | 7, v => NumsOwn W base v r.stuck
  | 8, v => ∃ g, v = .slice (some ⟨g, 0, none⟩) 0 0 ∧ base ≤ g ∧ W.heap[g]? = some (.cells #[] 3 (0, 0))
  | 9, v => v = .pointer (some ⟨gr, 2, none⟩)
  | 10, v => v = s3
  | 11, v => NumsOwn W base v r.endless
  | 12, v => RepSep W base v r
  | 13, v => ∃ g, v = .pointer (some ⟨g, 0, none⟩) ∧ base ≤ g ∧ RpBlock W g (.slice none 0 0) (.slice none 0 0) (.slice none 0 0)
  | _, _ => True
theorem RepSep.below {W W' : World} {base : Nat} {v : Value} {r : Rep} (h : RepSep W base v r) (hb : Below W.heap.size W W') : RepSep W' base v r := by
  obtain ⟨a1, a2, a3, c1, c2, c3, rfl, ⟨h1, h2, h3⟩, h4⟩ := h
  exact ⟨a1, a2, a3, c1, c2, c3, rfl, ⟨h1.below hb, h2.below hb, h3.below hb⟩, h4⟩
theorem CFact.below {base gr : Nat} {s1 s2 s3 : Value} {r : Rep} {W W' : World} (hb : Below W.heap.size W W') : ∀ (j : Nat) (v : Value), CFact base gr s1 s2 s3 r W j v → CFact base gr s1 s2 s3 r W' j v := by
  have hE : ∀ v : Value, (∃ g, v = .slice (some ⟨g, 0, none⟩) 0 0 ∧ base ≤ g ∧ W.heap[g]? = some (.cells #[] 3 (0, 0))) → ∃ g, v = .slice (some ⟨g, 0, none⟩) 0 0 ∧ base ≤ g ∧ W'.heap[g]? = some (.cells #[] 3 (0, 0)) := fun v ⟨g, h1, h2, h3⟩ => ⟨g, h1, h2, by rw [hb.block g (lt_of_heap h3)]; exact h3⟩
  intro j v h
  match j, h with
  | 0, h => exact hE v h
  | 1, h => exact h
  | 2, h => exact h
  | 3, h => exact NumsOwn.below h hb
  | 4, h => exact hE v h
  | 5, h => exact h
  | 6, h => exact h
  | 7, h => exact NumsOwn.below h hb
  | 8, h => exact hE v h
  | 9, h => exact h
  | 10, h => exact h
  | 11, h => exact NumsOwn.below h hb
  | 12, h => exact RepSep.below h hb
  | 13, h => obtain ⟨g, h1, h2, h3⟩ := h; exact ⟨g, h1, h2, h3.below hb⟩
  | _ + 14, _ => trivial
theorem CFact.lt {base gr : Nat} {s1 s2 s3 : Value} {r : Rep} {W : World} : ∀ (j : Nat) (v : Value) (b : Nat), Grp j = some b → CFact base gr s1 s2 s3 r W j v → ∀ k, v.ownBlock = some k → k < W.heap.size := by
  have hE : ∀ v : Value, (∃ g, v = .slice (some ⟨g, 0, none⟩) 0 0 ∧ base ≤ g ∧ W.heap[g]? = some (.cells #[] 3 (0, 0))) → ∀ k, v.ownBlock = some k → k < W.heap.size := fun v ⟨g, h1, h2, h3⟩ k hk => by
    subst h1
    cases hk
    exact lt_of_heap h3
  intro j v b hb h
  match j, hb, h with
  | 0, _, h => exact hE v h
  | 3, _, h => exact NumsOwn.lt h
  | 4, _, h => exact hE v h
  | 7, _, h => exact NumsOwn.lt h
  | 8, _, h => exact hE v h
  | 11, _, h => exact NumsOwn.lt h
/-- What holds of all that has been listed. -/
def CAll (base gr : Nat) (s1 s2 s3 : Value) (r : Rep) (listed : Array Bool) (W : World) (f : Nat → Value) : Prop :=
  (∀ j, j < 14 → listed.getD j false = true → CFact base gr s1 s2 s3 r W j (f j)) ∧
  ∀ i j b c, i < 14 → j < 14 → listed.getD i false = true → listed.getD j false = true → Grp i = some b → Grp j = some c → b ≠ c → DJ (f i) (f j)
/-- One operation more. -/
theorem cstep {base gr : Nat} {s1 s2 s3 : Value} {r : Rep} {x W W' : World} {listed : Array Bool} {f : Nat → Value} {i : Nat} {v : Value} (hx : Below base x W) (hxs : base ≤ W.heap.size) (hF : CAll base gr s1 s2 s3 r listed W f) (hb : Below W.heap.size W W') (hv : CFact base gr s1 s2 s3 r W' i v)
    (hD : ∀ b, Grp i = some b → ∀ k, v.ownBlock = some k → W.heap.size ≤ k ∨ ∃ p, p < 14 ∧ listed.getD p false = true ∧ Grp p = some b ∧ (f p).ownBlock = some k) :
    Below base x W' ∧ CAll base gr s1 s2 s3 r (listed.setIfInBounds i true) W' (upd f i v) := by
  have hsep : ∀ j b c, j < 14 → listed.getD j false = true → Grp i = some b → Grp j = some c → b ≠ c → ∀ k, v.ownBlock = some k → (f j).ownBlock ≠ some k := fun j b c hj hl hgi hgj hne k hk e => by
    rcases hD b hgi k hk with h | ⟨p, hp, hlp, hgp, hkp⟩
    · have := CFact.lt j _ c hgj (hF.1 j hj hl) k e
      omega
    · exact hF.2 p j b c hp hj hlp hl hgp hgj hne k hkp e
  refine ⟨hx.trans (hb.mono hxs), fun j hj hl => ?_, fun a j b c ha hj hla hlj hga hgj hne k hk => ?_⟩
  · unfold upd
    by_cases e : j = i
    · rw [if_pos e, e]; exact hv
    · rw [if_neg e]
      exact CFact.below hb j _ (hF.1 j hj ((listed_set hl).resolve_left (fun h => e h.symm)))
  · unfold upd at hk ⊢
    by_cases ea : a = i
    · by_cases ej : j = i
      · rw [ea] at hga; rw [ej, hga] at hgj
        exact absurd (Option.some.inj hgj) hne
      · rw [if_pos ea] at hk
        rw [if_neg ej]
        exact hsep j b c hj ((listed_set hlj).resolve_left (fun h => ej h.symm)) (by rw [← ea]; exact hga) hgj hne k hk
    · rw [if_neg ea] at hk
      by_cases ej : j = i
      · rw [if_pos ej]
        intro e
        exact hsep a c b ha ((listed_set hla).resolve_left (fun h => ea h.symm)) (by rw [← ej]; exact hgj) hga (fun h => hne h.symm) k e hk
      · rw [if_neg ej]
        exact hF.2 a j b c ha hj ((listed_set hla).resolve_left (fun h => ea h.symm)) ((listed_set hlj).resolve_left (fun h => ej h.symm)) hga hgj hne k hk
set_option maxHeartbeats 4000000 in
set_option maxRecDepth 100000 in
theorem FlawProves_any (M A : Nat) (ma : Option Addr) (mn mc : Nat) (y0 y1 y2 : Int) (w : World) (hT : StrTab w) (h0 : 0 < w.heap.size) (hM : M < 256) (hA : A < 256) (hx : TrisAt w w.heap.size (.slice ma mn mc) mn) (hl : mn ≤ maxLen) (hy1 : -128 ≤ y1 ∧ y1 ≤ 127) (hy2 : -128 ≤ y2 ∧ y2 ≤ 127) :
    Calls Tryd.prog 4 #[.agg #[.int .u8 (M : Nat), .int .u8 (A : Nat), .slice ma mn mc], .agg #[.int .i8 y0, .int .i8 y1, .int .i8 y2]] w fun e w' => e = .returned (.bool true) ∧ Below w.heap.size w w' := by
  have b1 := (Below.refl w.heap.size w).alloc (Nat.le_refl _) (.cells #[.int .u8 (M : Nat), .int .u8 (A : Nat), .slice ma mn mc] 24)
  have b2 := b1.alloc b1.size (.cells #[.int .i8 y0, .int .i8 y1, .int .i8 y2] 46)
  have al2 := ((Below.refl (w.alloc (.cells #[.int .u8 (M : Nat), .int .u8 (A : Nat), .slice ma mn mc] 24)).heap.size _).alloc (Nat.le_refl _) (.cells #[.int .i8 y0, .int .i8 y1, .int .i8 y2] 46))
  have e1 : (w.alloc (.cells #[.int .u8 (M : Nat), .int .u8 (A : Nat), .slice ma mn mc] 24)).heap.size = w.heap.size + 1 := World.size_alloc _ _
  have hrw : I3Block ((w.alloc (.cells #[.int .u8 (M : Nat), .int .u8 (A : Nat), .slice ma mn mc] 24)).alloc (.cells #[.int .i8 y0, .int .i8 y1, .int .i8 y2] 46)) (w.heap.size + 1) y0 y1 y2 := by rw [← e1]; exact heap_alloc_new _ _
  have R1 := Lib.hid ((FRBlock.new w (.int .u8 (M : Nat)) (.int .u8 (A : Nat)) (.slice ma mn mc)).below al2)
  have Y1 := Lib.hid hrw
  have B1 := Lib.hid b2
  have HX := Lib.hid hx
  have HT := Lib.hid hT
  have H0 := Lib.hid h0
  clear hx hT h0 b1 b2 e1 al2 hrw
  go_enter Tryd.func4, Tryd.ntmps4
  go_upto_region 1 with fail
  generalize (w.alloc _).alloc _ = x1 at *
  go_wp2_with fail
  refine (San_any x1 (HT.out.below B1.out H0.out) (Nat.lt_of_lt_of_le H0.out B1.out.size)).mono ?_
  rintro e x2 ⟨rfl, hb⟩
  have R2 := Lib.hid (R1.out.below hb)
  have Y2 := Lib.hid (Y1.out.below hb)
  have B2 := Lib.hid (B1.out.trans (hb.mono B1.out.size))
  clear hb R1 Y1 B1
  obtain ⟨r0, r1, r2⟩ := R2.out.cells
  go_wp2_with fail
  refine (FMade_any M A ma mn mc x2 hM hA (HX.out.on B2.out) hl).mono ?_
  rintro e x3 ⟨m, acc, rs, va, vc, rfl, hm, h256, hv, hl12, hown, hb⟩
  have HV := Lib.hid hv
  have Y3 := Lib.hid (Y2.out.below hb)
  have B3 := Lib.hid (B2.out.trans (hb.mono B2.out.size))
  obtain ⟨aa, cc, hvv, hcap, hat⟩ := hown.at
  obtain ⟨rfl, rfl⟩ : va = aa ∧ vc = cc := by simpa using hvv
  have XS3 := Lib.hid hat
  clear hvv hat hown hb R2 Y2 B2 r0 r1 r2
  have HZ := Lib.hid (show ∀ x ∈ rs, x.inp.length ≤ maxLen ∧ x.out.length ≤ maxLen from fun x hx => by
    obtain ⟨kk, hkk, rfl⟩ := List.getElem_of_mem hx
    have h := ((valid_ok HV.out).2.2.2.2 kk hkk).1
    have h1 := h.i
    have h2 := h.o
    unfold maxLen
    omega)
  obtain ⟨gs, hgs⟩ : ∃ g, g = x3.heap.size := ⟨_, rfl⟩
  have NB := SchBlock.new x3 (.int .i64 0) (.int .u8 0) (.slice none 0 0)
  have AL := Lib.hid ((Below.refl x3.heap.size x3).alloc (Nat.le_refl _) (.cells #[.int .i64 0, .int .u8 0, .slice none 0 0] 33))
  go_upto_region 3 with (first | (refine wpList_store_sch rfl _ _ rfl _ _ _ _ NB rfl (m : Int) (acc : Int) va rs.length vc rfl ?_; intro W4 SB hg' hs'; clear NB))
  have hbb := AL.out.grown hg' AL.out.size (by simp)
  have XS4 := Lib.hid ((show RlsAt x3 x3.heap.size (.slice va rs.length vc) rs from XS3.out).on hbb)
  have Y4 := Lib.hid (Y3.out.below hbb)
  have B4 := Lib.hid (B3.out.trans (hbb.mono B3.out.size))
  have S4 := Lib.hid SB
  clear hbb hg' hs' SB AL XS3 Y3 B3
  rw [← hgs] at S4
  rw [← hgs]
  clear hgs
  obtain ⟨s0, s1, s2⟩ := S4.out.cells
  go_wp2_with fail
  refine (RFind_own m acc va vc rs W4 h256 XS4.out (by omega) HZ.out).mono ?_
  rintro e x5 ⟨v, rfl, hrep, hb⟩
  obtain ⟨a1, a2, a3, c1, c2, c3, rfl, n1, n2, n3⟩ := hrep
  obtain ⟨rp, hrp⟩ : ∃ rp, rp = repC m acc rs := ⟨_, rfl⟩
  have HRP := Lib.hid hrp
  have hl5 : rp.dead.length ≤ 12 ∧ rp.stuck.length ≤ 8 ∧ rp.endless.length ≤ 8 := by rw [hrp]; exact rep_len5 (by omega) HV.out
  have hln : rp.dead.length ≤ 10000 ∧ rp.stuck.length ≤ 10000 ∧ rp.endless.length ≤ 10000 := by rw [hrp]; exact rep_len4 (by omega) HV.out
  rw [← hrp] at n1 n2 n3 ⊢
  have XS5 := Lib.hid (XS4.out.on hb)
  have Y5 := Lib.hid (Y4.out.below hb)
  have S5 := Lib.hid (S4.out.below hb)
  have B5 := Lib.hid (B4.out.trans (hb.mono B4.out.size))
  have N1 := Lib.hid n1
  have N2 := Lib.hid n2
  have N3 := Lib.hid n3
  clear hb XS4 Y4 S4 B4 n1 n2 n3 hrp s0 s1 s2
  obtain ⟨gr, hgr⟩ : ∃ g, g = x5.heap.size := ⟨_, rfl⟩
  have NB := RpBlock.new x5 (.slice none 0 0) (.slice none 0 0) (.slice none 0 0)
  have AL := Lib.hid ((Below.refl x5.heap.size x5).alloc (Nat.le_refl _) (.cells #[.slice none 0 0, .slice none 0 0, .slice none 0 0] 40))
  go_upto_region 4 with (first | (refine wpList_store_rp rfl _ _ rfl _ _ _ _ NB rfl a1 a2 a3 rp.dead.length rp.stuck.length rp.endless.length c1 c2 c3 rfl ?_; intro W6 RB hg' hs'; clear NB))
  have hbb := AL.out.grown hg' AL.out.size (by simp)
  have XS6 := Lib.hid (XS5.out.on hbb)
  have Y6 := Lib.hid (Y5.out.below hbb)
  have S6 := Lib.hid (S5.out.below hbb)
  have B6 := Lib.hid (B5.out.trans (hbb.mono B5.out.size))
  have N16 := Lib.hid (N1.out.below hbb)
  have N26 := Lib.hid (N2.out.below hbb)
  have N36 := Lib.hid (N3.out.below hbb)
  have RP6 := Lib.hid RB
  clear hbb hg' hs' RB AL XS5 Y5 S5 B5 N1 N2 N3
  rw [← hgr] at RP6
  rw [← hgr]
  clear hgr
  have FS := Lib.hid (show ∀ W, Below W6.heap.size W6 W → W.cell? ⟨gr, 0, none⟩ = some (.slice a1 rp.dead.length c1) ∧ W.cell? ⟨gr, 1, none⟩ = some (.slice a2 rp.stuck.length c2) ∧ W.cell? ⟨gr, 2, none⟩ = some (.slice a3 rp.endless.length c3) from fun W h => (RP6.out.below h).cells)
  refine wp_normal ?_
  refine wp_region_inv2 14 (by kernel_rfl) (by kernel_rfl) (by kernel_rfl) (fun listed a W => ∃ f : Nat → Value, a = ({ tmps := #[Value.agg #[Value.int IntKind.u8 ↑M, Value.int IntKind.u8 ↑A, Value.slice ma mn mc], Value.agg #[Value.int IntKind.i8 y0, Value.int IntKind.i8 y1, Value.int IntKind.i8 y2], Value.pointer (some { block := w.heap.size, off := 0 }), Value.pointer (some { block := w.heap.size + 1, off := 0 }), Value.bool false, Value.bool true, Value.pointer (some { block := gs, off := 0 }), Value.pointer (some { block := gr, off := 0 }), f 13, undef, Value.bool true, Value.agg #[Value.int IntKind.u8 ↑M, Value.int IntKind.u8 ↑A, Value.slice ma mn mc], Value.agg #[Value.int IntKind.i64 ↑m, Value.int IntKind.u8 ↑acc, Value.slice va rs.length vc], Value.agg #[Value.int IntKind.i64 ↑m, Value.int IntKind.u8 ↑acc, Value.slice va rs.length vc], Value.agg #[Value.slice a1 rp.dead.length c1, Value.slice a2 rp.stuck.length c2, Value.slice a3 rp.endless.length c3], f 0, f 1, f 2, f 3, f 4, f 5, f 6, f 7, f 8, f 9, f 10, f 11, f 12, undef, undef, undef, undef, undef, undef, undef, undef, undef, undef, undef, undef, undef, undef, undef, undef, undef, undef, undef, undef, undef, undef, undef, undef, undef, undef, undef, undef, undef, undef, undef, undef, undef, undef, undef, undef, undef, undef, undef, undef, undef, undef, undef, undef, undef, undef, undef, undef, undef, undef, undef, undef, undef, undef, undef, undef, undef, undef, undef, undef], defers := [] } : Act) ∧ Below W6.heap.size W6 W ∧ CAll W6.heap.size gr (.slice a1 rp.dead.length c1) (.slice a2 rp.stuck.length c2) (.slice a3 rp.endless.length c3) rp listed W f) ?_ ?_ ?_
  · exact ⟨fun _ => undef, rfl, (Below.refl _ _).drew, fun j _ h => (none_listed h).elim, fun i j b c _ _ h => (none_listed h).elim⟩
  · rintro listed a W i ⟨f, rfl, hb, hF⟩ hr hi
    have hbs : W6.heap.size ≤ W.heap.size := hb.size
    obtain ⟨f0, f1, f2⟩ := FS.out W hb
    have hE := heap_alloc_new W (.cells #[] 3)
    have hal := (Below.refl W.heap.size W).alloc (Nat.le_refl _) (.cells #[] 3)
    rcases (show i = 0 ∨ i = 1 ∨ i = 2 ∨ i = 3 ∨ i = 4 ∨ i = 5 ∨ i = 6 ∨ i = 7 ∨ i = 8 ∨ i = 9 ∨ i = 10 ∨ i = 11 ∨ i = 12 ∨ i = 13 by omega) with rfl | rfl | rfl | rfl | rfl | rfl | rfl | rfl | rfl | rfl | rfl | rfl | rfl | rfl
    · exact wpOp_value (w' := W.alloc (.cells #[] 3)) (.slice (some ⟨W.heap.size, 0, none⟩) 0 0) rfl rfl (by go_simp) ⟨upd f 0 (.slice (some ⟨W.heap.size, 0, none⟩) 0 0), by kernel_rfl, cstep hb hbs hF hal ⟨_, rfl, hbs, hE⟩ (fun b _ k hk => Or.inl (by cases hk; exact Nat.le_refl _))⟩
    · exact wpOp_value (w' := W) (.pointer (some ⟨gr, 0, none⟩)) rfl rfl (by go_simp) ⟨upd f 1 (.pointer (some ⟨gr, 0, none⟩)), by kernel_rfl, cstep hb hbs hF (Below.refl _ _) rfl (fun b hg => by cases hg)⟩
    · have d0 : f 1 = _ := hF.1 1 (by decide) (ready_dep hr rfl (k := 1) (by kernel_rfl))
      exact wpOp_value (w' := W) (.slice a1 rp.dead.length c1) rfl rfl (by rw [d0]; go_simp) ⟨upd f 2 (.slice a1 rp.dead.length c1), by kernel_rfl, cstep hb hbs hF (Below.refl _ _) rfl (fun b hg => by cases hg)⟩
    · obtain ⟨g, d0, hg1, hg2⟩ := hF.1 0 (by decide) (ready_dep hr rfl (k := 0) (by kernel_rfl))
      have d1 : f 2 = _ := hF.1 2 (by decide) (ready_dep hr rfl (k := 2) (by kernel_rfl))
      obtain ⟨v', W', hrun, hown, hbb, hnw⟩ := clone_run hg2 hg1 (N16.out.below hb) hln.1
      exact wpOp_value (w' := W') v' rfl rfl (by rw [d0, d1]; simp [execOp, resolve, invoke, builtin, Act.eval, hrun, Result.andThen]) ⟨upd f 3 v', by kernel_rfl, cstep hb hbs hF hbb hown (fun b hg k hk => (hnw k hk).elim (fun e => Or.inr ⟨0, by decide, ready_dep hr rfl (k := 0) (by kernel_rfl), hg, by rw [d0, e]; rfl⟩) Or.inl)⟩
    · exact wpOp_value (w' := W.alloc (.cells #[] 3)) (.slice (some ⟨W.heap.size, 0, none⟩) 0 0) rfl rfl (by go_simp) ⟨upd f 4 (.slice (some ⟨W.heap.size, 0, none⟩) 0 0), by kernel_rfl, cstep hb hbs hF hal ⟨_, rfl, hbs, hE⟩ (fun b _ k hk => Or.inl (by cases hk; exact Nat.le_refl _))⟩
    · exact wpOp_value (w' := W) (.pointer (some ⟨gr, 1, none⟩)) rfl rfl (by go_simp) ⟨upd f 5 (.pointer (some ⟨gr, 1, none⟩)), by kernel_rfl, cstep hb hbs hF (Below.refl _ _) rfl (fun b hg => by cases hg)⟩
    · have d0 : f 5 = _ := hF.1 5 (by decide) (ready_dep hr rfl (k := 5) (by kernel_rfl))
      exact wpOp_value (w' := W) (.slice a2 rp.stuck.length c2) rfl rfl (by rw [d0]; go_simp) ⟨upd f 6 (.slice a2 rp.stuck.length c2), by kernel_rfl, cstep hb hbs hF (Below.refl _ _) rfl (fun b hg => by cases hg)⟩
    · obtain ⟨g, d0, hg1, hg2⟩ := hF.1 4 (by decide) (ready_dep hr rfl (k := 4) (by kernel_rfl))
      have d1 : f 6 = _ := hF.1 6 (by decide) (ready_dep hr rfl (k := 6) (by kernel_rfl))
      obtain ⟨v', W', hrun, hown, hbb, hnw⟩ := clone_run hg2 hg1 (N26.out.below hb) hln.2.1
      exact wpOp_value (w' := W') v' rfl rfl (by rw [d0, d1]; simp [execOp, resolve, invoke, builtin, Act.eval, hrun, Result.andThen]) ⟨upd f 7 v', by kernel_rfl, cstep hb hbs hF hbb hown (fun b hg k hk => (hnw k hk).elim (fun e => Or.inr ⟨4, by decide, ready_dep hr rfl (k := 4) (by kernel_rfl), hg, by rw [d0, e]; rfl⟩) Or.inl)⟩
    · exact wpOp_value (w' := W.alloc (.cells #[] 3)) (.slice (some ⟨W.heap.size, 0, none⟩) 0 0) rfl rfl (by go_simp) ⟨upd f 8 (.slice (some ⟨W.heap.size, 0, none⟩) 0 0), by kernel_rfl, cstep hb hbs hF hal ⟨_, rfl, hbs, hE⟩ (fun b _ k hk => Or.inl (by cases hk; exact Nat.le_refl _))⟩
    · exact wpOp_value (w' := W) (.pointer (some ⟨gr, 2, none⟩)) rfl rfl (by go_simp) ⟨upd f 9 (.pointer (some ⟨gr, 2, none⟩)), by kernel_rfl, cstep hb hbs hF (Below.refl _ _) rfl (fun b hg => by cases hg)⟩
    · have d0 : f 9 = _ := hF.1 9 (by decide) (ready_dep hr rfl (k := 9) (by kernel_rfl))
      exact wpOp_value (w' := W) (.slice a3 rp.endless.length c3) rfl rfl (by rw [d0]; go_simp) ⟨upd f 10 (.slice a3 rp.endless.length c3), by kernel_rfl, cstep hb hbs hF (Below.refl _ _) rfl (fun b hg => by cases hg)⟩
    · obtain ⟨g, d0, hg1, hg2⟩ := hF.1 8 (by decide) (ready_dep hr rfl (k := 8) (by kernel_rfl))
      have d1 : f 10 = _ := hF.1 10 (by decide) (ready_dep hr rfl (k := 10) (by kernel_rfl))
      obtain ⟨v', W', hrun, hown, hbb, hnw⟩ := clone_run hg2 hg1 (N36.out.below hb) hln.2.2
      exact wpOp_value (w' := W') v' rfl rfl (by rw [d0, d1]; simp [execOp, resolve, invoke, builtin, Act.eval, hrun, Result.andThen]) ⟨upd f 11 v', by kernel_rfl, cstep hb hbs hF hbb hown (fun b hg k hk => (hnw k hk).elim (fun e => Or.inr ⟨8, by decide, ready_dep hr rfl (k := 8) (by kernel_rfl), hg, by rw [d0, e]; rfl⟩) Or.inl)⟩
    · have o1 := hF.1 3 (by decide) (ready_dep hr rfl (k := 3) (by kernel_rfl))
      have o2 := hF.1 7 (by decide) (ready_dep hr rfl (k := 7) (by kernel_rfl))
      have o3 := hF.1 11 (by decide) (ready_dep hr rfl (k := 11) (by kernel_rfl))
      obtain ⟨p1, q1, e1⟩ := NumsOwn.shape o1
      obtain ⟨p2, q2, e2⟩ := NumsOwn.shape o2
      obtain ⟨p3, q3, e3⟩ := NumsOwn.shape o3
      exact wpOp_value (w' := W) (.agg #[.slice p1 rp.dead.length q1, .slice p2 rp.stuck.length q2, .slice p3 rp.endless.length q3]) rfl rfl (by rw [e1, e2, e3]; go_simp) ⟨upd f 12 _, by kernel_rfl, cstep hb hbs hF (Below.refl _ _) ⟨p1, p2, p3, q1, q2, q3, rfl, ⟨by rw [← e1]; exact o1, by rw [← e2]; exact o2, by rw [← e3]; exact o3⟩, by rw [← e1, ← e2]; exact hF.2 3 7 0 1 (by decide) (by decide) (ready_dep hr rfl (k := 3) (by kernel_rfl)) (ready_dep hr rfl (k := 7) (by kernel_rfl)) rfl rfl (by decide), by rw [← e1, ← e3]; exact hF.2 3 11 0 2 (by decide) (by decide) (ready_dep hr rfl (k := 3) (by kernel_rfl)) (ready_dep hr rfl (k := 11) (by kernel_rfl)) rfl rfl (by decide), by rw [← e2, ← e3]; exact hF.2 7 11 1 2 (by decide) (by decide) (ready_dep hr rfl (k := 7) (by kernel_rfl)) (ready_dep hr rfl (k := 11) (by kernel_rfl)) rfl rfl (by decide)⟩ (fun b hg => by cases hg)⟩
    · exact wpOp_value (w' := W.alloc (.cells #[.slice none 0 0, .slice none 0 0, .slice none 0 0] 40)) (.pointer (some ⟨W.heap.size, 0, none⟩)) rfl rfl (by go_simp) ⟨upd f 13 (.pointer (some ⟨W.heap.size, 0, none⟩)), by kernel_rfl, cstep hb hbs hF ((Below.refl W.heap.size W).alloc (Nat.le_refl _) _) ⟨_, rfl, hbs, RpBlock.new W _ _ _⟩ (fun b hg => by cases hg)⟩
  rintro listed a W ⟨f, rfl, hb, hF⟩ hall
  obtain ⟨p1, p2, p3, q1, q2, q3, e12, ⟨o1, o2, o3⟩, hd12, hd13, hd23⟩ := hF.1 12 (by decide) (hall 12 (by decide))
  obtain ⟨g8, e13, hg8, rb8⟩ := hF.1 13 (by decide) (hall 13 (by decide))
  clear hF hall
  rw [e12, e13]
  clear e12 e13
  generalize f 0 = z0 at *
  generalize f 1 = z1 at *
  generalize f 2 = z2 at *
  generalize f 3 = z3 at *
  generalize f 4 = z4 at *
  generalize f 5 = z5 at *
  generalize f 6 = z6 at *
  generalize f 7 = z7 at *
  generalize f 8 = z8 at *
  generalize f 9 = z9 at *
  generalize f 10 = z10 at *
  generalize f 11 = z11 at *
  refine wpOp_of_list rfl rfl ?_ (fun _ _ h => h)
  refine wpList_store_rp rfl _ _ rfl _ _ _ _ rb8 rfl p1 p2 p3 _ _ _ q1 q2 q3 rfl ?_
  intro W7 RB hg' hs'
  refine ⟨rfl, ?_⟩
  have D7 := hb.grown hg' hb.size (fun k hk => by have := Option.some.inj hk; omega)
  have Q1 := Lib.hid (o1.keptBy hg' (own_ne_rp o1 rb8))
  have Q2 := Lib.hid (o2.keptBy hg' (own_ne_rp o2 rb8))
  have Q3 := Lib.hid (o3.keptBy hg' (own_ne_rp o3 rb8))
  have RQ := Lib.hid RB
  have Y7 := Lib.hid (Y6.out.below D7)
  have DD7 := Lib.hid D7
  have hgr8 : gr < g8 := Nat.lt_of_lt_of_le (lt_of_heap RP6.out) hg8
  have hgs8 : gs < g8 := Nat.lt_of_lt_of_le (lt_of_heap S6.out) hg8
  have hw8 : w.heap.size + 2 ≤ g8 := by have := lt_of_heap Y6.out; omega
  have hW7 : W6.heap.size ≤ W7.heap.size := D7.size
  have hg87 : g8 < W7.heap.size := lt_of_heap RB
  have J12 := Lib.hid hd12
  have J13 := Lib.hid hd13
  have J23 := Lib.hid hd23
  clear hd12 hd13 hd23 D7 hb o1 o2 o3 rb8 RB hg' hs' Y6 FS
  obtain ⟨i0, i1, i2⟩ := Y7.out.cells
  have wy1 : IntKind.i64.wrap y1 = y1 := IntWalk.i64_in _ (by omega)
  have wy2 : IntKind.i64.wrap y2 = y2 := IntWalk.i64_in _ (by omega)
  go_upto_region 8 with fail
  obtain ⟨q, hq, hq4⟩ : ∃ q : Nat, y0 % 256 % 4 = (q : Int) ∧ q < 4 := ⟨(y0 % 256 % 4).toNat, by omega, by omega⟩
  rw [hq]
  clear hq
  rcases (show q = 0 ∨ q = 1 ∨ q = 2 ∨ q = 3 by omega) with rfl | rfl | rfl | rfl
  · have A7 := Lib.hid ((Below.refl W7.heap.size W7).alloc (Nat.le_refl _) (.cells #[.int .i64 y1] 3))
    have Qa := Lib.hid (Q1.out.below A7.out)
    have RQa := Lib.hid (RQ.out.below A7.out)
    obtain ⟨t0, t1, t2⟩ := RQ.out.cells
    obtain ⟨t0', t1', t2'⟩ := RQa.out.cells
    obtain ⟨q, hq⟩ : ∃ q, q = rp.dead ++ [y1] := ⟨_, rfl⟩
    have HQ := Lib.hid hq
    clear hq
    go_upto_region 14 with (first | (at_builtin; refine wpList_append_nums rfl _ _ rfl W6.heap.size _ rp.dead rfl Qa.out W7.heap.size _ [y1] rfl (NumsOwn.one W7 y1) (by simp; omega) (by simp; omega) ?_; intro v8 W8 own8 grow8; rw [← HQ.out] at own8; obtain ⟨b1, d1, rfl⟩ := own8.shape; have RQ8 := Lib.hid (RQa.out.keptBy grow8 (fun e => own_ne_rp Qa.out RQa.out _ e rfl)); clear t0 t1 t2 t0' t1' t2'; obtain ⟨t0, -, -⟩ := RQ8.out.cells; have fz := RQ8.out.free 0) | fail)
    have D8 := DD7.out.trans ((A7.out.mono hW7).grown grow8 (by simp; omega) (fun x hx => Qa.out.blk x hx))
    have U2 := Lib.hid ((Q2.out.below A7.out).keptRow grow8 (fun x hx e => J12.out x e hx))
    have U3 := Lib.hid ((Q3.out.below A7.out).keptRow grow8 (fun x hx e => J13.out x e hx))
    have RQ9 := Lib.hid (RQ8.out.put0 (.slice b1 q.length d1))
    have D9 := Lib.hid (D8.setCell (p := ⟨g8, 0, none⟩) hg8 (.slice b1 q.length d1))
    have K1 := Lib.hid ((own8.setNe (g := g8) (i := 0) (u := .slice b1 q.length d1) (own_ne_rp own8 RQ8.out)).at)
    have K2 := Lib.hid ((U2.out.setNe (g := g8) (i := 0) (u := .slice b1 q.length d1) (own_ne_rp U2.out RQ8.out)).at)
    have K3 := Lib.hid ((U3.out.setNe (g := g8) (i := 0) (u := .slice b1 q.length d1) (own_ne_rp U3.out RQ8.out)).at)
    have hlq : q.length ≤ 13 := by rw [HQ.out]; simp; omega
    clear own8 grow8 D8 A7 Qa RQa RQ8 t0 fz U2 U3
    generalize W8.setCell _ _ = W9 at *
    obtain ⟨rq, hrq⟩ : ∃ rq : Rep, rq = ⟨q, rp.stuck, rp.endless⟩ := ⟨_, rfl⟩
    have hk1 : q = rq.dead := by rw [hrq]
    have hk2 : rp.stuck = rq.stuck := by rw [hrq]
    have hk3 : rp.endless = rq.endless := by rw [hrq]
    have HL := Lib.hid (show rq.dead.length ≤ 13 ∧ rq.stuck.length ≤ 13 ∧ rq.endless.length ≤ 9 from ⟨by rw [← hk1]; omega, by rw [← hk2]; omega, by rw [← hk3]; omega⟩)
    have KR := Lib.hid (show RepAt W9 (.agg #[(.slice b1 q.length d1), (.slice p2 rp.stuck.length q2), (.slice p3 rp.endless.length q3)]) rq from by subst hrq; exact ⟨_, _, _, _, _, _, rfl, K1.out, K2.out, K3.out⟩)
    clear hk1 hk2 hk3 hrq hlq K1 K2 K3 HQ
    obtain ⟨VQ, hVQ⟩ : ∃ VQ : Value, VQ = .agg #[(.slice b1 q.length d1), (.slice p2 rp.stuck.length q2), (.slice p3 rp.endless.length q3)] := ⟨_, rfl⟩
    rw [← hVQ] at KR
    have FQ := Lib.hid (show ∀ W, Below W9.heap.size W9 W → W.cell? ⟨g8, 0, none⟩ = some (.slice b1 q.length d1) ∧ W.cell? ⟨g8, 1, none⟩ = some (.slice p2 rp.stuck.length q2) ∧ W.cell? ⟨g8, 2, none⟩ = some (.slice p3 rp.endless.length q3) from fun W h => (RQ9.out.below h).cells)
    have XS9 := Lib.hid (XS6.out.on D9.out)
    have S9 := Lib.hid (S6.out.below D9.out)
    have R9 := Lib.hid (RP6.out.below D9.out)
    have B9 := Lib.hid (B6.out.trans (D9.out.mono B6.out.size))
    have MR := Lib.hid (show RepAt W9 (.agg #[.slice a1 rp.dead.length c1, .slice a2 rp.stuck.length c2, .slice a3 rp.endless.length c3]) rp from ⟨_, _, _, _, _, _, rfl, N16.out.at.on D9.out, N26.out.at.on D9.out, N36.out.at.on D9.out⟩)
    have FW := Lib.hid (show ∀ W, Below W9.heap.size W9 W → (W.cell? ⟨gs, 0, none⟩ = some (.int .i64 (m : Nat)) ∧ W.cell? ⟨gs, 1, none⟩ = some (.int .u8 (acc : Nat)) ∧ W.cell? ⟨gs, 2, none⟩ = some (.slice va rs.length vc)) ∧ (W.cell? ⟨gr, 0, none⟩ = some (.slice a1 rp.dead.length c1) ∧ W.cell? ⟨gr, 1, none⟩ = some (.slice a2 rp.stuck.length c2) ∧ W.cell? ⟨gr, 2, none⟩ = some (.slice a3 rp.endless.length c3)) ∧ _ from fun W h => ⟨(S9.out.below h).cells, (R9.out.below h).cells, FQ.out W h⟩)
    have HT9 := fun W (h : Below W9.heap.size W9 W) => HT.out.below (B9.out.trans (h.mono B9.out.size)) H0.out
    have HG9 := fun W (h : Below W9.heap.size W9 W) => Nat.lt_of_lt_of_le H0.out (B9.out.trans (h.mono B9.out.size)).size
    have hPR := rep_proved HV.out h256
    have CF := fun W (h : Below W9.heap.size W9 W) => Lib.hid (Find_any m acc va vc rs W (HT9 W h) (HG9 W h) (by omega) h256 (XS9.out.on h) hcap (by omega) HZ.out)
    have CP := fun v W (h : Below W9.heap.size W9 W) (hv : RepAt W v rp) => Lib.hid (Proves_yes m acc va vc rs rp v W (HT9 W h) (HG9 W h) HV.out h256 (XS9.out.on h) hcap HZ.out hv (by unfold maxLen; omega) (by unfold maxLen; omega) (by unfold maxLen; omega))
    rw [← HRP.out] at hPR
    simp only [hPR, ← HRP.out] at CP CF
    obtain ⟨XQ, hXQ⟩ : ∃ XQ, XQ = prB m acc rs rq := ⟨_, rfl⟩
    have hlq1 := HL.out.1
    have hlq2 := HL.out.2.1
    have hlq3 := HL.out.2.2
    rw [hVQ] at KR
    have CQ := fun W (h : Below W9.heap.size W9 W) => Lib.hid (Proves_yes m acc va vc rs rq _ W (HT9 W h) (HG9 W h) HV.out h256 (XS9.out.on h) hcap HZ.out (KR.out.on h) (by unfold maxLen; omega) (by unfold maxLen; omega) (by unfold maxLen; omega))
    have CT := fun W (h : Below W9.heap.size W9 W) => Lib.hid (RProves_any m acc va vc rs rq _ W HV.out h256 (XS9.out.on h) (by omega) (KR.out.on h) (by omega) (by omega) (by omega))
    simp only [← hXQ] at CQ CT
    clear hXQ hPR hVQ HT9 HG9 FQ S9 R9 XS9 KR
    refine wp_normal ?_
    refine held_start (S := fun W => Below W9.heap.size W9 W) 22 (by kernel_rfl) rfl ?_
    have S0 := (Below.refl W9.heap.size W9).drew
    refine held_take 0 (.bool true) rfl (by kernel_rfl) (by kernel_rfl) (by kernel_rfl) (fun c a w h => by cases h.1) (by kernel_rfl) (fun W hW => by go_simp) S0 ?_
    refine held_take 1 (.bool true) rfl (by kernel_rfl) (by kernel_rfl) (by kernel_rfl) (fun c a w h => by cases h.1) (by kernel_rfl) (fun W hW => by go_simp) S0 ?_
    refine held_take 2 (.agg #[.int .i64 (m : Nat), .int .u8 (acc : Nat), .slice va rs.length vc]) rfl (by kernel_rfl) (by kernel_rfl) (by kernel_rfl) (fun c a w h => by cases h.1) (by kernel_rfl) (fun W hW => by obtain ⟨⟨f0, f1, f2⟩, ⟨g0, g1, g2⟩, h0, h1, h2⟩ := FW.out W hW; go_simp) S0 ?_
    refine held_take 3 (.agg #[.int .i64 (m : Nat), .int .u8 (acc : Nat), .slice va rs.length vc]) rfl (by kernel_rfl) (by kernel_rfl) (by kernel_rfl) (fun c a w h => by cases h.1) (by kernel_rfl) (fun W hW => by obtain ⟨⟨f0, f1, f2⟩, ⟨g0, g1, g2⟩, h0, h1, h2⟩ := FW.out W hW; go_simp) S0 ?_
    refine held_call 4 11 #[.agg #[.int .i64 (m : Nat), .int .u8 (acc : Nat), .slice va rs.length vc]] rfl (by kernel_rfl) (by kernel_rfl) (by go_simp) (CF _ S0).out ?_
    rintro e Wa ⟨v1, rfl, hr1, hb1⟩
    have S1 : Below W9.heap.size W9 Wa := S0.trans (hb1.mono S0.size)
    refine ⟨_, rfl, S1, ?_⟩
    refine held_call 5 15 #[.agg #[.int .i64 (m : Nat), .int .u8 (acc : Nat), .slice va rs.length vc], v1] rfl (by kernel_rfl) (by kernel_rfl) (by go_simp) (CP v1 _ S1 hr1).out ?_
    rintro e Wb ⟨rfl, hb2⟩
    have S2 : Below W9.heap.size W9 Wb := S1.trans (hb2.mono S1.size)
    refine ⟨_, rfl, S2, ?_⟩
    clear hr1 hb1 hb2
    refine held_take 6 (.bool true) rfl (by kernel_rfl) (by kernel_rfl) (by kernel_rfl) (fun c a w h => by cases h.1) (by kernel_rfl) (fun W hW => by go_simp) S2 ?_
    refine held_take 7 (.bool true) rfl (by kernel_rfl) (by kernel_rfl) (by kernel_rfl) (fun c a w h => by cases h.1) (by kernel_rfl) (fun W hW => by go_simp) S2 ?_
    refine held_take 8 (.agg #[.int .i64 (m : Nat), .int .u8 (acc : Nat), .slice va rs.length vc]) rfl (by kernel_rfl) (by kernel_rfl) (by kernel_rfl) (fun c a w h => by cases h.1) (by kernel_rfl) (fun W hW => by obtain ⟨⟨f0, f1, f2⟩, ⟨g0, g1, g2⟩, h0, h1, h2⟩ := FW.out W hW; go_simp) S2 ?_
    refine held_take 9 (.agg #[.slice a1 rp.dead.length c1, .slice a2 rp.stuck.length c2, .slice a3 rp.endless.length c3]) rfl (by kernel_rfl) (by kernel_rfl) (by kernel_rfl) (fun c a w h => by cases h.1) (by kernel_rfl) (fun W hW => by obtain ⟨⟨f0, f1, f2⟩, ⟨g0, g1, g2⟩, h0, h1, h2⟩ := FW.out W hW; go_simp) S2 ?_
    refine held_call 10 15 #[.agg #[.int .i64 (m : Nat), .int .u8 (acc : Nat), .slice va rs.length vc], (.agg #[.slice a1 rp.dead.length c1, .slice a2 rp.stuck.length c2, .slice a3 rp.endless.length c3])] rfl (by kernel_rfl) (by kernel_rfl) (by go_simp) (CP _ _ S2 (MR.out.on S2)).out ?_
    rintro e Wc ⟨rfl, hb3⟩
    have S3 : Below W9.heap.size W9 Wc := S2.trans (hb3.mono S2.size)
    refine ⟨_, rfl, S3, ?_⟩
    clear hb3
    refine held_take 11 (.bool true) rfl (by kernel_rfl) (by kernel_rfl) (by kernel_rfl) (fun c a w h => by cases h.1) (by kernel_rfl) (fun W hW => by go_simp) S3 ?_
    refine held_take 12 (.bool true) rfl (by kernel_rfl) (by kernel_rfl) (by kernel_rfl) (fun c a w h => by cases h.1) (by kernel_rfl) (fun W hW => by go_simp) S3 ?_
    refine held_take 13 (.agg #[.int .i64 (m : Nat), .int .u8 (acc : Nat), .slice va rs.length vc]) rfl (by kernel_rfl) (by kernel_rfl) (by kernel_rfl) (fun c a w h => by cases h.1) (by kernel_rfl) (fun W hW => by obtain ⟨⟨f0, f1, f2⟩, ⟨g0, g1, g2⟩, h0, h1, h2⟩ := FW.out W hW; go_simp) S3 ?_
    refine held_take 14 (.agg #[.slice b1 q.length d1, .slice p2 rp.stuck.length q2, .slice p3 rp.endless.length q3]) rfl (by kernel_rfl) (by kernel_rfl) (by kernel_rfl) (fun c a w h => by cases h.1) (by kernel_rfl) (fun W hW => by obtain ⟨⟨f0, f1, f2⟩, ⟨g0, g1, g2⟩, h0, h1, h2⟩ := FW.out W hW; go_simp) S3 ?_
    refine held_take 16 (.agg #[.int .i64 (m : Nat), .int .u8 (acc : Nat), .slice va rs.length vc]) rfl (by kernel_rfl) (by kernel_rfl) (by kernel_rfl) (fun c a w h => by cases h.1) (by kernel_rfl) (fun W hW => by obtain ⟨⟨f0, f1, f2⟩, ⟨g0, g1, g2⟩, h0, h1, h2⟩ := FW.out W hW; go_simp) S3 ?_
    refine held_take 17 (.agg #[.slice b1 q.length d1, .slice p2 rp.stuck.length q2, .slice p3 rp.endless.length q3]) rfl (by kernel_rfl) (by kernel_rfl) (by kernel_rfl) (fun c a w h => by cases h.1) (by kernel_rfl) (fun W hW => by obtain ⟨⟨f0, f1, f2⟩, ⟨g0, g1, g2⟩, h0, h1, h2⟩ := FW.out W hW; go_simp) S3 ?_
    refine held_call 15 15 #[.agg #[.int .i64 (m : Nat), .int .u8 (acc : Nat), .slice va rs.length vc], (.agg #[.slice b1 q.length d1, .slice p2 rp.stuck.length q2, .slice p3 rp.endless.length q3])] rfl (by kernel_rfl) (by kernel_rfl) (by go_simp) (CQ _ S3).out ?_
    rintro e Wd ⟨rfl, hb4⟩
    have S4 : Below W9.heap.size W9 Wd := S3.trans (hb4.mono S3.size)
    refine ⟨_, rfl, S4, ?_⟩
    refine held_call 18 16 #[.agg #[.int .i64 (m : Nat), .int .u8 (acc : Nat), .slice va rs.length vc], (.agg #[.slice b1 q.length d1, .slice p2 rp.stuck.length q2, .slice p3 rp.endless.length q3])] rfl (by kernel_rfl) (by kernel_rfl) (by go_simp) (CT _ S4).out ?_
    rintro e We ⟨rfl, hb5⟩
    have S5 : Below W9.heap.size W9 We := S4.trans (hb5.mono S4.size)
    refine ⟨_, rfl, S5, ?_⟩
    clear hb4 hb5
    refine held_take 19 (.bool true) rfl (by kernel_rfl) (by kernel_rfl) (by kernel_rfl) (fun c a w h => by cases h.1) (by kernel_rfl) (fun W hW => by go_simp) S5 ?_
    refine held_take 20 (.bool true) rfl (by kernel_rfl) (by kernel_rfl) (by kernel_rfl) (fun c a w h => by cases h.1) (by kernel_rfl) (fun W hW => by go_simp) S5 ?_
    refine held_take 21 (.bool true) rfl (by kernel_rfl) (by kernel_rfl) (by kernel_rfl) (fun c a w h => by cases h.1) (by kernel_rfl) (fun W hW => by go_simp) S5 ?_
    refine held_done_as (b := ({ tmps := #[Value.agg #[Value.int IntKind.u8 ↑M, Value.int IntKind.u8 ↑A, Value.slice ma mn mc], Value.agg #[Value.int IntKind.i8 y0, Value.int IntKind.i8 y1, Value.int IntKind.i8 y2], Value.pointer (some { block := w.heap.size, off := 0 }), Value.pointer (some { block := w.heap.size + 1, off := 0 }), (.bool true), Value.bool true, Value.pointer (some { block := gs, off := 0 }), Value.pointer (some { block := gr, off := 0 }), Value.pointer (some { block := g8, off := 0 }), Value.int IntKind.i64 y1, Value.bool true, Value.agg #[Value.int IntKind.u8 ↑M, Value.int IntKind.u8 ↑A, Value.slice ma mn mc], Value.agg #[Value.int IntKind.i64 ↑m, Value.int IntKind.u8 ↑acc, Value.slice va rs.length vc], Value.agg #[Value.int IntKind.i64 ↑m, Value.int IntKind.u8 ↑acc, Value.slice va rs.length vc], Value.agg #[Value.slice a1 rp.dead.length c1, Value.slice a2 rp.stuck.length c2, Value.slice a3 rp.endless.length c3], z0, z1, z2, z3, z4, z5, z6, z7, z8, z9, z10, z11, Value.agg #[Value.slice p1 rp.dead.length q1, Value.slice p2 rp.stuck.length q2, Value.slice p3 rp.endless.length q3], Value.pointer (some { block := w.heap.size + 1, off := 1 }), Value.int IntKind.i8 y1, Value.int IntKind.i64 y1, Value.pointer (some { block := w.heap.size + 1, off := 0 }), Value.int IntKind.i8 y0, Value.int IntKind.u8 (y0 % 256), Value.int IntKind.u8 0, undef, undef, undef, undef, undef, undef, undef, undef, Value.bool true, Value.bool true, Value.pointer (some { block := g8, off := 0 }), Value.slice p1 rp.dead.length q1, Value.int IntKind.i64 y1, Value.slice (some { block := W7.heap.size, off := 0 }) 1 1, Value.slice b1 q.length d1, Value.pointer (some { block := g8, off := 0 }), undef, undef, undef, undef, undef, undef, undef, undef, undef, undef, undef, undef, undef, undef, undef, undef, (.bool true), (.bool true), (.agg #[.int .i64 (m : Nat), .int .u8 (acc : Nat), .slice va rs.length vc]), (.agg #[.int .i64 (m : Nat), .int .u8 (acc : Nat), .slice va rs.length vc]), v1, (.bool true), (.bool true), (.bool true), (.agg #[.int .i64 (m : Nat), .int .u8 (acc : Nat), .slice va rs.length vc]), (.agg #[.slice a1 rp.dead.length c1, .slice a2 rp.stuck.length c2, .slice a3 rp.endless.length c3]), (.bool true), (.bool true), (.bool true), (.agg #[.int .i64 (m : Nat), .int .u8 (acc : Nat), .slice va rs.length vc]), (.agg #[.slice b1 q.length d1, .slice p2 rp.stuck.length q2, .slice p3 rp.endless.length q3]), (.bool XQ), (.agg #[.int .i64 (m : Nat), .int .u8 (acc : Nat), .slice va rs.length vc]), (.agg #[.slice b1 q.length d1, .slice p2 rp.stuck.length q2, .slice p3 rp.endless.length q3]), (.bool XQ), (.bool true), (.bool true)], defers := [] } : Act)) (by kernel_rfl) (by kernel_rfl) ⟨rfl, ?_⟩
    have BE := Lib.hid (B9.out.trans (S5.mono B9.out.size))
    clear CF CP CQ CT FW S0 S1 S2 S3 S4 S5 MR
    go_wp2_with fail
    go_ret
    exact ⟨rfl, BE.out⟩
  · have A7 := Lib.hid ((Below.refl W7.heap.size W7).alloc (Nat.le_refl _) (.cells #[.int .i64 y1] 3))
    have Qa := Lib.hid (Q2.out.below A7.out)
    have RQa := Lib.hid (RQ.out.below A7.out)
    obtain ⟨t0, t1, t2⟩ := RQ.out.cells
    obtain ⟨t0', t1', t2'⟩ := RQa.out.cells
    obtain ⟨q, hq⟩ : ∃ q, q = rp.stuck ++ [y1] := ⟨_, rfl⟩
    have HQ := Lib.hid hq
    clear hq
    go_upto_region 14 with (first | (at_builtin; refine wpList_append_nums rfl _ _ rfl W6.heap.size _ rp.stuck rfl Qa.out W7.heap.size _ [y1] rfl (NumsOwn.one W7 y1) (by simp; omega) (by simp; omega) ?_; intro v8 W8 own8 grow8; rw [← HQ.out] at own8; obtain ⟨b1, d1, rfl⟩ := own8.shape; have RQ8 := Lib.hid (RQa.out.keptBy grow8 (fun e => own_ne_rp Qa.out RQa.out _ e rfl)); clear t0 t1 t2 t0' t1' t2'; obtain ⟨-, t1, -⟩ := RQ8.out.cells; have fz := RQ8.out.free 1) | fail)
    have D8 := DD7.out.trans ((A7.out.mono hW7).grown grow8 (by simp; omega) (fun x hx => Qa.out.blk x hx))
    have U1 := Lib.hid ((Q1.out.below A7.out).keptRow grow8 (fun x hx e => J12.out x hx e))
    have U3 := Lib.hid ((Q3.out.below A7.out).keptRow grow8 (fun x hx e => J23.out x e hx))
    have RQ9 := Lib.hid (RQ8.out.put1 (.slice b1 q.length d1))
    have D9 := Lib.hid (D8.setCell (p := ⟨g8, 1, none⟩) hg8 (.slice b1 q.length d1))
    have K1 := Lib.hid ((U1.out.setNe (g := g8) (i := 1) (u := .slice b1 q.length d1) (own_ne_rp U1.out RQ8.out)).at)
    have K2 := Lib.hid ((own8.setNe (g := g8) (i := 1) (u := .slice b1 q.length d1) (own_ne_rp own8 RQ8.out)).at)
    have K3 := Lib.hid ((U3.out.setNe (g := g8) (i := 1) (u := .slice b1 q.length d1) (own_ne_rp U3.out RQ8.out)).at)
    have hlq : q.length ≤ 13 := by rw [HQ.out]; simp; omega
    clear own8 grow8 D8 A7 Qa RQa RQ8 t1 fz U1 U3
    generalize W8.setCell _ _ = W9 at *
    obtain ⟨rq, hrq⟩ : ∃ rq : Rep, rq = ⟨rp.dead, q, rp.endless⟩ := ⟨_, rfl⟩
    have hk1 : rp.dead = rq.dead := by rw [hrq]
    have hk2 : q = rq.stuck := by rw [hrq]
    have hk3 : rp.endless = rq.endless := by rw [hrq]
    have HL := Lib.hid (show rq.dead.length ≤ 13 ∧ rq.stuck.length ≤ 13 ∧ rq.endless.length ≤ 9 from ⟨by rw [← hk1]; omega, by rw [← hk2]; omega, by rw [← hk3]; omega⟩)
    have KR := Lib.hid (show RepAt W9 (.agg #[(.slice p1 rp.dead.length q1), (.slice b1 q.length d1), (.slice p3 rp.endless.length q3)]) rq from by subst hrq; exact ⟨_, _, _, _, _, _, rfl, K1.out, K2.out, K3.out⟩)
    clear hk1 hk2 hk3 hrq hlq K1 K2 K3 HQ
    obtain ⟨VQ, hVQ⟩ : ∃ VQ : Value, VQ = .agg #[(.slice p1 rp.dead.length q1), (.slice b1 q.length d1), (.slice p3 rp.endless.length q3)] := ⟨_, rfl⟩
    rw [← hVQ] at KR
    have FQ := Lib.hid (show ∀ W, Below W9.heap.size W9 W → W.cell? ⟨g8, 0, none⟩ = some (.slice p1 rp.dead.length q1) ∧ W.cell? ⟨g8, 1, none⟩ = some (.slice b1 q.length d1) ∧ W.cell? ⟨g8, 2, none⟩ = some (.slice p3 rp.endless.length q3) from fun W h => (RQ9.out.below h).cells)
    have XS9 := Lib.hid (XS6.out.on D9.out)
    have S9 := Lib.hid (S6.out.below D9.out)
    have R9 := Lib.hid (RP6.out.below D9.out)
    have B9 := Lib.hid (B6.out.trans (D9.out.mono B6.out.size))
    have MR := Lib.hid (show RepAt W9 (.agg #[.slice a1 rp.dead.length c1, .slice a2 rp.stuck.length c2, .slice a3 rp.endless.length c3]) rp from ⟨_, _, _, _, _, _, rfl, N16.out.at.on D9.out, N26.out.at.on D9.out, N36.out.at.on D9.out⟩)
    have FW := Lib.hid (show ∀ W, Below W9.heap.size W9 W → (W.cell? ⟨gs, 0, none⟩ = some (.int .i64 (m : Nat)) ∧ W.cell? ⟨gs, 1, none⟩ = some (.int .u8 (acc : Nat)) ∧ W.cell? ⟨gs, 2, none⟩ = some (.slice va rs.length vc)) ∧ (W.cell? ⟨gr, 0, none⟩ = some (.slice a1 rp.dead.length c1) ∧ W.cell? ⟨gr, 1, none⟩ = some (.slice a2 rp.stuck.length c2) ∧ W.cell? ⟨gr, 2, none⟩ = some (.slice a3 rp.endless.length c3)) ∧ _ from fun W h => ⟨(S9.out.below h).cells, (R9.out.below h).cells, FQ.out W h⟩)
    have HT9 := fun W (h : Below W9.heap.size W9 W) => HT.out.below (B9.out.trans (h.mono B9.out.size)) H0.out
    have HG9 := fun W (h : Below W9.heap.size W9 W) => Nat.lt_of_lt_of_le H0.out (B9.out.trans (h.mono B9.out.size)).size
    have hPR := rep_proved HV.out h256
    have CF := fun W (h : Below W9.heap.size W9 W) => Lib.hid (Find_any m acc va vc rs W (HT9 W h) (HG9 W h) (by omega) h256 (XS9.out.on h) hcap (by omega) HZ.out)
    have CP := fun v W (h : Below W9.heap.size W9 W) (hv : RepAt W v rp) => Lib.hid (Proves_yes m acc va vc rs rp v W (HT9 W h) (HG9 W h) HV.out h256 (XS9.out.on h) hcap HZ.out hv (by unfold maxLen; omega) (by unfold maxLen; omega) (by unfold maxLen; omega))
    rw [← HRP.out] at hPR
    simp only [hPR, ← HRP.out] at CP CF
    obtain ⟨XQ, hXQ⟩ : ∃ XQ, XQ = prB m acc rs rq := ⟨_, rfl⟩
    have hlq1 := HL.out.1
    have hlq2 := HL.out.2.1
    have hlq3 := HL.out.2.2
    rw [hVQ] at KR
    have CQ := fun W (h : Below W9.heap.size W9 W) => Lib.hid (Proves_yes m acc va vc rs rq _ W (HT9 W h) (HG9 W h) HV.out h256 (XS9.out.on h) hcap HZ.out (KR.out.on h) (by unfold maxLen; omega) (by unfold maxLen; omega) (by unfold maxLen; omega))
    have CT := fun W (h : Below W9.heap.size W9 W) => Lib.hid (RProves_any m acc va vc rs rq _ W HV.out h256 (XS9.out.on h) (by omega) (KR.out.on h) (by omega) (by omega) (by omega))
    simp only [← hXQ] at CQ CT
    clear hXQ hPR hVQ HT9 HG9 FQ S9 R9 XS9 KR
    refine wp_normal ?_
    refine held_start (S := fun W => Below W9.heap.size W9 W) 22 (by kernel_rfl) rfl ?_
    have S0 := (Below.refl W9.heap.size W9).drew
    refine held_take 0 (.bool true) rfl (by kernel_rfl) (by kernel_rfl) (by kernel_rfl) (fun c a w h => by cases h.1) (by kernel_rfl) (fun W hW => by go_simp) S0 ?_
    refine held_take 1 (.bool true) rfl (by kernel_rfl) (by kernel_rfl) (by kernel_rfl) (fun c a w h => by cases h.1) (by kernel_rfl) (fun W hW => by go_simp) S0 ?_
    refine held_take 2 (.agg #[.int .i64 (m : Nat), .int .u8 (acc : Nat), .slice va rs.length vc]) rfl (by kernel_rfl) (by kernel_rfl) (by kernel_rfl) (fun c a w h => by cases h.1) (by kernel_rfl) (fun W hW => by obtain ⟨⟨f0, f1, f2⟩, ⟨g0, g1, g2⟩, h0, h1, h2⟩ := FW.out W hW; go_simp) S0 ?_
    refine held_take 3 (.agg #[.int .i64 (m : Nat), .int .u8 (acc : Nat), .slice va rs.length vc]) rfl (by kernel_rfl) (by kernel_rfl) (by kernel_rfl) (fun c a w h => by cases h.1) (by kernel_rfl) (fun W hW => by obtain ⟨⟨f0, f1, f2⟩, ⟨g0, g1, g2⟩, h0, h1, h2⟩ := FW.out W hW; go_simp) S0 ?_
    refine held_call 4 11 #[.agg #[.int .i64 (m : Nat), .int .u8 (acc : Nat), .slice va rs.length vc]] rfl (by kernel_rfl) (by kernel_rfl) (by go_simp) (CF _ S0).out ?_
    rintro e Wa ⟨v1, rfl, hr1, hb1⟩
    have S1 : Below W9.heap.size W9 Wa := S0.trans (hb1.mono S0.size)
    refine ⟨_, rfl, S1, ?_⟩
    refine held_call 5 15 #[.agg #[.int .i64 (m : Nat), .int .u8 (acc : Nat), .slice va rs.length vc], v1] rfl (by kernel_rfl) (by kernel_rfl) (by go_simp) (CP v1 _ S1 hr1).out ?_
    rintro e Wb ⟨rfl, hb2⟩
    have S2 : Below W9.heap.size W9 Wb := S1.trans (hb2.mono S1.size)
    refine ⟨_, rfl, S2, ?_⟩
    clear hr1 hb1 hb2
    refine held_take 6 (.bool true) rfl (by kernel_rfl) (by kernel_rfl) (by kernel_rfl) (fun c a w h => by cases h.1) (by kernel_rfl) (fun W hW => by go_simp) S2 ?_
    refine held_take 7 (.bool true) rfl (by kernel_rfl) (by kernel_rfl) (by kernel_rfl) (fun c a w h => by cases h.1) (by kernel_rfl) (fun W hW => by go_simp) S2 ?_
    refine held_take 8 (.agg #[.int .i64 (m : Nat), .int .u8 (acc : Nat), .slice va rs.length vc]) rfl (by kernel_rfl) (by kernel_rfl) (by kernel_rfl) (fun c a w h => by cases h.1) (by kernel_rfl) (fun W hW => by obtain ⟨⟨f0, f1, f2⟩, ⟨g0, g1, g2⟩, h0, h1, h2⟩ := FW.out W hW; go_simp) S2 ?_
    refine held_take 9 (.agg #[.slice a1 rp.dead.length c1, .slice a2 rp.stuck.length c2, .slice a3 rp.endless.length c3]) rfl (by kernel_rfl) (by kernel_rfl) (by kernel_rfl) (fun c a w h => by cases h.1) (by kernel_rfl) (fun W hW => by obtain ⟨⟨f0, f1, f2⟩, ⟨g0, g1, g2⟩, h0, h1, h2⟩ := FW.out W hW; go_simp) S2 ?_
    refine held_call 10 15 #[.agg #[.int .i64 (m : Nat), .int .u8 (acc : Nat), .slice va rs.length vc], (.agg #[.slice a1 rp.dead.length c1, .slice a2 rp.stuck.length c2, .slice a3 rp.endless.length c3])] rfl (by kernel_rfl) (by kernel_rfl) (by go_simp) (CP _ _ S2 (MR.out.on S2)).out ?_
    rintro e Wc ⟨rfl, hb3⟩
    have S3 : Below W9.heap.size W9 Wc := S2.trans (hb3.mono S2.size)
    refine ⟨_, rfl, S3, ?_⟩
    clear hb3
    refine held_take 11 (.bool true) rfl (by kernel_rfl) (by kernel_rfl) (by kernel_rfl) (fun c a w h => by cases h.1) (by kernel_rfl) (fun W hW => by go_simp) S3 ?_
    refine held_take 12 (.bool true) rfl (by kernel_rfl) (by kernel_rfl) (by kernel_rfl) (fun c a w h => by cases h.1) (by kernel_rfl) (fun W hW => by go_simp) S3 ?_
    refine held_take 13 (.agg #[.int .i64 (m : Nat), .int .u8 (acc : Nat), .slice va rs.length vc]) rfl (by kernel_rfl) (by kernel_rfl) (by kernel_rfl) (fun c a w h => by cases h.1) (by kernel_rfl) (fun W hW => by obtain ⟨⟨f0, f1, f2⟩, ⟨g0, g1, g2⟩, h0, h1, h2⟩ := FW.out W hW; go_simp) S3 ?_
    refine held_take 14 (.agg #[.slice p1 rp.dead.length q1, .slice b1 q.length d1, .slice p3 rp.endless.length q3]) rfl (by kernel_rfl) (by kernel_rfl) (by kernel_rfl) (fun c a w h => by cases h.1) (by kernel_rfl) (fun W hW => by obtain ⟨⟨f0, f1, f2⟩, ⟨g0, g1, g2⟩, h0, h1, h2⟩ := FW.out W hW; go_simp) S3 ?_
    refine held_take 16 (.agg #[.int .i64 (m : Nat), .int .u8 (acc : Nat), .slice va rs.length vc]) rfl (by kernel_rfl) (by kernel_rfl) (by kernel_rfl) (fun c a w h => by cases h.1) (by kernel_rfl) (fun W hW => by obtain ⟨⟨f0, f1, f2⟩, ⟨g0, g1, g2⟩, h0, h1, h2⟩ := FW.out W hW; go_simp) S3 ?_
    refine held_take 17 (.agg #[.slice p1 rp.dead.length q1, .slice b1 q.length d1, .slice p3 rp.endless.length q3]) rfl (by kernel_rfl) (by kernel_rfl) (by kernel_rfl) (fun c a w h => by cases h.1) (by kernel_rfl) (fun W hW => by obtain ⟨⟨f0, f1, f2⟩, ⟨g0, g1, g2⟩, h0, h1, h2⟩ := FW.out W hW; go_simp) S3 ?_
    refine held_call 15 15 #[.agg #[.int .i64 (m : Nat), .int .u8 (acc : Nat), .slice va rs.length vc], (.agg #[.slice p1 rp.dead.length q1, .slice b1 q.length d1, .slice p3 rp.endless.length q3])] rfl (by kernel_rfl) (by kernel_rfl) (by go_simp) (CQ _ S3).out ?_
    rintro e Wd ⟨rfl, hb4⟩
    have S4 : Below W9.heap.size W9 Wd := S3.trans (hb4.mono S3.size)
    refine ⟨_, rfl, S4, ?_⟩
    refine held_call 18 16 #[.agg #[.int .i64 (m : Nat), .int .u8 (acc : Nat), .slice va rs.length vc], (.agg #[.slice p1 rp.dead.length q1, .slice b1 q.length d1, .slice p3 rp.endless.length q3])] rfl (by kernel_rfl) (by kernel_rfl) (by go_simp) (CT _ S4).out ?_
    rintro e We ⟨rfl, hb5⟩
    have S5 : Below W9.heap.size W9 We := S4.trans (hb5.mono S4.size)
    refine ⟨_, rfl, S5, ?_⟩
    clear hb4 hb5
    refine held_take 19 (.bool true) rfl (by kernel_rfl) (by kernel_rfl) (by kernel_rfl) (fun c a w h => by cases h.1) (by kernel_rfl) (fun W hW => by go_simp) S5 ?_
    refine held_take 20 (.bool true) rfl (by kernel_rfl) (by kernel_rfl) (by kernel_rfl) (fun c a w h => by cases h.1) (by kernel_rfl) (fun W hW => by go_simp) S5 ?_
    refine held_take 21 (.bool true) rfl (by kernel_rfl) (by kernel_rfl) (by kernel_rfl) (fun c a w h => by cases h.1) (by kernel_rfl) (fun W hW => by go_simp) S5 ?_
    refine held_done_as (b := ({ tmps := #[Value.agg #[Value.int IntKind.u8 ↑M, Value.int IntKind.u8 ↑A, Value.slice ma mn mc], Value.agg #[Value.int IntKind.i8 y0, Value.int IntKind.i8 y1, Value.int IntKind.i8 y2], Value.pointer (some { block := w.heap.size, off := 0 }), Value.pointer (some { block := w.heap.size + 1, off := 0 }), (.bool true), Value.bool true, Value.pointer (some { block := gs, off := 0 }), Value.pointer (some { block := gr, off := 0 }), Value.pointer (some { block := g8, off := 0 }), Value.int IntKind.i64 y1, Value.bool true, Value.agg #[Value.int IntKind.u8 ↑M, Value.int IntKind.u8 ↑A, Value.slice ma mn mc], Value.agg #[Value.int IntKind.i64 ↑m, Value.int IntKind.u8 ↑acc, Value.slice va rs.length vc], Value.agg #[Value.int IntKind.i64 ↑m, Value.int IntKind.u8 ↑acc, Value.slice va rs.length vc], Value.agg #[Value.slice a1 rp.dead.length c1, Value.slice a2 rp.stuck.length c2, Value.slice a3 rp.endless.length c3], z0, z1, z2, z3, z4, z5, z6, z7, z8, z9, z10, z11, Value.agg #[Value.slice p1 rp.dead.length q1, Value.slice p2 rp.stuck.length q2, Value.slice p3 rp.endless.length q3], Value.pointer (some { block := w.heap.size + 1, off := 1 }), Value.int IntKind.i8 y1, Value.int IntKind.i64 y1, Value.pointer (some { block := w.heap.size + 1, off := 0 }), Value.int IntKind.i8 y0, Value.int IntKind.u8 (y0 % 256), Value.int IntKind.u8 1, undef, undef, undef, undef, undef, undef, undef, undef, Value.bool false, Value.bool false, undef, undef, undef, undef, undef, undef, Value.bool true, Value.bool true, Value.pointer (some { block := g8, off := 1 }), Value.slice p2 rp.stuck.length q2, Value.int IntKind.i64 y1, Value.slice (some { block := W7.heap.size, off := 0 }) 1 1, Value.slice b1 q.length d1, Value.pointer (some { block := g8, off := 1 }), undef, undef, undef, undef, undef, undef, undef, undef, (.bool true), (.bool true), (.agg #[.int .i64 (m : Nat), .int .u8 (acc : Nat), .slice va rs.length vc]), (.agg #[.int .i64 (m : Nat), .int .u8 (acc : Nat), .slice va rs.length vc]), v1, (.bool true), (.bool true), (.bool true), (.agg #[.int .i64 (m : Nat), .int .u8 (acc : Nat), .slice va rs.length vc]), (.agg #[.slice a1 rp.dead.length c1, .slice a2 rp.stuck.length c2, .slice a3 rp.endless.length c3]), (.bool true), (.bool true), (.bool true), (.agg #[.int .i64 (m : Nat), .int .u8 (acc : Nat), .slice va rs.length vc]), (.agg #[.slice p1 rp.dead.length q1, .slice b1 q.length d1, .slice p3 rp.endless.length q3]), (.bool XQ), (.agg #[.int .i64 (m : Nat), .int .u8 (acc : Nat), .slice va rs.length vc]), (.agg #[.slice p1 rp.dead.length q1, .slice b1 q.length d1, .slice p3 rp.endless.length q3]), (.bool XQ), (.bool true), (.bool true)], defers := [] } : Act)) (by kernel_rfl) (by kernel_rfl) ⟨rfl, ?_⟩
    have BE := Lib.hid (B9.out.trans (S5.mono B9.out.size))
    clear CF CP CQ CT FW S0 S1 S2 S3 S4 S5 MR
    go_wp2_with fail
    go_ret
    exact ⟨rfl, BE.out⟩
  · have A7 := Lib.hid ((Below.refl W7.heap.size W7).alloc (Nat.le_refl _) (.cells #[.int .i64 y1] 3))
    have Qa := Lib.hid (Q3.out.below A7.out)
    have RQa := Lib.hid (RQ.out.below A7.out)
    obtain ⟨t0, t1, t2⟩ := RQ.out.cells
    obtain ⟨t0', t1', t2'⟩ := RQa.out.cells
    obtain ⟨q, hq⟩ : ∃ q, q = rp.endless ++ [y1] := ⟨_, rfl⟩
    have HQ := Lib.hid hq
    clear hq
    go_upto_region 14 with (first | (at_builtin; refine wpList_append_nums rfl _ _ rfl W6.heap.size _ rp.endless rfl Qa.out W7.heap.size _ [y1] rfl (NumsOwn.one W7 y1) (by simp; omega) (by simp; omega) ?_; intro v8 W8 own8 grow8; rw [← HQ.out] at own8; obtain ⟨b1, d1, rfl⟩ := own8.shape; have RQ8 := Lib.hid (RQa.out.keptBy grow8 (fun e => own_ne_rp Qa.out RQa.out _ e rfl)); clear t0 t1 t2 t0' t1' t2'; obtain ⟨-, -, t2⟩ := RQ8.out.cells; have fz := RQ8.out.free 2) | fail)
    have D8 := DD7.out.trans ((A7.out.mono hW7).grown grow8 (by simp; omega) (fun x hx => Qa.out.blk x hx))
    have U1 := Lib.hid ((Q1.out.below A7.out).keptRow grow8 (fun x hx e => J13.out x hx e))
    have U2 := Lib.hid ((Q2.out.below A7.out).keptRow grow8 (fun x hx e => J23.out x hx e))
    have RQ9 := Lib.hid (RQ8.out.put2 (.slice b1 q.length d1))
    have D9 := Lib.hid (D8.setCell (p := ⟨g8, 2, none⟩) hg8 (.slice b1 q.length d1))
    have K1 := Lib.hid ((U1.out.setNe (g := g8) (i := 2) (u := .slice b1 q.length d1) (own_ne_rp U1.out RQ8.out)).at)
    have K2 := Lib.hid ((U2.out.setNe (g := g8) (i := 2) (u := .slice b1 q.length d1) (own_ne_rp U2.out RQ8.out)).at)
    have K3 := Lib.hid ((own8.setNe (g := g8) (i := 2) (u := .slice b1 q.length d1) (own_ne_rp own8 RQ8.out)).at)
    have hlq : q.length ≤ 9 := by rw [HQ.out]; simp; omega
    clear own8 grow8 D8 A7 Qa RQa RQ8 t2 fz U1 U2
    generalize W8.setCell _ _ = W9 at *
    obtain ⟨rq, hrq⟩ : ∃ rq : Rep, rq = ⟨rp.dead, rp.stuck, q⟩ := ⟨_, rfl⟩
    have hk1 : rp.dead = rq.dead := by rw [hrq]
    have hk2 : rp.stuck = rq.stuck := by rw [hrq]
    have hk3 : q = rq.endless := by rw [hrq]
    have HL := Lib.hid (show rq.dead.length ≤ 13 ∧ rq.stuck.length ≤ 13 ∧ rq.endless.length ≤ 9 from ⟨by rw [← hk1]; omega, by rw [← hk2]; omega, by rw [← hk3]; omega⟩)
    have KR := Lib.hid (show RepAt W9 (.agg #[(.slice p1 rp.dead.length q1), (.slice p2 rp.stuck.length q2), (.slice b1 q.length d1)]) rq from by subst hrq; exact ⟨_, _, _, _, _, _, rfl, K1.out, K2.out, K3.out⟩)
    clear hk1 hk2 hk3 hrq hlq K1 K2 K3 HQ
    obtain ⟨VQ, hVQ⟩ : ∃ VQ : Value, VQ = .agg #[(.slice p1 rp.dead.length q1), (.slice p2 rp.stuck.length q2), (.slice b1 q.length d1)] := ⟨_, rfl⟩
    rw [← hVQ] at KR
    have FQ := Lib.hid (show ∀ W, Below W9.heap.size W9 W → W.cell? ⟨g8, 0, none⟩ = some (.slice p1 rp.dead.length q1) ∧ W.cell? ⟨g8, 1, none⟩ = some (.slice p2 rp.stuck.length q2) ∧ W.cell? ⟨g8, 2, none⟩ = some (.slice b1 q.length d1) from fun W h => (RQ9.out.below h).cells)
    have XS9 := Lib.hid (XS6.out.on D9.out)
    have S9 := Lib.hid (S6.out.below D9.out)
    have R9 := Lib.hid (RP6.out.below D9.out)
    have B9 := Lib.hid (B6.out.trans (D9.out.mono B6.out.size))
    have MR := Lib.hid (show RepAt W9 (.agg #[.slice a1 rp.dead.length c1, .slice a2 rp.stuck.length c2, .slice a3 rp.endless.length c3]) rp from ⟨_, _, _, _, _, _, rfl, N16.out.at.on D9.out, N26.out.at.on D9.out, N36.out.at.on D9.out⟩)
    have FW := Lib.hid (show ∀ W, Below W9.heap.size W9 W → (W.cell? ⟨gs, 0, none⟩ = some (.int .i64 (m : Nat)) ∧ W.cell? ⟨gs, 1, none⟩ = some (.int .u8 (acc : Nat)) ∧ W.cell? ⟨gs, 2, none⟩ = some (.slice va rs.length vc)) ∧ (W.cell? ⟨gr, 0, none⟩ = some (.slice a1 rp.dead.length c1) ∧ W.cell? ⟨gr, 1, none⟩ = some (.slice a2 rp.stuck.length c2) ∧ W.cell? ⟨gr, 2, none⟩ = some (.slice a3 rp.endless.length c3)) ∧ _ from fun W h => ⟨(S9.out.below h).cells, (R9.out.below h).cells, FQ.out W h⟩)
    have HT9 := fun W (h : Below W9.heap.size W9 W) => HT.out.below (B9.out.trans (h.mono B9.out.size)) H0.out
    have HG9 := fun W (h : Below W9.heap.size W9 W) => Nat.lt_of_lt_of_le H0.out (B9.out.trans (h.mono B9.out.size)).size
    have hPR := rep_proved HV.out h256
    have CF := fun W (h : Below W9.heap.size W9 W) => Lib.hid (Find_any m acc va vc rs W (HT9 W h) (HG9 W h) (by omega) h256 (XS9.out.on h) hcap (by omega) HZ.out)
    have CP := fun v W (h : Below W9.heap.size W9 W) (hv : RepAt W v rp) => Lib.hid (Proves_yes m acc va vc rs rp v W (HT9 W h) (HG9 W h) HV.out h256 (XS9.out.on h) hcap HZ.out hv (by unfold maxLen; omega) (by unfold maxLen; omega) (by unfold maxLen; omega))
    rw [← HRP.out] at hPR
    simp only [hPR, ← HRP.out] at CP CF
    obtain ⟨XQ, hXQ⟩ : ∃ XQ, XQ = prB m acc rs rq := ⟨_, rfl⟩
    have hlq1 := HL.out.1
    have hlq2 := HL.out.2.1
    have hlq3 := HL.out.2.2
    rw [hVQ] at KR
    have CQ := fun W (h : Below W9.heap.size W9 W) => Lib.hid (Proves_yes m acc va vc rs rq _ W (HT9 W h) (HG9 W h) HV.out h256 (XS9.out.on h) hcap HZ.out (KR.out.on h) (by unfold maxLen; omega) (by unfold maxLen; omega) (by unfold maxLen; omega))
    have CT := fun W (h : Below W9.heap.size W9 W) => Lib.hid (RProves_any m acc va vc rs rq _ W HV.out h256 (XS9.out.on h) (by omega) (KR.out.on h) (by omega) (by omega) (by omega))
    simp only [← hXQ] at CQ CT
    clear hXQ hPR hVQ HT9 HG9 FQ S9 R9 XS9 KR
    refine wp_normal ?_
    refine held_start (S := fun W => Below W9.heap.size W9 W) 22 (by kernel_rfl) rfl ?_
    have S0 := (Below.refl W9.heap.size W9).drew
    refine held_take 0 (.bool true) rfl (by kernel_rfl) (by kernel_rfl) (by kernel_rfl) (fun c a w h => by cases h.1) (by kernel_rfl) (fun W hW => by go_simp) S0 ?_
    refine held_take 1 (.bool true) rfl (by kernel_rfl) (by kernel_rfl) (by kernel_rfl) (fun c a w h => by cases h.1) (by kernel_rfl) (fun W hW => by go_simp) S0 ?_
    refine held_take 2 (.agg #[.int .i64 (m : Nat), .int .u8 (acc : Nat), .slice va rs.length vc]) rfl (by kernel_rfl) (by kernel_rfl) (by kernel_rfl) (fun c a w h => by cases h.1) (by kernel_rfl) (fun W hW => by obtain ⟨⟨f0, f1, f2⟩, ⟨g0, g1, g2⟩, h0, h1, h2⟩ := FW.out W hW; go_simp) S0 ?_
    refine held_take 3 (.agg #[.int .i64 (m : Nat), .int .u8 (acc : Nat), .slice va rs.length vc]) rfl (by kernel_rfl) (by kernel_rfl) (by kernel_rfl) (fun c a w h => by cases h.1) (by kernel_rfl) (fun W hW => by obtain ⟨⟨f0, f1, f2⟩, ⟨g0, g1, g2⟩, h0, h1, h2⟩ := FW.out W hW; go_simp) S0 ?_
    refine held_call 4 11 #[.agg #[.int .i64 (m : Nat), .int .u8 (acc : Nat), .slice va rs.length vc]] rfl (by kernel_rfl) (by kernel_rfl) (by go_simp) (CF _ S0).out ?_
    rintro e Wa ⟨v1, rfl, hr1, hb1⟩
    have S1 : Below W9.heap.size W9 Wa := S0.trans (hb1.mono S0.size)
    refine ⟨_, rfl, S1, ?_⟩
    refine held_call 5 15 #[.agg #[.int .i64 (m : Nat), .int .u8 (acc : Nat), .slice va rs.length vc], v1] rfl (by kernel_rfl) (by kernel_rfl) (by go_simp) (CP v1 _ S1 hr1).out ?_
    rintro e Wb ⟨rfl, hb2⟩
    have S2 : Below W9.heap.size W9 Wb := S1.trans (hb2.mono S1.size)
    refine ⟨_, rfl, S2, ?_⟩
    clear hr1 hb1 hb2
    refine held_take 6 (.bool true) rfl (by kernel_rfl) (by kernel_rfl) (by kernel_rfl) (fun c a w h => by cases h.1) (by kernel_rfl) (fun W hW => by go_simp) S2 ?_
    refine held_take 7 (.bool true) rfl (by kernel_rfl) (by kernel_rfl) (by kernel_rfl) (fun c a w h => by cases h.1) (by kernel_rfl) (fun W hW => by go_simp) S2 ?_
    refine held_take 8 (.agg #[.int .i64 (m : Nat), .int .u8 (acc : Nat), .slice va rs.length vc]) rfl (by kernel_rfl) (by kernel_rfl) (by kernel_rfl) (fun c a w h => by cases h.1) (by kernel_rfl) (fun W hW => by obtain ⟨⟨f0, f1, f2⟩, ⟨g0, g1, g2⟩, h0, h1, h2⟩ := FW.out W hW; go_simp) S2 ?_
    refine held_take 9 (.agg #[.slice a1 rp.dead.length c1, .slice a2 rp.stuck.length c2, .slice a3 rp.endless.length c3]) rfl (by kernel_rfl) (by kernel_rfl) (by kernel_rfl) (fun c a w h => by cases h.1) (by kernel_rfl) (fun W hW => by obtain ⟨⟨f0, f1, f2⟩, ⟨g0, g1, g2⟩, h0, h1, h2⟩ := FW.out W hW; go_simp) S2 ?_
    refine held_call 10 15 #[.agg #[.int .i64 (m : Nat), .int .u8 (acc : Nat), .slice va rs.length vc], (.agg #[.slice a1 rp.dead.length c1, .slice a2 rp.stuck.length c2, .slice a3 rp.endless.length c3])] rfl (by kernel_rfl) (by kernel_rfl) (by go_simp) (CP _ _ S2 (MR.out.on S2)).out ?_
    rintro e Wc ⟨rfl, hb3⟩
    have S3 : Below W9.heap.size W9 Wc := S2.trans (hb3.mono S2.size)
    refine ⟨_, rfl, S3, ?_⟩
    clear hb3
    refine held_take 11 (.bool true) rfl (by kernel_rfl) (by kernel_rfl) (by kernel_rfl) (fun c a w h => by cases h.1) (by kernel_rfl) (fun W hW => by go_simp) S3 ?_
    refine held_take 12 (.bool true) rfl (by kernel_rfl) (by kernel_rfl) (by kernel_rfl) (fun c a w h => by cases h.1) (by kernel_rfl) (fun W hW => by go_simp) S3 ?_
    refine held_take 13 (.agg #[.int .i64 (m : Nat), .int .u8 (acc : Nat), .slice va rs.length vc]) rfl (by kernel_rfl) (by kernel_rfl) (by kernel_rfl) (fun c a w h => by cases h.1) (by kernel_rfl) (fun W hW => by obtain ⟨⟨f0, f1, f2⟩, ⟨g0, g1, g2⟩, h0, h1, h2⟩ := FW.out W hW; go_simp) S3 ?_
    refine held_take 14 (.agg #[.slice p1 rp.dead.length q1, .slice p2 rp.stuck.length q2, .slice b1 q.length d1]) rfl (by kernel_rfl) (by kernel_rfl) (by kernel_rfl) (fun c a w h => by cases h.1) (by kernel_rfl) (fun W hW => by obtain ⟨⟨f0, f1, f2⟩, ⟨g0, g1, g2⟩, h0, h1, h2⟩ := FW.out W hW; go_simp) S3 ?_
    refine held_take 16 (.agg #[.int .i64 (m : Nat), .int .u8 (acc : Nat), .slice va rs.length vc]) rfl (by kernel_rfl) (by kernel_rfl) (by kernel_rfl) (fun c a w h => by cases h.1) (by kernel_rfl) (fun W hW => by obtain ⟨⟨f0, f1, f2⟩, ⟨g0, g1, g2⟩, h0, h1, h2⟩ := FW.out W hW; go_simp) S3 ?_
    refine held_take 17 (.agg #[.slice p1 rp.dead.length q1, .slice p2 rp.stuck.length q2, .slice b1 q.length d1]) rfl (by kernel_rfl) (by kernel_rfl) (by kernel_rfl) (fun c a w h => by cases h.1) (by kernel_rfl) (fun W hW => by obtain ⟨⟨f0, f1, f2⟩, ⟨g0, g1, g2⟩, h0, h1, h2⟩ := FW.out W hW; go_simp) S3 ?_
    refine held_call 15 15 #[.agg #[.int .i64 (m : Nat), .int .u8 (acc : Nat), .slice va rs.length vc], (.agg #[.slice p1 rp.dead.length q1, .slice p2 rp.stuck.length q2, .slice b1 q.length d1])] rfl (by kernel_rfl) (by kernel_rfl) (by go_simp) (CQ _ S3).out ?_
    rintro e Wd ⟨rfl, hb4⟩
    have S4 : Below W9.heap.size W9 Wd := S3.trans (hb4.mono S3.size)
    refine ⟨_, rfl, S4, ?_⟩
    refine held_call 18 16 #[.agg #[.int .i64 (m : Nat), .int .u8 (acc : Nat), .slice va rs.length vc], (.agg #[.slice p1 rp.dead.length q1, .slice p2 rp.stuck.length q2, .slice b1 q.length d1])] rfl (by kernel_rfl) (by kernel_rfl) (by go_simp) (CT _ S4).out ?_
    rintro e We ⟨rfl, hb5⟩
    have S5 : Below W9.heap.size W9 We := S4.trans (hb5.mono S4.size)
    refine ⟨_, rfl, S5, ?_⟩
    clear hb4 hb5
    refine held_take 19 (.bool true) rfl (by kernel_rfl) (by kernel_rfl) (by kernel_rfl) (fun c a w h => by cases h.1) (by kernel_rfl) (fun W hW => by go_simp) S5 ?_
    refine held_take 20 (.bool true) rfl (by kernel_rfl) (by kernel_rfl) (by kernel_rfl) (fun c a w h => by cases h.1) (by kernel_rfl) (fun W hW => by go_simp) S5 ?_
    refine held_take 21 (.bool true) rfl (by kernel_rfl) (by kernel_rfl) (by kernel_rfl) (fun c a w h => by cases h.1) (by kernel_rfl) (fun W hW => by go_simp) S5 ?_
    refine held_done_as (b := ({ tmps := #[Value.agg #[Value.int IntKind.u8 ↑M, Value.int IntKind.u8 ↑A, Value.slice ma mn mc], Value.agg #[Value.int IntKind.i8 y0, Value.int IntKind.i8 y1, Value.int IntKind.i8 y2], Value.pointer (some { block := w.heap.size, off := 0 }), Value.pointer (some { block := w.heap.size + 1, off := 0 }), (.bool true), Value.bool true, Value.pointer (some { block := gs, off := 0 }), Value.pointer (some { block := gr, off := 0 }), Value.pointer (some { block := g8, off := 0 }), Value.int IntKind.i64 y1, Value.bool true, Value.agg #[Value.int IntKind.u8 ↑M, Value.int IntKind.u8 ↑A, Value.slice ma mn mc], Value.agg #[Value.int IntKind.i64 ↑m, Value.int IntKind.u8 ↑acc, Value.slice va rs.length vc], Value.agg #[Value.int IntKind.i64 ↑m, Value.int IntKind.u8 ↑acc, Value.slice va rs.length vc], Value.agg #[Value.slice a1 rp.dead.length c1, Value.slice a2 rp.stuck.length c2, Value.slice a3 rp.endless.length c3], z0, z1, z2, z3, z4, z5, z6, z7, z8, z9, z10, z11, Value.agg #[Value.slice p1 rp.dead.length q1, Value.slice p2 rp.stuck.length q2, Value.slice p3 rp.endless.length q3], Value.pointer (some { block := w.heap.size + 1, off := 1 }), Value.int IntKind.i8 y1, Value.int IntKind.i64 y1, Value.pointer (some { block := w.heap.size + 1, off := 0 }), Value.int IntKind.i8 y0, Value.int IntKind.u8 (y0 % 256), Value.int IntKind.u8 2, undef, undef, undef, undef, undef, undef, undef, undef, Value.bool false, Value.bool false, undef, undef, undef, undef, undef, undef, Value.bool false, Value.bool false, undef, undef, undef, undef, undef, undef, Value.bool true, Value.bool true, Value.pointer (some { block := g8, off := 2 }), Value.slice p3 rp.endless.length q3, Value.int IntKind.i64 y1, Value.slice (some { block := W7.heap.size, off := 0 }) 1 1, Value.slice b1 q.length d1, Value.pointer (some { block := g8, off := 2 }), (.bool true), (.bool true), (.agg #[.int .i64 (m : Nat), .int .u8 (acc : Nat), .slice va rs.length vc]), (.agg #[.int .i64 (m : Nat), .int .u8 (acc : Nat), .slice va rs.length vc]), v1, (.bool true), (.bool true), (.bool true), (.agg #[.int .i64 (m : Nat), .int .u8 (acc : Nat), .slice va rs.length vc]), (.agg #[.slice a1 rp.dead.length c1, .slice a2 rp.stuck.length c2, .slice a3 rp.endless.length c3]), (.bool true), (.bool true), (.bool true), (.agg #[.int .i64 (m : Nat), .int .u8 (acc : Nat), .slice va rs.length vc]), (.agg #[.slice p1 rp.dead.length q1, .slice p2 rp.stuck.length q2, .slice b1 q.length d1]), (.bool XQ), (.agg #[.int .i64 (m : Nat), .int .u8 (acc : Nat), .slice va rs.length vc]), (.agg #[.slice p1 rp.dead.length q1, .slice p2 rp.stuck.length q2, .slice b1 q.length d1]), (.bool XQ), (.bool true), (.bool true)], defers := [] } : Act)) (by kernel_rfl) (by kernel_rfl) ⟨rfl, ?_⟩
    have BE := Lib.hid (B9.out.trans (S5.mono B9.out.size))
    clear CF CP CQ CT FW S0 S1 S2 S3 S4 S5 MR
    go_wp2_with fail
    go_ret
    exact ⟨rfl, BE.out⟩
  · have A7 := Lib.hid ((Below.refl W7.heap.size W7).alloc (Nat.le_refl _) (.cells #[.int .i64 y2] 3))
    have Qa := Lib.hid (Q2.out.below A7.out)
    have RQa := Lib.hid (RQ.out.below A7.out)
    obtain ⟨t0, t1, t2⟩ := RQ.out.cells
    obtain ⟨t0', t1', t2'⟩ := RQa.out.cells
    obtain ⟨q, hq⟩ : ∃ q, q = [y2] ++ rp.stuck := ⟨_, rfl⟩
    have HQ := Lib.hid hq
    clear hq
    go_upto_region 14 with (first | (at_builtin; refine wpList_append_nums rfl _ _ rfl W6.heap.size _ [y2] rfl ((NumsOwn.one W7 y2).base hW7) W6.heap.size _ rp.stuck rfl Qa.out (by simp; omega) (by simp; omega) ?_; intro v8 W8 own8 grow8; rw [← HQ.out] at own8; obtain ⟨b1, d1, rfl⟩ := own8.shape; have RQ8 := Lib.hid (RQa.out.keptBy grow8 (fun e => by have h : W7.heap.size = g8 := Option.some.inj e; omega)); clear t0 t1 t2 t0' t1' t2'; obtain ⟨-, t1, -⟩ := RQ8.out.cells; have fz := RQ8.out.free 1) | fail)
    have D8 := DD7.out.trans ((A7.out.mono hW7).grown grow8 (by simp; omega) (fun x hx => by have h : W7.heap.size = x := Option.some.inj hx; omega))
    have U1 := Lib.hid ((Q1.out.below A7.out).keptRow grow8 (fun x hx e => by have h1 := Q1.out.lt x hx; have h : W7.heap.size = x := Option.some.inj e; omega))
    have U3 := Lib.hid ((Q3.out.below A7.out).keptRow grow8 (fun x hx e => by have h1 := Q3.out.lt x hx; have h : W7.heap.size = x := Option.some.inj e; omega))
    have RQ9 := Lib.hid (RQ8.out.put1 (.slice b1 q.length d1))
    have D9 := Lib.hid (D8.setCell (p := ⟨g8, 1, none⟩) hg8 (.slice b1 q.length d1))
    have K1 := Lib.hid ((U1.out.setNe (g := g8) (i := 1) (u := .slice b1 q.length d1) (own_ne_rp U1.out RQ8.out)).at)
    have K2 := Lib.hid ((own8.setNe (g := g8) (i := 1) (u := .slice b1 q.length d1) (own_ne_rp own8 RQ8.out)).at)
    have K3 := Lib.hid ((U3.out.setNe (g := g8) (i := 1) (u := .slice b1 q.length d1) (own_ne_rp U3.out RQ8.out)).at)
    have hlq : q.length ≤ 13 := by rw [HQ.out]; simp; omega
    clear own8 grow8 D8 A7 Qa RQa RQ8 t1 fz U1 U3
    generalize W8.setCell _ _ = W9 at *
    obtain ⟨rq, hrq⟩ : ∃ rq : Rep, rq = ⟨rp.dead, q, rp.endless⟩ := ⟨_, rfl⟩
    have hk1 : rp.dead = rq.dead := by rw [hrq]
    have hk2 : q = rq.stuck := by rw [hrq]
    have hk3 : rp.endless = rq.endless := by rw [hrq]
    have HL := Lib.hid (show rq.dead.length ≤ 13 ∧ rq.stuck.length ≤ 13 ∧ rq.endless.length ≤ 9 from ⟨by rw [← hk1]; omega, by rw [← hk2]; omega, by rw [← hk3]; omega⟩)
    have KR := Lib.hid (show RepAt W9 (.agg #[(.slice p1 rp.dead.length q1), (.slice b1 q.length d1), (.slice p3 rp.endless.length q3)]) rq from by subst hrq; exact ⟨_, _, _, _, _, _, rfl, K1.out, K2.out, K3.out⟩)
    clear hk1 hk2 hk3 hrq hlq K1 K2 K3 HQ
    obtain ⟨VQ, hVQ⟩ : ∃ VQ : Value, VQ = .agg #[(.slice p1 rp.dead.length q1), (.slice b1 q.length d1), (.slice p3 rp.endless.length q3)] := ⟨_, rfl⟩
    rw [← hVQ] at KR
    have FQ := Lib.hid (show ∀ W, Below W9.heap.size W9 W → W.cell? ⟨g8, 0, none⟩ = some (.slice p1 rp.dead.length q1) ∧ W.cell? ⟨g8, 1, none⟩ = some (.slice b1 q.length d1) ∧ W.cell? ⟨g8, 2, none⟩ = some (.slice p3 rp.endless.length q3) from fun W h => (RQ9.out.below h).cells)
    have XS9 := Lib.hid (XS6.out.on D9.out)
    have S9 := Lib.hid (S6.out.below D9.out)
    have R9 := Lib.hid (RP6.out.below D9.out)
    have B9 := Lib.hid (B6.out.trans (D9.out.mono B6.out.size))
    have MR := Lib.hid (show RepAt W9 (.agg #[.slice a1 rp.dead.length c1, .slice a2 rp.stuck.length c2, .slice a3 rp.endless.length c3]) rp from ⟨_, _, _, _, _, _, rfl, N16.out.at.on D9.out, N26.out.at.on D9.out, N36.out.at.on D9.out⟩)
    have FW := Lib.hid (show ∀ W, Below W9.heap.size W9 W → (W.cell? ⟨gs, 0, none⟩ = some (.int .i64 (m : Nat)) ∧ W.cell? ⟨gs, 1, none⟩ = some (.int .u8 (acc : Nat)) ∧ W.cell? ⟨gs, 2, none⟩ = some (.slice va rs.length vc)) ∧ (W.cell? ⟨gr, 0, none⟩ = some (.slice a1 rp.dead.length c1) ∧ W.cell? ⟨gr, 1, none⟩ = some (.slice a2 rp.stuck.length c2) ∧ W.cell? ⟨gr, 2, none⟩ = some (.slice a3 rp.endless.length c3)) ∧ _ from fun W h => ⟨(S9.out.below h).cells, (R9.out.below h).cells, FQ.out W h⟩)
    have HT9 := fun W (h : Below W9.heap.size W9 W) => HT.out.below (B9.out.trans (h.mono B9.out.size)) H0.out
    have HG9 := fun W (h : Below W9.heap.size W9 W) => Nat.lt_of_lt_of_le H0.out (B9.out.trans (h.mono B9.out.size)).size
    have hPR := rep_proved HV.out h256
    have CF := fun W (h : Below W9.heap.size W9 W) => Lib.hid (Find_any m acc va vc rs W (HT9 W h) (HG9 W h) (by omega) h256 (XS9.out.on h) hcap (by omega) HZ.out)
    have CP := fun v W (h : Below W9.heap.size W9 W) (hv : RepAt W v rp) => Lib.hid (Proves_yes m acc va vc rs rp v W (HT9 W h) (HG9 W h) HV.out h256 (XS9.out.on h) hcap HZ.out hv (by unfold maxLen; omega) (by unfold maxLen; omega) (by unfold maxLen; omega))
    rw [← HRP.out] at hPR
    simp only [hPR, ← HRP.out] at CP CF
    obtain ⟨XQ, hXQ⟩ : ∃ XQ, XQ = prB m acc rs rq := ⟨_, rfl⟩
    have hlq1 := HL.out.1
    have hlq2 := HL.out.2.1
    have hlq3 := HL.out.2.2
    rw [hVQ] at KR
    have CQ := fun W (h : Below W9.heap.size W9 W) => Lib.hid (Proves_yes m acc va vc rs rq _ W (HT9 W h) (HG9 W h) HV.out h256 (XS9.out.on h) hcap HZ.out (KR.out.on h) (by unfold maxLen; omega) (by unfold maxLen; omega) (by unfold maxLen; omega))
    have CT := fun W (h : Below W9.heap.size W9 W) => Lib.hid (RProves_any m acc va vc rs rq _ W HV.out h256 (XS9.out.on h) (by omega) (KR.out.on h) (by omega) (by omega) (by omega))
    simp only [← hXQ] at CQ CT
    clear hXQ hPR hVQ HT9 HG9 FQ S9 R9 XS9 KR
    refine wp_normal ?_
    refine held_start (S := fun W => Below W9.heap.size W9 W) 22 (by kernel_rfl) rfl ?_
    have S0 := (Below.refl W9.heap.size W9).drew
    refine held_take 0 (.bool true) rfl (by kernel_rfl) (by kernel_rfl) (by kernel_rfl) (fun c a w h => by cases h.1) (by kernel_rfl) (fun W hW => by go_simp) S0 ?_
    refine held_take 1 (.bool true) rfl (by kernel_rfl) (by kernel_rfl) (by kernel_rfl) (fun c a w h => by cases h.1) (by kernel_rfl) (fun W hW => by go_simp) S0 ?_
    refine held_take 2 (.agg #[.int .i64 (m : Nat), .int .u8 (acc : Nat), .slice va rs.length vc]) rfl (by kernel_rfl) (by kernel_rfl) (by kernel_rfl) (fun c a w h => by cases h.1) (by kernel_rfl) (fun W hW => by obtain ⟨⟨f0, f1, f2⟩, ⟨g0, g1, g2⟩, h0, h1, h2⟩ := FW.out W hW; go_simp) S0 ?_
    refine held_take 3 (.agg #[.int .i64 (m : Nat), .int .u8 (acc : Nat), .slice va rs.length vc]) rfl (by kernel_rfl) (by kernel_rfl) (by kernel_rfl) (fun c a w h => by cases h.1) (by kernel_rfl) (fun W hW => by obtain ⟨⟨f0, f1, f2⟩, ⟨g0, g1, g2⟩, h0, h1, h2⟩ := FW.out W hW; go_simp) S0 ?_
    refine held_call 4 11 #[.agg #[.int .i64 (m : Nat), .int .u8 (acc : Nat), .slice va rs.length vc]] rfl (by kernel_rfl) (by kernel_rfl) (by go_simp) (CF _ S0).out ?_
    rintro e Wa ⟨v1, rfl, hr1, hb1⟩
    have S1 : Below W9.heap.size W9 Wa := S0.trans (hb1.mono S0.size)
    refine ⟨_, rfl, S1, ?_⟩
    refine held_call 5 15 #[.agg #[.int .i64 (m : Nat), .int .u8 (acc : Nat), .slice va rs.length vc], v1] rfl (by kernel_rfl) (by kernel_rfl) (by go_simp) (CP v1 _ S1 hr1).out ?_
    rintro e Wb ⟨rfl, hb2⟩
    have S2 : Below W9.heap.size W9 Wb := S1.trans (hb2.mono S1.size)
    refine ⟨_, rfl, S2, ?_⟩
    clear hr1 hb1 hb2
    refine held_take 6 (.bool true) rfl (by kernel_rfl) (by kernel_rfl) (by kernel_rfl) (fun c a w h => by cases h.1) (by kernel_rfl) (fun W hW => by go_simp) S2 ?_
    refine held_take 7 (.bool true) rfl (by kernel_rfl) (by kernel_rfl) (by kernel_rfl) (fun c a w h => by cases h.1) (by kernel_rfl) (fun W hW => by go_simp) S2 ?_
    refine held_take 8 (.agg #[.int .i64 (m : Nat), .int .u8 (acc : Nat), .slice va rs.length vc]) rfl (by kernel_rfl) (by kernel_rfl) (by kernel_rfl) (fun c a w h => by cases h.1) (by kernel_rfl) (fun W hW => by obtain ⟨⟨f0, f1, f2⟩, ⟨g0, g1, g2⟩, h0, h1, h2⟩ := FW.out W hW; go_simp) S2 ?_
    refine held_take 9 (.agg #[.slice a1 rp.dead.length c1, .slice a2 rp.stuck.length c2, .slice a3 rp.endless.length c3]) rfl (by kernel_rfl) (by kernel_rfl) (by kernel_rfl) (fun c a w h => by cases h.1) (by kernel_rfl) (fun W hW => by obtain ⟨⟨f0, f1, f2⟩, ⟨g0, g1, g2⟩, h0, h1, h2⟩ := FW.out W hW; go_simp) S2 ?_
    refine held_call 10 15 #[.agg #[.int .i64 (m : Nat), .int .u8 (acc : Nat), .slice va rs.length vc], (.agg #[.slice a1 rp.dead.length c1, .slice a2 rp.stuck.length c2, .slice a3 rp.endless.length c3])] rfl (by kernel_rfl) (by kernel_rfl) (by go_simp) (CP _ _ S2 (MR.out.on S2)).out ?_
    rintro e Wc ⟨rfl, hb3⟩
    have S3 : Below W9.heap.size W9 Wc := S2.trans (hb3.mono S2.size)
    refine ⟨_, rfl, S3, ?_⟩
    clear hb3
    refine held_take 11 (.bool true) rfl (by kernel_rfl) (by kernel_rfl) (by kernel_rfl) (fun c a w h => by cases h.1) (by kernel_rfl) (fun W hW => by go_simp) S3 ?_
    refine held_take 12 (.bool true) rfl (by kernel_rfl) (by kernel_rfl) (by kernel_rfl) (fun c a w h => by cases h.1) (by kernel_rfl) (fun W hW => by go_simp) S3 ?_
    refine held_take 13 (.agg #[.int .i64 (m : Nat), .int .u8 (acc : Nat), .slice va rs.length vc]) rfl (by kernel_rfl) (by kernel_rfl) (by kernel_rfl) (fun c a w h => by cases h.1) (by kernel_rfl) (fun W hW => by obtain ⟨⟨f0, f1, f2⟩, ⟨g0, g1, g2⟩, h0, h1, h2⟩ := FW.out W hW; go_simp) S3 ?_
    refine held_take 14 (.agg #[.slice p1 rp.dead.length q1, .slice b1 q.length d1, .slice p3 rp.endless.length q3]) rfl (by kernel_rfl) (by kernel_rfl) (by kernel_rfl) (fun c a w h => by cases h.1) (by kernel_rfl) (fun W hW => by obtain ⟨⟨f0, f1, f2⟩, ⟨g0, g1, g2⟩, h0, h1, h2⟩ := FW.out W hW; go_simp) S3 ?_
    refine held_take 16 (.agg #[.int .i64 (m : Nat), .int .u8 (acc : Nat), .slice va rs.length vc]) rfl (by kernel_rfl) (by kernel_rfl) (by kernel_rfl) (fun c a w h => by cases h.1) (by kernel_rfl) (fun W hW => by obtain ⟨⟨f0, f1, f2⟩, ⟨g0, g1, g2⟩, h0, h1, h2⟩ := FW.out W hW; go_simp) S3 ?_
    refine held_take 17 (.agg #[.slice p1 rp.dead.length q1, .slice b1 q.length d1, .slice p3 rp.endless.length q3]) rfl (by kernel_rfl) (by kernel_rfl) (by kernel_rfl) (fun c a w h => by cases h.1) (by kernel_rfl) (fun W hW => by obtain ⟨⟨f0, f1, f2⟩, ⟨g0, g1, g2⟩, h0, h1, h2⟩ := FW.out W hW; go_simp) S3 ?_
    refine held_call 15 15 #[.agg #[.int .i64 (m : Nat), .int .u8 (acc : Nat), .slice va rs.length vc], (.agg #[.slice p1 rp.dead.length q1, .slice b1 q.length d1, .slice p3 rp.endless.length q3])] rfl (by kernel_rfl) (by kernel_rfl) (by go_simp) (CQ _ S3).out ?_
    rintro e Wd ⟨rfl, hb4⟩
    have S4 : Below W9.heap.size W9 Wd := S3.trans (hb4.mono S3.size)
    refine ⟨_, rfl, S4, ?_⟩
    refine held_call 18 16 #[.agg #[.int .i64 (m : Nat), .int .u8 (acc : Nat), .slice va rs.length vc], (.agg #[.slice p1 rp.dead.length q1, .slice b1 q.length d1, .slice p3 rp.endless.length q3])] rfl (by kernel_rfl) (by kernel_rfl) (by go_simp) (CT _ S4).out ?_
    rintro e We ⟨rfl, hb5⟩
    have S5 : Below W9.heap.size W9 We := S4.trans (hb5.mono S4.size)
    refine ⟨_, rfl, S5, ?_⟩
    clear hb4 hb5
    refine held_take 19 (.bool true) rfl (by kernel_rfl) (by kernel_rfl) (by kernel_rfl) (fun c a w h => by cases h.1) (by kernel_rfl) (fun W hW => by go_simp) S5 ?_
    refine held_take 20 (.bool true) rfl (by kernel_rfl) (by kernel_rfl) (by kernel_rfl) (fun c a w h => by cases h.1) (by kernel_rfl) (fun W hW => by go_simp) S5 ?_
    refine held_take 21 (.bool true) rfl (by kernel_rfl) (by kernel_rfl) (by kernel_rfl) (fun c a w h => by cases h.1) (by kernel_rfl) (fun W hW => by go_simp) S5 ?_
    refine held_done_as (b := ({ tmps := #[Value.agg #[Value.int IntKind.u8 ↑M, Value.int IntKind.u8 ↑A, Value.slice ma mn mc], Value.agg #[Value.int IntKind.i8 y0, Value.int IntKind.i8 y1, Value.int IntKind.i8 y2], Value.pointer (some { block := w.heap.size, off := 0 }), Value.pointer (some { block := w.heap.size + 1, off := 0 }), (.bool true), Value.bool true, Value.pointer (some { block := gs, off := 0 }), Value.pointer (some { block := gr, off := 0 }), Value.pointer (some { block := g8, off := 0 }), Value.int IntKind.i64 y1, Value.bool true, Value.agg #[Value.int IntKind.u8 ↑M, Value.int IntKind.u8 ↑A, Value.slice ma mn mc], Value.agg #[Value.int IntKind.i64 ↑m, Value.int IntKind.u8 ↑acc, Value.slice va rs.length vc], Value.agg #[Value.int IntKind.i64 ↑m, Value.int IntKind.u8 ↑acc, Value.slice va rs.length vc], Value.agg #[Value.slice a1 rp.dead.length c1, Value.slice a2 rp.stuck.length c2, Value.slice a3 rp.endless.length c3], z0, z1, z2, z3, z4, z5, z6, z7, z8, z9, z10, z11, Value.agg #[Value.slice p1 rp.dead.length q1, Value.slice p2 rp.stuck.length q2, Value.slice p3 rp.endless.length q3], Value.pointer (some { block := w.heap.size + 1, off := 1 }), Value.int IntKind.i8 y1, Value.int IntKind.i64 y1, Value.pointer (some { block := w.heap.size + 1, off := 0 }), Value.int IntKind.i8 y0, Value.int IntKind.u8 (y0 % 256), Value.int IntKind.u8 3, Value.pointer (some { block := w.heap.size + 1, off := 2 }), Value.int IntKind.i8 y2, Value.int IntKind.i64 y2, Value.slice (some { block := W7.heap.size, off := 0 }) 1 1, Value.pointer (some { block := g8, off := 1 }), Value.slice p2 rp.stuck.length q2, Value.slice b1 q.length d1, Value.pointer (some { block := g8, off := 1 }), Value.bool false, Value.bool false, undef, undef, undef, undef, undef, undef, Value.bool false, Value.bool false, undef, undef, undef, undef, undef, undef, Value.bool false, Value.bool false, undef, undef, undef, undef, undef, undef, (.bool true), (.bool true), (.agg #[.int .i64 (m : Nat), .int .u8 (acc : Nat), .slice va rs.length vc]), (.agg #[.int .i64 (m : Nat), .int .u8 (acc : Nat), .slice va rs.length vc]), v1, (.bool true), (.bool true), (.bool true), (.agg #[.int .i64 (m : Nat), .int .u8 (acc : Nat), .slice va rs.length vc]), (.agg #[.slice a1 rp.dead.length c1, .slice a2 rp.stuck.length c2, .slice a3 rp.endless.length c3]), (.bool true), (.bool true), (.bool true), (.agg #[.int .i64 (m : Nat), .int .u8 (acc : Nat), .slice va rs.length vc]), (.agg #[.slice p1 rp.dead.length q1, .slice b1 q.length d1, .slice p3 rp.endless.length q3]), (.bool XQ), (.agg #[.int .i64 (m : Nat), .int .u8 (acc : Nat), .slice va rs.length vc]), (.agg #[.slice p1 rp.dead.length q1, .slice b1 q.length d1, .slice p3 rp.endless.length q3]), (.bool XQ), (.bool true), (.bool true)], defers := [] } : Act)) (by kernel_rfl) (by kernel_rfl) ⟨rfl, ?_⟩
    have BE := Lib.hid (B9.out.trans (S5.mono B9.out.size))
    clear CF CP CQ CT FW S0 S1 S2 S3 S4 S5 MR
    go_wp2_with fail
    go_ret
    exact ⟨rfl, BE.out⟩
end Go.Proofs.YtendieoandclkaaDoor

namespace Go.Proofs.YtendieoandclkaaDoor
open Go.ChangeShapes Go.WideShapes Go.ChangeAt Go.RowKit Go.ChangeMaps
open Pl

theorem cellsI8 : Tryd.prog.cellsOf 45 = 1 := by kernel_rfl
theorem cellsI3 : Tryd.prog.cellsOf 46 = 3 := by kernel_rfl
theorem rec46 : Tryd.prog.readableRec 46 = true := by kernel_rfl
theorem row46 : 46 < Tryd.prog.types.size := of_decide_eq_true (by kernel_rfl)
theorem okWide_arr2 {P : Program} {w : World} {r : Reach} {base : Nat} {t : TypeId} {v : Value} {n : Nat} {e : TypeId} (ht : P.underlying t = some (.array n e)) (h : Value.okWide P w r base t v) : ∃ cs, v = .agg cs ∧ cs.size = P.cellsOf t := by
  simp only [Value.okWide, ht] at h
  obtain ⟨cs, h1, h2, _⟩ := h
  exact ⟨cs, h1, h2⟩
set_option maxRecDepth 100000 in
theorem open_tI8s3 {H : Type} {enc : TypeId × Value → H} {W : World} {r : Reach} {base : Nat} {v : Value} {d : DataW H} {p : List MemPlace} (hv : Value.okWide Tryd.prog W r base 46 v) (h : DataW.Trod enc Tryd.prog W 0 (fun _ => true) true 46 v d p) :
    ∃ a : Int × Int × Int, v = .agg #[.int .i8 a.1, .int .i8 a.2.1, .int .i8 a.2.2] ∧ (-128 ≤ a.1 ∧ a.1 ≤ 127) ∧ (-128 ≤ a.2.1 ∧ a.2.1 ≤ 127) ∧ (-128 ≤ a.2.2 ∧ a.2.2 ≤ 127) := by
  obtain ⟨cs, rfl, hsz⟩ := okWide_arr2 Tryd.underlying46 hv
  rw [cellsI3] at hsz
  obtain ⟨l⟩ := cs
  obtain ⟨x0, x1, x2, rfl⟩ : ∃ x0 x1 x2, l = [x0, x1, x2] := by
    clear h hv
    match l, hsz with
    | [x0, x1, x2], _ => exact ⟨x0, x1, x2, rfl⟩
  obtain ⟨fuel, hf⟩ := h
  obtain ⟨xs, m', -, -, -, hxl, hg⟩ := DataW.trod_array Tryd.underlying46 hf
  rw [cellsI8] at hg
  obtain ⟨q0, q1, q2, rfl⟩ : ∃ q0 q1 q2, xs = [q0, q1, q2] := by
    clear hg hf
    match xs, hxl with
    | [q0, q1, q2], _ => exact ⟨q0, q1, q2, rfl⟩
  have g0 : DataW.trod enc Tryd.prog W 0 (fun _ => true) true m' 45 [x0] = some q0 := by simpa [Value.cells] using hg 0 (by omega)
  have g1 : DataW.trod enc Tryd.prog W 0 (fun _ => true) true m' 45 [x1] = some q1 := by simpa [Value.cells] using hg 1 (by omega)
  have g2 : DataW.trod enc Tryd.prog W 0 (fun _ => true) true m' 45 [x2] = some q2 := by simpa [Value.cells] using hg 2 (by omega)
  obtain ⟨y0, hy0, -, hw0⟩ := DataW.trod_int Tryd.underlying45 g0
  obtain ⟨y1, hy1, -, hw1⟩ := DataW.trod_int Tryd.underlying45 g1
  obtain ⟨y2, hy2, -, hw2⟩ := DataW.trod_int Tryd.underlying45 g2
  obtain rfl : x0 = .int .i8 y0 := by simpa using hy0
  obtain rfl : x1 = .int .i8 y1 := by simpa using hy1
  obtain rfl : x2 = .int .i8 y2 := by simpa using hy2
  exact ⟨(y0, y1, y2), rfl, bounds_i8 hw0, bounds_i8 hw1, bounds_i8 hw2⟩
set_option maxRecDepth 100000 in
theorem back_tI8s3 {H : Type} {enc : TypeId × Value → H} {W W' : World} {v : Value} {d : DataW H} {p : List MemPlace} (h : DataW.Trod enc Tryd.prog W 0 (fun _ => true) true 46 v d p) (hb : Below W.heap.size W W') :
    DataW.Trod enc Tryd.prog W' 0 (fun b => decide (b < W.heap.size)) true 46 v d p :=
  Below.trod raw_out rec46 row46 h hb (DataW.TrodAll.lt (trodAll_mk1 h))
theorem proves_any (o : Nat × Nat × Option Addr × Nat × Nat) (q : Int × Int × Int) (w : World) (hT : StrTab w) (h0 : 0 < w.heap.size) (ho : o.1 < 256 ∧ o.2.1 < 256 ∧ o.2.2.2.1 ≤ maxLen ∧ TrisAt w w.heap.size (.slice o.2.2.1 o.2.2.2.1 o.2.2.2.2) o.2.2.2.1) (hq : (-128 ≤ q.1 ∧ q.1 ≤ 127) ∧ (-128 ≤ q.2.1 ∧ q.2.1 ≤ 127) ∧ (-128 ≤ q.2.2 ∧ q.2.2 ≤ 127)) :
    Calls Tryd.prog 4 #[.agg #[.int .u8 (o.1 : Nat), .int .u8 (o.2.1 : Nat), .slice o.2.2.1 o.2.2.2.1 o.2.2.2.2], .agg #[.int .i8 q.1, .int .i8 q.2.1, .int .i8 q.2.2]] w fun e w' => e = .returned (.bool true) ∧ Below w.heap.size w w' :=
  FlawProves_any o.1 o.2.1 o.2.2.1 o.2.2.2.1 o.2.2.2.2 q.1 q.2.1 q.2.2 w hT h0 ho.1 ho.2.1 ho.2.2.2 ho.2.2.1 hq.2.1 hq.2.2
end Go.Proofs.YtendieoandclkaaDoor
