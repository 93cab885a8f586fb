/-
  A load that may come late: hoisted over operations that keep the cell.
-/
import Derived.Test.YtnbiedijofdjhaaDoorSO
namespace Go.Proofs.YtnbiedijofdjhaaDoor
open Go.RowKit

section
variable {P : Program} {ops : Array Oper} {md : Region.Mode} {C : World → Prop} {Q : Exit → Act → World → Prop}
/-- What follows an operation, where one that is put into its slot beforehand makes no difference to it. -/
theorem wpOp_put_run {j : Nat} {oi oj : Oper} {v : Value} (hj : ops[j]? = some oj) (hap : oi.apart ops oj = true) (hsi : ∀ cs b, oi.op ≠ .select cs b) (hsj : ∀ cs b, oj.op ≠ .select cs b)
    (hQ : ∀ c a w, Q (.panic c) (a.put oi.dst v) w → Q (.panic c) a w) {K : Act → World → Prop} {a : Act} {w : World} (h : wpOp P ops Q j K (a.put oi.dst v) w) :
    wpOp P ops Q j (fun a' w' => execOp a'.eval oi = execOp a.eval oi ∧ K (a'.put oi.dst v) w') a w := by
  obtain ⟨h1, h2, h3⟩ := Oper.apart_spec hap
  have keep : ∀ u, execOp (a.put oj.dst u).eval oi = execOp a.eval oi := fun u => execOp_put oi hsi a oj.dst u h3
  have turn : ∀ (u : Value) (W : World), K ((a.put oi.dst v).put oj.dst u) W → execOp (a.put oj.dst u).eval oi = execOp a.eval oi ∧ K ((a.put oj.dst u).put oi.dst v) W := fun u W hk => ⟨keep u, by rw [← Act.put_comm a v u h2]; exact hk⟩
  unfold wpOp at h ⊢
  simp only [hj] at h ⊢
  rw [wanted_put oj a oi.dst v h1] at h
  by_cases hw : Region.wanted oj (yielded ops a.tmps) = true
  · rw [if_pos hw] at h ⊢
    have he := execOp_put oj hsj a oi.dst v h1
    rcases h with h | ⟨ha, hl⟩
    · refine .inl ?_
      unfold Oper.wp at h ⊢
      rw [he] at h
      generalize (execOp a.eval oj).run P w = r at *
      match r, h with
      | .ok (.value u) w', h => exact turn u w' h
      | .ok .skip w', h => exact turn undef w' h
      | .ok (.defer d) w', h =>
        refine ⟨execOp_put oi hsi { a with defers := d :: a.defers } oj.dst undef h3, ?_⟩
        rw [← Act.put_comm { a with defers := d :: a.defers } v undef h2, ← Act.put_defers]
        exact h
      | .ok (.enter f args) w', h =>
        refine Calls.mono h fun e W he => ?_
        cases e with
        | returned u => exact turn u W he
        | panicked c => exact hQ _ _ _ he
        | outgrown => exact he
      | .ok (.row row args) w', h => exact Rows.mono h fun u W hu => turn u W hu
      | .halt (.panic u) w', h => exact hQ _ _ _ h
    · exact .inr ⟨by unfold Oper.asks at ha ⊢; rw [he] at ha; exact ha, hl⟩
  · rw [if_neg hw] at h ⊢
    exact turn undef w h
/-- Whatever order is picked, and the class is kept by all operations but those marked. -/
def wpAnyC (P : Program) (md : Region.Mode) (ops : Array Oper) (C : World → Prop) (dep : Nat → Bool) (Q : Exit → Act → World → Prop) : Nat → Array Bool → Act → World → Prop
  | 0, listed, a, w => Region.ready md ops listed = [] ∧ Q .normal a w
  | f + 1, listed, a, w => (Region.ready md ops listed = [] → Q .normal a w) ∧
      ∀ j ∈ Region.ready md ops listed, wpOp P ops Q j (fun a' w' => (dep j = false → C w') ∧ wpAnyC P md ops C dep Q f (listed.setIfInBounds j true) a' w') a w
theorem any_of_anyC {dep : Nat → Bool} : ∀ (f : Nat) (listed : Array Bool) (a : Act) (w : World), wpAnyC P md ops C dep Q f listed a w → wpAny P md ops Q f listed a w
  | 0, _, _, _, h => h
  | f + 1, _, _, _, h => ⟨h.1, fun j hj => wpOp_mono (fun a' w' hh => any_of_anyC f _ a' w' hh.2) (h.2 j hj)⟩
/-- What is marked waits for the operation i. -/
def depB (md : Region.Mode) (ops : Array Oper) (dep : Nat → Bool) (i : Nat) : Bool :=
  (List.range ops.size).all fun j => !dep j || (List.range j).any fun k => (k == i || dep k) && Region.waitsFor md ops j k
theorem dep_not_ready {dep : Nat → Bool} {i : Nat} (hd : depB md ops dep i = true) {listed : Array Bool} (inv : HeadInv md ops ops.size listed) (hun : listed.getD i false = false) :
    ∀ (j : Nat), dep j = true → listed.getD j false = false ∧ j ∉ Region.ready md ops listed := by
  intro j
  induction j using Nat.strongRecOn with
  | _ j ih =>
    intro hdj
    rcases Nat.lt_or_ge j ops.size with h | h
    · have h1 := List.all_eq_true.1 hd j (List.mem_range.2 h)
      rw [hdj] at h1
      simp only [Bool.not_true, Bool.false_or] at h1
      obtain ⟨k, hk, hk2⟩ := List.any_eq_true.1 h1
      simp only [Bool.and_eq_true, Bool.or_eq_true, beq_iff_eq] at hk2
      obtain ⟨oj, hoj, e, he, hb, hon⟩ := Region.waitsFor_spec hk2.2
      have hkun : listed.getD k false = false := by
        rcases hk2.1 with hki | hdk
        · rw [hki]; exact hun
        · exact (ih k (List.mem_range.1 hk) hdk).1
      refine ⟨?_, fun hr => ?_⟩
      · cases hl : listed.getD j false with
        | false => rfl
        | true =>
          have h2 := inv.closed j oj hoj hl e he hb
          rw [hon, hkun] at h2; cases h2
      · obtain ⟨-, o', ho', hall⟩ := mem_ready.1 hr
        obtain rfl : o' = oj := Option.some.inj (ho'.symm.trans hoj)
        have h2 := hall e he hb
        rw [hon, hkun] at h2; cases h2
    · refine ⟨?_, fun hr => ?_⟩
      · have : listed.size ≤ j := by rw [inv.size]; exact h
        simp [Array.getElem?_eq_none this]
      · obtain ⟨-, o', ho', -⟩ := mem_ready.1 hr
        rw [Array.getElem?_eq_none h] at ho'; cases ho'
/-- **An operation whose value every world of the class gives may be taken first**, where all that do not wait for it keep the class. -/
theorem anyC_hoist {dep : Nat → Bool} {i : Nat} {oi : Oper} {v : Value} (hi : ops[i]? = some oi) (hg : oi.guard = none) (hsel : ∀ (j : Nat) (o : Oper) cs b, ops[j]? = some o → o.op ≠ .select cs b)
    (hd : depB md ops dep i = true) (hQ : ∀ c a w, Q (.panic c) (a.put oi.dst v) w → Q (.panic c) a w) :
    ∀ (f : Nat) (listed : Array Bool) (a : Act) (w : World), HeadInv md ops ops.size listed →
      (∀ j oj, ops[j]? = some oj → j ≠ i → listed.getD j true = false → (∀ e ∈ oj.after, Region.binds md e = true → e.on ≠ i) → oi.apart ops oj = true) →
      i ∈ Region.ready md ops listed → (∀ W, C W → (execOp a.eval oi).run P W = .ok (.value v) W) → C w →
      wpAnyC P md ops C dep Q f (listed.setIfInBounds i true) (a.put oi.dst v) w → wpAnyC P md ops C dep Q (f + 1) listed a w := by
  intro f
  induction f with
  | zero =>
    intro listed a w inv _ hr hrun hC H
    refine ⟨fun h => (by rw [h] at hr; cases hr), fun j hj => ?_⟩
    by_cases hji : j = i
    · subst hji
      unfold wpOp
      simp only [hi]
      rw [if_pos (by simp [Region.wanted, hg])]
      left
      unfold Oper.wp
      rw [hrun w hC]
      exact ⟨fun _ => hC, H⟩
    · have := ready_mono hj hji
      rw [H.1] at this
      cases this
  | succ f ih =>
    intro listed a w inv hfree hr hrun hC H
    have hun := (mem_ready.1 hr).1
    refine ⟨fun h => (by rw [h] at hr; cases hr), fun j hj => ?_⟩
    by_cases hji : j = i
    · subst hji
      unfold wpOp
      simp only [hi]
      rw [if_pos (by simp [Region.wanted, hg])]
      left
      unfold Oper.wp
      rw [hrun w hC]
      exact ⟨fun _ => hC, H⟩
    · have h1 := H.2 j (ready_mono hj hji)
      obtain ⟨hjun, oj, hoj, hall⟩ := mem_ready.1 hj
      have hnot : ∀ e ∈ oj.after, Region.binds md e = true → e.on ≠ i := fun e he hb heq => by
        have h1 := hall e he hb
        rw [heq, getD_both hun] at h1
        cases h1
      have hdj : dep j = false := by
        cases h : dep j with
        | false => rfl
        | true => exact absurd hj (dep_not_ready hd inv (getD_both hun) j h).2
      have h2 := wpOp_put_run hoj (hfree j oj hoj hji hjun hnot) (fun cs b => hsel i oi cs b hi) (fun cs b => hsel j oj cs b hoj) hQ h1
      refine wpOp_mono (fun a' w' h3 => ⟨h3.2.1, ?_⟩) h2
      refine ih (listed.setIfInBounds j true) a' w' (inv.set hj (Array.getElem?_eq_some_iff.1 hoj).1) (fun k ok hk hki hun' hno => ?_) (ready_mono hr (Ne.symm hji)) (fun W hW => by rw [h3.1]; exact hrun W hW) (h3.2.1 hdj) ?_
      · refine hfree k ok hk hki ?_ hno
        by_cases hjk : j = k
        · subst hjk; exact hjun
        · rw [getD_set_ne true hjk] at hun'; exact hun'
      · rw [Array.setIfInBounds_comm _ _ hji]
        exact h3.2.2
/-- The rest is a chain: what it must show, the class between the operations that are not marked. -/
def wpListC (P : Program) (ops : Array Oper) (C : World → Prop) (dep : Nat → Bool) (Q : Exit → Act → World → Prop) : List Oper → Nat → Act → World → Prop
  | [], _, a, w => Q .normal a w
  | o :: rest, k, a, w => wpOp P #[o] Q 0 (fun a' w' => (dep k = false → C w') ∧ wpListC P ops C dep Q rest (k + 1) a' w') a w
theorem wpOp_one {o : Oper} {k : Nat} {K : Act → World → Prop} {a : Act} {w : World} (hk : ops[k]? = some o) (hg : o.guard = none) (h : wpOp P #[o] Q 0 K a w) : wpOp P ops Q k K a w := by
  unfold wpOp at h ⊢
  simp only [hk]
  simp only [List.getElem?_toArray, List.getElem?_cons_zero] at h
  rw [if_pos (by simp [Region.wanted, hg])] at h ⊢
  exact h
theorem anyC_of_list {dep : Nat → Bool} : ∀ (l : List Oper) (k : Nat) (listed : Array Bool) (a : Act) (w : World), (∀ j, l[j]? = ops[k + j]?) → (∀ o ∈ l, o.guard = none) →
    Region.seqB md ops l.length k listed = true → wpListC P ops C dep Q l k a w → wpAnyC P md ops C dep Q l.length listed a w
  | [], _, _, _, _, _, _, hB, h => ⟨by simpa [Region.seqB] using hB, h⟩
  | o :: l, k, listed, a, w, hl, hgs, hB, h => by
    have h0 : ops[k]? = some o := by simpa using (hl 0).symm
    simp only [List.length_cons, Region.seqB, Bool.and_eq_true, decide_eq_true_eq] at hB
    refine ⟨fun h1 => (by rw [hB.1] at h1; cases h1), fun i hi => ?_⟩
    rw [hB.1] at hi
    obtain rfl : i = k := by simpa using hi
    refine wpOp_mono (fun a' w' h' => ⟨h'.1, anyC_of_list l (i + 1) _ a' w' (fun j => by have := hl (j + 1); simpa [Nat.add_assoc, Nat.add_comm 1 j] using this) (fun o ho => hgs o (List.mem_cons_of_mem _ ho)) hB.2 h'.2⟩) (wpOp_one h0 (hgs o List.mem_cons_self) h)
/-- Behind the last operation that must keep the class the walk goes on as it is used to. -/
theorem wpListC_rest {dep : Nat → Bool} : ∀ (l : List Oper) (k : Nat) (a : Act) (w : World), (∀ j, k ≤ j → dep j = true) → (∀ o ∈ l, o.guard = none) → wpList P ops Q l a w → wpListC P ops C dep Q l k a w
  | [], _, _, _, _, _, h => h
  | o :: l, k, a, w, hd, hgs, h => by
    have hg := hgs o List.mem_cons_self
    unfold wpListC wpOp
    simp only [List.getElem?_toArray, List.getElem?_cons_zero]
    rw [if_pos (by simp [Region.wanted, hg])]
    rw [wpList, if_pos (by simp [Region.wanted, hg])] at h
    refine h.imp (fun h => Oper.wp_mono (fun a' w' hh => ⟨fun hk => ?_, wpListC_rest l (k + 1) a' w' (fun j hj => hd j (by omega)) (fun o ho => hgs o (List.mem_cons_of_mem _ ho)) hh⟩) h) id
    rw [hd k (Nat.le_refl _)] at hk; cases hk
def lateB (ops : Array Oper) (n : Nat) : Bool :=
  Region.noSelect ops && (ops.all (fun o => o.guard == none) && (Region.free .any ops (Array.replicate ops.size false) 0 && ((Region.ready .any ops (Array.replicate ops.size false)).contains 0 &&
    (Region.free .any ops ((Array.replicate ops.size false).setIfInBounds 0 true) 1 && ((Region.ready .any ops ((Array.replicate ops.size false).setIfInBounds 0 true)).contains 1 && (depB .any ops (fun j => decide (n ≤ j)) 1 &&
      Region.seqB .any ops (ops.size - 2) 2 (((Array.replicate ops.size false).setIfInBounds 0 true).setIfInBounds 1 true)))))))
/-- **A region that begins with an address and a load from it, a chain behind them: the load may come at any time before operation n.** -/
theorem wp_region_late {id : Nat} {a : Act} {w : World} {o0 o1 : Oper} {l : List Oper} (v0 v1 : Value) (n : Nat) (hm : P.follows .mixedOrders = true) (hB : lateB (o0 :: o1 :: l).toArray n = true) (hC : C w.drew)
    (hQ0 : ∀ c a w, Q (.panic c) (Act.put a o0.dst v0) w → Q (.panic c) a w) (hQ1 : ∀ c a w, Q (.panic c) (Act.put a o1.dst v1) w → Q (.panic c) a w)
    (h0 : ∀ W, (execOp a.eval o0).run P W = .ok (.value v0) W) (h1 : ∀ W, C W → (execOp (a.put o0.dst v0).eval o1).run P W = .ok (.value v1) W)
    (h : ∀ K : Act → Prop, (∀ a, wpListC P (o0 :: o1 :: l).toArray C (fun j => decide (n ≤ j)) Q l 2 a w.drew → K a) → K ((a.put o0.dst v0).put o1.dst v1)) : (Code.region id (o0 :: o1 :: l).toArray true).wp P Q a w := by
  simp only [lateB, Bool.and_eq_true] at hB
  obtain ⟨hsel, hgs, hf0, hr0, hf1, hr1, hdep, hseq⟩ := hB
  have hgs' : ∀ o ∈ (o0 :: o1 :: l), o.guard = none := fun o ho => by
    have := Array.all_eq_true_iff_forall_mem.1 hgs o (by simpa using ho)
    simpa using this
  have e0 : (o0 :: o1 :: l).toArray[0]? = some o0 := by simp
  have e1 : (o0 :: o1 :: l).toArray[1]? = some o1 := by simp
  have hsz : (o0 :: o1 :: l).toArray.size = l.length + 1 + 1 := by simp
  have hsz2 : (o0 :: o1 :: l).toArray.size - 2 = l.length := by simp
  have r0 : 0 ∈ Region.ready .any (o0 :: o1 :: l).toArray (Array.replicate (o0 :: o1 :: l).toArray.size false) := by simpa using hr0
  have r1 : 1 ∈ Region.ready .any (o0 :: o1 :: l).toArray ((Array.replicate (o0 :: o1 :: l).toArray.size false).setIfInBounds 0 true) := by simpa using hr1
  have inv0 : HeadInv .any (o0 :: o1 :: l).toArray (o0 :: o1 :: l).toArray.size (Array.replicate (o0 :: o1 :: l).toArray.size false) := HeadInv.start
  have H := anyC_of_list (md := .any) (ops := (o0 :: o1 :: l).toArray) (C := C) (Q := Q) (dep := fun j => decide (n ≤ j)) l 2 _ _ { w with drawn := w.drawn + 1 } (fun j => by simp [Nat.add_comm 2 j]) (fun o ho => hgs' o (by simp [ho])) (by rw [← hsz2]; exact hseq) (h _ fun _ h => h)
  have H1 := anyC_hoist e1 (hgs' o1 (by simp)) (Region.noSelect_spec hsel) hdep hQ1 l.length _ _ _ (inv0.set r0 (by simp)) (Region.free_spec e1 hf1) r1 h1 hC H
  have H2 := wpAny_first (P := P) (Q := Q) (md := .any) (v := v0) e0 (Region.noSelect_spec hsel) hQ0 _ _ a { w with drawn := w.drawn + 1 } (Region.free_spec e0 hf0) r0 (.inl ⟨by simp [Region.wanted, hgs' o0 (by simp)], h0⟩) (any_of_anyC _ _ _ _ H1)
  refine wp_region_any hm ?_
  rw [← hsz] at H2
  exact H2
theorem wpListC_value {dep : Nat → Bool} {o : Oper} {rest : List Oper} {k : Nat} {a : Act} {w w' : World} (v : Value) (hg : o.guard = none) (hr : (execOp a.eval o).run P w = .ok (.value v) w') (hC : C w')
    (h : ∀ K : Act → Prop, (∀ a, wpListC P ops C dep Q rest (k + 1) a w' → K a) → K (a.put o.dst v)) : wpListC P ops C dep Q (o :: rest) k a w := by
  unfold wpListC wpOp
  simp only [List.getElem?_toArray, List.getElem?_cons_zero]
  rw [if_pos (by simp [Region.wanted, hg])]
  left
  unfold Oper.wp
  rw [hr]
  exact ⟨fun _ => hC, h _ fun _ h => h⟩
theorem wpListC_call {dep : Nat → Bool} {o : Oper} {rest : List Oper} {k : Nat} {a : Act} {w : World} {R : Ending → World → Prop} (f : FuncId) (args : Array Value) (hg : o.guard = none) (hr : (execOp a.eval o).run P w = .ok (.enter f args) w) (hc : Calls P f args w R)
    (h : ∀ e w', R e w' → (∃ v, e = .returned v ∧ C w' ∧ ∀ K : Act → Prop, (∀ a, wpListC P ops C dep Q rest (k + 1) a w' → K a) → K (a.put o.dst v)) ∨ ∃ c, e = .panicked c ∧ Q (.panic c) a w') : wpListC P ops C dep Q (o :: rest) k a w := by
  unfold wpListC wpOp
  simp only [List.getElem?_toArray, List.getElem?_cons_zero]
  rw [if_pos (by simp [Region.wanted, hg])]
  left
  unfold Oper.wp
  rw [hr]
  refine hc.mono fun e w' he => ?_
  rcases h e w' he with ⟨v, rfl, hC, hk⟩ | ⟨c, rfl, hq⟩
  · exact ⟨fun _ => hC, hk _ fun _ h => h⟩
  · exact hq
theorem wp_normal {c : Code} {a : Act} {w : World} (h : c.wp P (fun e a w => e = .normal ∧ Q .normal a w) a w) : c.wp P Q a w :=
  wp_mono h fun e a w h => by obtain ⟨rfl, h⟩ := h; exact h
end
end Go.Proofs.YtnbiedijofdjhaaDoor
