/-
  Regions that draw their order: everything is quiet but for one store, which may come late: what can come behind it looks at no memory.
-/
import Derived.Test.YtnbiedijofdjhaaDoorVO
namespace Go.Proofs.YtnbiedijofdjhaaDoor
open Go.RowKit

section
variable {P : Program} {ops ops' : Array Oper} {md : Region.Mode} {C C1 : World → Prop} {s : Nat}
/-- An operation that looks at no memory. -/
def stillB (o : Oper) : Bool := match o.op with
  | .move _ => true
  | .assign _ => true
  | .pick _ _ _ => true
  | _ => false
theorem still_cases {o : Oper} (h : stillB o = true) : (∃ x, o.op = .move x) ∨ (∃ x, o.op = .assign x) ∨ (∃ c x y, o.op = .pick c x y) := by
  unfold stillB at h
  split at h
  · exact Or.inl ⟨_, by assumption⟩
  · exact Or.inr (Or.inl ⟨_, by assumption⟩)
  · exact Or.inr (Or.inr ⟨_, _, _, by assumption⟩)
  · cases h
theorem still_quiet {o : Oper} (h : stillB o = true) {a : Act} {W W' : World} {v : Value} (hq : Oper.quietAt P o a C W v) : Oper.quietAt P o a C1 W' v := by
  unfold Oper.quietAt at *
  rcases still_cases h with ⟨x, ho⟩ | ⟨x, ho⟩ | ⟨c, x, y, ho⟩
  · have hr : ∀ W, (execOp a.eval o).run P W = .ok (.value (a.eval x)) W := fun W => by simp only [execOp, ho]; rfl
    rw [hr] at *
    exact ⟨rfl, hq.2⟩
  · have hr : ∀ W, (execOp a.eval o).run P W = .ok (.value (a.eval x)) W := fun W => by simp only [execOp, ho]; rfl
    rw [hr] at *
    exact ⟨rfl, hq.2⟩
  · cases hc : a.eval c with
    | bool b =>
      have hr : ∀ W, (execOp a.eval o).run P W = .ok (.value (if b then a.eval x else a.eval y)) W := fun W => by simp only [execOp, ho, hc]; rfl
      rw [hr] at *
      exact ⟨rfl, hq.2⟩
    | _ =>
      exfalso
      have hr : ∃ r, (execOp a.eval o).run P W = .halt r W := by simp only [execOp, ho, hc]; exact ⟨_, rfl⟩
      obtain ⟨r, hr⟩ := hr
      rw [hr] at hq
      exact hq
/-- Binding edges lead to what stands before. -/
def backB (md : Region.Mode) (ops : Array Oper) : Bool := (List.range ops.size).all fun j => match ops[j]? with
  | some o => o.after.all fun e => !Region.binds md e || decide (e.on < j)
  | none => true
theorem ready_some (hb : backB md ops = true) {listed : Array Bool} (hs : listed.size = ops.size) : ∀ (k j : Nat), j ≤ k → j < ops.size → listed.getD j true = false → Region.ready md ops listed ≠ [] := by
  intro k
  induction k with
  | zero =>
    intro j hj hjs hu h0
    obtain rfl : j = 0 := by omega
    have : 0 ∈ Region.ready md ops listed := by
      refine mem_ready.2 ⟨hu, ops[0], Array.getElem?_eq_getElem hjs, fun e he hbe => ?_⟩
      have h1 := List.all_eq_true.1 hb 0 (List.mem_range.2 hjs)
      rw [Array.getElem?_eq_getElem hjs] at h1
      have h2 := Array.all_eq_true'.1 h1 e he
      simp only [hbe, Bool.not_true, Bool.false_or, decide_eq_true_eq] at h2
      omega
    rw [h0] at this; cases this
  | succ k ih =>
    intro j hj hjs hu h0
    by_cases hall : ∃ i, i < j ∧ listed.getD i true = false
    · obtain ⟨i, hi, hiu⟩ := hall
      exact ih i (by omega) (by omega) hiu h0
    · have : j ∈ Region.ready md ops listed := by
        refine mem_ready.2 ⟨hu, ops[j], Array.getElem?_eq_getElem hjs, fun e he hbe => ?_⟩
        have h1 := List.all_eq_true.1 hb j (List.mem_range.2 hjs)
        rw [Array.getElem?_eq_getElem hjs] at h1
        have h2 := Array.all_eq_true'.1 h1 e he
        simp only [hbe, Bool.not_true, Bool.false_or, decide_eq_true_eq] at h2
        cases hl : listed.getD e.on false with
        | true => rfl
        | false => exact absurd ⟨e.on, h2, getD_in (by omega) hl⟩ hall
      rw [h0] at this; cases this
/-- What a slot holds that nobody writes any more it holds at the end. -/
theorem any_keeps {Q : Act → Prop} {T : List Tmp} : ∀ (f : Nat) (listed : Array Bool) (a : Act), wpAnyQ P md ops C Q f listed a → (∀ w, ¬ C w) ∨ ((∀ j o, ops[j]? = some o → listed.getD j true = false → ∀ t ∈ T, o.dst ≠ some t) → ∃ a', Q a' ∧ ∀ t ∈ T, a.tmps.getD t undef = a'.tmps.getD t undef)
  | 0, listed, a, h => Or.inr fun _ => ⟨a, h.2, fun _ _ => rfl⟩
  | f + 1, listed, a, h => by
    cases hr : Region.ready md ops listed with
    | nil => exact Or.inr fun _ => ⟨a, h.1 hr, fun _ _ => rfl⟩
    | cons i r =>
      have hi : i ∈ Region.ready md ops listed := by rw [hr]; simp
      obtain ⟨hun, o, ho, -⟩ := mem_ready.1 hi
      obtain ⟨v, -, hk⟩ := yieldsIn_of_qOp ho (h.2 i hi)
      rcases any_keeps f _ _ hk with hc | ih
      · exact Or.inl hc
      · refine Or.inr fun hT => ?_
        obtain ⟨a', hq, he⟩ := ih fun j oj hj hu t ht => by
          refine hT j oj hj ?_ t ht
          by_cases hij : i = j
          · subst hij; exact hun
          · rw [getD_set_ne true hij] at hu; exact hu
        refine ⟨a', hq, fun t ht => ?_⟩
        rw [← he t ht]
        have hne := hT i o ho hun t ht
        cases hd : o.dst with
        | none => rfl
        | some d => exact (put_getD (fun e => hne (by rw [hd, e]))).symm
theorem any_phase {os nop : Oper} (hs : ops[s]? = some os) (hs' : ops'[s]? = some nop) (hoth : ∀ j, j ≠ s → ops'[j]? = ops[j]?) (haft : nop.after = os.after) (hd : os.dst = none) (hd' : nop.dst = none) (hg : os.guard = none) (hb : backB md ops = true)
    (hstill : ∀ j o, ops[j]? = some o → j ≠ s → (∃ e ∈ os.after, Region.binds md e = true ∧ e.on = j) ∨ stillB o = true)
    {T : List Tmp} (hT : ∀ j o, ops[j]? = some o → (∃ t ∈ T, o.dst = some t) → ∃ e ∈ os.after, Region.binds md e = true ∧ e.on = j)
    {Q : Act → Prop} {Q' : Exit → Act → World → Prop} {W0 : World} (hW0 : C W0)
    (hstore : ∀ (a a' : Act), Q a' → (∀ t ∈ T, a.tmps.getD t undef = a'.tmps.getD t undef) → ∀ W, C W → ∃ W', (execOp a.eval os).run P W = .ok .skip W' ∧ C1 W')
    (hQ : ∀ a W, Q a → C1 W → Q' .normal a W) :
    ∀ (f : Nat) (listed : Array Bool) (a : Act) (W : World), listed.size = ops.size → wpAnyQ P md ops' C Q f listed a → (listed.getD s true = false → C W) →
      (listed.getD s false = true → C1 W ∧ ∀ j o, ops[j]? = some o → listed.getD j true = false → stillB o = true) → wpAny P md ops Q' f listed a W := by
  have hss : s < ops.size := (Array.getElem?_eq_some_iff.1 hs).1
  have hmem : ∀ (listed : Array Bool) i, i ∈ Region.ready md ops' listed ↔ i ∈ Region.ready md ops listed := fun listed i => by
    rw [mem_ready, mem_ready]
    by_cases hi : i = s
    · subst hi
      rw [hs, hs']
      constructor
      · rintro ⟨h1, o, ho, h2⟩
        obtain rfl := Option.some.inj ho
        exact ⟨h1, os, rfl, by rw [← haft]; exact h2⟩
      · rintro ⟨h1, o, ho, h2⟩
        obtain rfl := Option.some.inj ho
        exact ⟨h1, nop, rfl, by rw [haft]; exact h2⟩
    · rw [hoth i hi]
  have hnil : ∀ listed : Array Bool, Region.ready md ops' listed = [] ↔ Region.ready md ops listed = [] := fun listed => by
    rw [List.eq_nil_iff_forall_not_mem, List.eq_nil_iff_forall_not_mem]
    exact ⟨fun h i hi => h i ((hmem listed i).2 hi), fun h i hi => h i ((hmem listed i).1 hi)⟩
  have hdone : ∀ listed : Array Bool, listed.size = ops.size → Region.ready md ops listed = [] → listed.getD s false = true := fun listed hsz h0 => by
    cases hl : listed.getD s false with
    | true => rfl
    | false => exact absurd h0 (ready_some hb hsz s s (Nat.le_refl _) hss (getD_in (by omega) hl))
  have hy : ∀ tmps, yielded ops' tmps = yielded ops tmps := fun tmps => by
    funext j
    unfold yielded
    by_cases hj : j = s
    · subst hj
      rw [hs, hs']
      simp only [Option.bind_some, hd, hd']
    · rw [hoth j hj]
  have hqo : ∀ i (K : Act → Prop) a, i ≠ s → qOp P ops' C i K a → qOp P ops C i K a := fun i K a hi h => by
    unfold qOp at h ⊢
    rw [hoth i hi, hy] at h
    exact h
  intro f
  induction f with
  | zero =>
    intro listed a W hsz h _ h1
    have h0 := (hnil listed).1 h.1
    exact ⟨h0, hQ a W h.2 (h1 (hdone listed hsz h0)).1⟩
  | succ f ih =>
    intro listed a W hsz h hc h1
    refine ⟨fun h0 => hQ a W (h.1 ((hnil listed).2 h0)) (h1 (hdone listed hsz h0)).1, fun i hi => ?_⟩
    obtain ⟨hun, oi, hoi, hall⟩ := mem_ready.1 hi
    have hq := h.2 i ((hmem listed i).2 hi)
    have hsz' : (listed.setIfInBounds i true).size = ops.size := by simpa using hsz
    by_cases his : i = s
    · subst his
      obtain rfl : oi = os := Option.some.inj (hoi.symm.trans hs)
      obtain ⟨v, -, hk⟩ := yieldsIn_of_qOp hs' hq
      rw [hd'] at hk
      have hk' : wpAnyQ P md ops' C Q f (listed.setIfInBounds i true) a := hk
      have hlisted : ∀ j, (∃ e ∈ oi.after, Region.binds md e = true ∧ e.on = j) → listed.getD j true = false → False := fun j ⟨e, he, hbe, hej⟩ hu => by
        have h2 := hall e he hbe
        rw [hej, getD_both hu] at h2
        cases h2
      have hun2 : ∀ j, (listed.setIfInBounds i true).getD j true = false → j ≠ i ∧ listed.getD j true = false := fun j hu => by
        by_cases hij : i = j
        · subst hij
          have : (listed.setIfInBounds i true).getD i true = true := by
            have : i < listed.size := by omega
            simp [this]
          rw [this] at hu; cases hu
        · rw [getD_set_ne true hij] at hu
          exact ⟨fun e => hij e.symm, hu⟩
      rcases any_keeps (T := T) f _ _ hk' with hno | hkeep
      · exact absurd hW0 (hno W0)
      obtain ⟨a', ha', he'⟩ := hkeep fun j oj hj hu t ht hdj => by
        obtain ⟨hji, hju⟩ := hun2 j hu
        rw [hoth j hji] at hj
        exact hlisted j (hT j oj hj ⟨t, ht, hdj⟩) hju
      obtain ⟨W', hrun, hC1⟩ := hstore a a' ha' he' W (hc hun)
      unfold wpOp
      simp only [hs]
      rw [if_pos (by simp [Region.wanted, hg])]
      left
      unfold Oper.wp
      rw [hrun]
      show wpAny P md ops Q' f (listed.setIfInBounds i true) (a.put oi.dst undef) W'
      rw [hd]
      refine ih (listed.setIfInBounds i true) a W' hsz' hk' (fun hu => absurd rfl (hun2 i hu).1) fun _ => ⟨hC1, fun j oj hj hu => ?_⟩
      obtain ⟨hji, hju⟩ := hun2 j hu
      rcases hstill j oj hj hji with h | h
      · exact (hlisted j h hju).elim
      · exact h
    · have hq2 := hqo i _ a his hq
      have hsi : ∀ d, (listed.setIfInBounds i true).getD s d = listed.getD s d := fun d => getD_set_ne d his
      cases hl : listed.getD s false with
      | false =>
        have hus := getD_in (by omega) hl
        exact wpOp_of_qOp (hc hus) (fun a' w' hw' hk => ih _ a' w' hsz' hk (fun _ => hw') fun h2 => by rw [hsi, hl] at h2; cases h2) hq2
      | true =>
        obtain ⟨hC1, hst⟩ := h1 hl
        obtain ⟨v, hyv, hk⟩ := yieldsIn_of_qOp hoi hq2
        have hyW : YieldsIn P ops (fun w => w = W) oi v a := by
          rcases hyv with ⟨hw, hv⟩ | ⟨hw, hv⟩
          · exact Or.inl ⟨hw, fun w _ => still_quiet (hst i oi hoi hun) (hv W0 hW0)⟩
          · exact Or.inr ⟨hw, hv⟩
        refine wpOp_of_qOp (C := fun w => w = W) (K := wpAnyQ P md ops' C Q f (listed.setIfInBounds i true)) rfl (fun a' w' hw' hk => ?_) (hyW.qOp hoi hk)
        subst hw'
        refine ih _ a' w' hsz' hk (fun hu => ?_) fun _ => ⟨hC1, fun j oj hj hu => ?_⟩
        · rw [hsi] at hu
          rw [getD_both hu] at hl; cases hl
        · refine hst j oj hj ?_
          by_cases hij : i = j
          · subst hij; exact hun
          · rw [getD_set_ne true hij] at hu; exact hu
/-- The checks that the kernel makes. -/
def phaseB (md : Region.Mode) (ops : Array Oper) (s : Nat) (os : Oper) (T : List Tmp) : Bool :=
  backB md ops && ((List.range ops.size).all fun j => match ops[j]? with
    | some o => (decide (j = s) || (os.after.any (fun e => Region.binds md e && decide (e.on = j)) || stillB o)) && (!(T.any fun t => o.dst == some t) || os.after.any (fun e => Region.binds md e && decide (e.on = j)))
    | none => true)
/-- The store left out. -/
def nopOf (o : Oper) : Oper := { o with op := .move (.const (.bool true)) }
/-- **A region that draws its order, everything quiet but for one store of a value y behind a pointer x, which may come late.** -/
theorem wp_region_phase {id : Nat} {a : Act} {w : World} {l : List Oper} (C C1 : World → Prop) (s : Nat) (os : Oper) (tx ty : Tmp) (vx vy : Value) (t : TypeId) {Q' : Exit → Act → World → Prop} (hm : P.follows .mixedOrders = true)
    (hs : l[s]? = some os) (hop : os.op = .store t (.tmp tx) (.tmp ty)) (hd : os.dst = none) (hg : os.guard = none) (hB : Region.lexB .any (l.set s (nopOf os)).toArray = true) (hP : phaseB .any l.toArray s os [tx, ty] = true) (hC : C w.drew)
    (hstore : ∀ W, C W → ∃ W', (Instr.storeAt t vx vy).run P W = .ok () W' ∧ C1 W')
    (h : wpQuiet P (l.set s (nopOf os)).toArray C (fun a' => a'.tmps.getD tx undef = vx ∧ a'.tmps.getD ty undef = vy ∧ ∀ W, C1 W → Q' .normal a' W) (l.set s (nopOf os)) a) : (Code.region id l.toArray true).wp P Q' a w := by
  obtain ⟨T, hT⟩ : ∃ T, T = [tx, ty] := ⟨_, rfl⟩
  rw [← hT] at hP
  obtain ⟨nop, hnop⟩ : ∃ n, n = nopOf os := ⟨_, rfl⟩
  rw [← hnop] at hB h
  have haft : nop.after = os.after := by rw [hnop]; rfl
  have hd' : nop.dst = none := by rw [hnop]; exact hd
  obtain ⟨Q, hQd⟩ : ∃ Q : Act → Prop, Q = fun a' => a'.tmps.getD tx undef = vx ∧ a'.tmps.getD ty undef = vy ∧ ∀ W, C1 W → Q' .normal a' W := ⟨_, rfl⟩
  rw [← hQd] at h
  have hQ : ∀ a W, Q a → C1 W → Q' .normal a W := fun a W hq hc => by rw [hQd] at hq; exact hq.2.2 W hc
  replace hstore : ∀ (a a' : Act), Q a' → (∀ t ∈ T, a.tmps.getD t undef = a'.tmps.getD t undef) → ∀ W, C W → ∃ W', (execOp a.eval os).run P W = .ok .skip W' ∧ C1 W' := fun a a' hq he W hw => by
    rw [hQd] at hq
    obtain ⟨W', h1, h2⟩ := hstore W hw
    refine ⟨W', ?_, h2⟩
    have ex : a.eval (.tmp tx) = vx := by rw [← hq.1, ← he tx (by rw [hT]; simp)]; rfl
    have ey : a.eval (.tmp ty) = vy := by rw [← hq.2.1, ← he ty (by rw [hT]; simp)]; rfl
    simp only [execOp, hop, ex, ey, Sem.run_bind, Sem.run_pure, Result.andThen_ok, h1]
  clear hT hnop hQd
  simp only [phaseB, Bool.and_eq_true] at hP
  obtain ⟨hb, hall⟩ := hP
  have hlen := (List.getElem?_eq_some_iff.1 hs).1
  have hany : ∀ j, os.after.any (fun e => Region.binds .any e && decide (e.on = j)) = true → ∃ e ∈ os.after, Region.binds .any e = true ∧ e.on = j := fun j h => by
    obtain ⟨e, he, h2⟩ := Array.any_eq_true'.1 h
    simp only [Bool.and_eq_true, decide_eq_true_eq] at h2
    exact ⟨e, he, h2⟩
  have hj : ∀ j o, l.toArray[j]? = some o → (j = s ∨ (∃ e ∈ os.after, Region.binds .any e = true ∧ e.on = j) ∨ stillB o = true) ∧ ((∃ t ∈ T, o.dst = some t) → ∃ e ∈ os.after, Region.binds .any e = true ∧ e.on = j) := fun j o ho => by
    have hjs : j < l.toArray.size := (Array.getElem?_eq_some_iff.1 ho).1
    have h2 := List.all_eq_true.1 hall j (List.mem_range.2 hjs)
    rw [ho] at h2
    simp only [Bool.and_eq_true, Bool.or_eq_true, decide_eq_true_eq, Bool.not_eq_true'] at h2
    refine ⟨?_, fun ⟨t, ht, hdt⟩ => ?_⟩
    · rcases h2.1 with h | h | h
      · exact Or.inl h
      · exact Or.inr (Or.inl (hany j h))
      · exact Or.inr (Or.inr h)
    · rcases h2.2 with h | h
      · rw [List.any_eq_false] at h
        exact absurd (by simp [hdt]) (h t ht)
      · exact hany j h
  simp only [Region.lexB, Bool.and_eq_true] at hB
  have H := wpAnyQ_lex (P := P) (C := C) (md := .any) hB.1 (l.set s nop) 0 (Array.replicate (l.set s nop).toArray.size false) a (by simp) (by simpa using hB.2) h
  refine wp_region_any hm ?_
  have := any_phase (P := P) (md := .any) (ops := l.toArray) (ops' := (l.set s nop).toArray) (C := C) (C1 := C1) (s := s) (os := os) (nop := nop) (by simpa using hs) (by simp [hlen]) (fun j hjs => by
      simp only [List.getElem?_toArray]
      exact List.getElem?_set_ne (fun e => hjs e.symm)) haft hd hd' hg hb (fun j o ho hjs => ((hj j o ho).1.resolve_left hjs)) (T := T) (fun j o ho h => (hj j o ho).2 h) (Q := Q) (Q' := Q') hC hstore hQ _ _ a w.drew (by simp) H (fun _ => hC) (fun h => by
      rw [show (Array.replicate (l.set s nop).toArray.size false).getD s false = false from getD_replicate_false _ _] at h; cases h)
  simpa using this
end
end Go.Proofs.YtnbiedijofdjhaaDoor
