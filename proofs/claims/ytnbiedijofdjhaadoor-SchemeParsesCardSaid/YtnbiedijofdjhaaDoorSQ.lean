/-
  Regions that draw their order: a head of operations that each yield one value in every world of a class (calls may panic instead, all of them alike), behind it a chain.
-/
import Derived.Test.YtnbiedijofdjhaaDoorSI
import Derived.StillTail
import Derived.BigQuiet
namespace Go.Proofs.YtnbiedijofdjhaaDoor
open Go.RowKit

section
variable {P : Program} {ops : Array Oper} {md : Region.Mode} {C : World → Prop} {m : Prop} {pc : List PanicEntry} {Q : Exit → Act → World → Prop}
/-- What is asked of what an operation has become: the value v, or a call that hands back v, and then g holds, or panics. -/
def qpUpon (P : Program) (C : World → Prop) (m : Prop) (pc : List PanicEntry) (w : World) (v : Value) (g : Prop) : Result Next → Prop
  | .ok (.value u) w' => w' = w ∧ u = v ∧ g
  | .ok .skip w' => w' = w ∧ v = undef ∧ g
  | .ok (.enter f args) w' => w' = w ∧ Calls P f args w (fun e w'' => ((e = .returned v ∧ g) ∨ (m ∧ e = .panicked pc)) ∧ C w'')
  | _ => False
def QpAt (P : Program) (C : World → Prop) (m : Prop) (pc : List PanicEntry) (o : Oper) (v : Value) (g : Prop) (a : Act) : Prop :=
  o.guard = none ∧ ∀ w, C w → qpUpon P C m pc w v g ((execOp a.eval o).run P w)
/-- The walk in the text's order. -/
def wpQP (P : Program) (C : World → Prop) (m : Prop) (pc : List PanicEntry) (Z : Prop → Act → Prop) : List Oper → Prop → Act → Prop
  | [], G, a => Z G a
  | o :: rest, G, a => ∃ v g, QpAt P C m pc o v g a ∧ wpQP P C m pc Z rest (G ∧ g) (a.put o.dst v)
def qpAnyL (P : Program) (md : Region.Mode) (ops : Array Oper) (C : World → Prop) (m : Prop) (pc : List PanicEntry) (n : Nat) (L : Array Bool → Prop → Act → Prop) : Nat → Array Bool → Prop → Act → Prop
  | 0, listed, G, a => L listed G a
  | f + 1, listed, G, a => Region.ready md ops listed ≠ [] ∧ ∀ i ∈ Region.ready md ops listed, i < n ∧
      ∃ o v g, ops[i]? = some o ∧ QpAt P C m pc o v g a ∧ qpAnyL P md ops C m pc n L f (listed.setIfInBounds i true) (G ∧ g) (a.put o.dst v)

theorem qp_wpOp {i : Nat} {o : Oper} {v : Value} {g : Prop} {a : Act} {w : World} {K : Act → World → Prop} (hi : ops[i]? = some o) (hq : QpAt P C m pc o v g a) (hC : C w) (hQ : m → ∀ w, C w → Q (.panic pc) a w)
    (hK : ∀ w', C w' → g → K (a.put o.dst v) w') : wpOp P ops Q i K a w := by
  obtain ⟨hg, hq⟩ := hq
  unfold wpOp
  simp only [hi]
  rw [if_pos (by simp [Region.wanted, hg])]
  have h := hq w hC
  left
  unfold Oper.wp
  generalize (execOp a.eval o).run P w = r at *
  cases r with
  | halt x w' => simp only [qpUpon] at h
  | ok u w' =>
    cases u <;> simp only [qpUpon] at h <;> simp only [Oper.upon]
    case value u =>
      obtain ⟨e1, e2, e3⟩ := h
      rw [e1, e2]
      exact hK _ hC e3
    case skip =>
      obtain ⟨e1, e2, e3⟩ := h
      rw [e1, ← e2]
      exact hK _ hC e3
    case enter f args =>
      obtain ⟨e1, hc⟩ := h
      rw [e1]
      refine hc.mono fun e w'' he => ?_
      obtain ⟨he, hw⟩ := he
      rcases he with ⟨he, hg'⟩ | ⟨hm, he⟩
      · subst he; exact hK _ hw hg'
      · subst he; exact hQ hm _ hw

theorem put_defers (a : Act) (d : Option Tmp) (v : Value) : (a.put d v).defers = a.defers := by cases d <;> rfl
theorem any_of_qp {n sz : Nat} {L : Array Bool → Prop → Act → Prop} {D : List Deferred} (hQ : m → ∀ a w, a.defers = D → C w → Q (.panic pc) a w) (hL : ∀ listed G a w, L listed G a → G → C w → wpAny P md ops Q sz listed a w) :
    ∀ (f : Nat) (listed : Array Bool) (G : Prop) (a : Act) (w : World), qpAnyL P md ops C m pc n L f listed G a → G → C w → a.defers = D → wpAny P md ops Q (f + sz) listed a w
  | 0, listed, G, a, w, h, hG, hC, _ => by rw [Nat.zero_add]; exact hL _ _ _ _ h hG hC
  | f + 1, listed, G, a, w, h, hG, hC, hD => by
    rw [show f + 1 + sz = (f + sz) + 1 by omega]
    refine ⟨fun h0 => absurd h0 h.1, fun i hi => ?_⟩
    obtain ⟨-, o, v, g, ho, hq, hk⟩ := h.2 i hi
    exact qp_wpOp ho hq hC (fun hm w hw => hQ hm a w hD hw) fun w' hw' hg => any_of_qp hQ hL f _ _ _ w' hk ⟨hG, hg⟩ hw' ((put_defers a o.dst v).trans hD)

/-- As long as one of the operations s .. n - 1 is missing, none behind them may come up. -/
theorem tail_waits_from {s n : Nat} {listed : Array Bool} (hs : ∀ i, s ≤ i → i < n → ∃ j, j ≤ n ∧ i < j ∧ Region.waitsFor md ops j i = true) (hc : Region.chainB md ops n = true) (hn : n < ops.size) (inv : HeadInv md ops n listed) :
    ∀ (d i : Nat), n - i = d → s ≤ i → i < n → listed.getD i true = false → ∀ t, n ≤ t → t ∉ Region.ready md ops listed := by
  intro d
  induction d using Nat.strongRecOn with
  | _ d ih =>
    intro i hd hsi hi hun t ht hr
    obtain ⟨-, ot, hot, hall⟩ := mem_ready.1 hr
    have htlt : t < ops.size := (Array.getElem?_eq_some_iff.1 hot).1
    rcases Nat.lt_or_ge n t with htn | htn
    · have h1 := List.all_eq_true.1 hc t (List.mem_range.2 htlt)
      simp only [Bool.or_eq_true, decide_eq_true_eq] at h1
      rcases h1 with h1 | h1
      · omega
      · obtain ⟨o', ho', e, he, hb, hon⟩ := Region.waitsFor_spec h1
        obtain rfl : o' = ot := Option.some.inj (ho'.symm.trans hot)
        have h2 := hall e he hb
        rw [hon, getD_both (inv.tail (t - 1) (by omega) (by omega))] at h2
        cases h2
    · obtain rfl : t = n := by omega
      obtain ⟨j, hjn, hij, hw⟩ := hs i hsi hi
      obtain ⟨oj, hoj, e, he, hb, hon⟩ := Region.waitsFor_spec hw
      by_cases hjt : j = t
      · subst hjt
        obtain rfl : oj = ot := Option.some.inj (hoj.symm.trans hot)
        have h2 := hall e he hb
        rw [hon, getD_both hun] at h2
        cases h2
      · cases hl : listed.getD j false with
        | true =>
          have h2 := inv.closed j oj hoj hl e he hb
          rw [hon, getD_both hun] at h2
          cases h2
        | false => exact ih (t - j) (by omega) j rfl (by omega) (by omega) (getD_in (by rw [inv.size]; omega) hl) t (Nat.le_refl _) hr

theorem QpAt.put {oi oj : Oper} {v u : Value} {g : Prop} {a : Act} (hap : oi.apart ops oj = true) (hsi : ∀ cs b, oi.op ≠ .select cs b) (hy : QpAt P C m pc oi v g a) : QpAt P C m pc oi v g (a.put oj.dst u) := by
  obtain ⟨-, -, h3⟩ := Oper.apart_spec hap
  exact ⟨hy.1, fun w hw => by rw [execOp_put oi hsi a oj.dst u h3]; exact hy.2 w hw⟩
theorem qp_first {s n i : Nat} {oi : Oper} {v : Value} {g : Prop} {L : Array Bool → Prop → Act → Prop} (hi : ops[i]? = some oi) (hsel : ∀ (j : Nat) (o : Oper) cs b, ops[j]? = some o → o.op ≠ .select cs b)
    (hs : ∀ i, s ≤ i → i < n → ∃ j, j ≤ n ∧ i < j ∧ Region.waitsFor md ops j i = true) (hc : Region.chainB md ops n = true) (hn : n < ops.size) (hsi : s ≤ i) (hin : i < n)
    (hdone : ∀ listed G a, L listed G a → ∀ j ∈ Region.ready md ops listed, n ≤ j) :
    ∀ (f : Nat) (listed : Array Bool) (G : Prop) (a : Act), HeadInv md ops n listed →
      (∀ j oj, ops[j]? = some oj → j ≠ i → listed.getD j true = false → (∀ e ∈ oj.after, Region.binds md e = true → e.on ≠ i) → oi.apart ops oj = true) →
      i ∈ Region.ready md ops listed → QpAt P C m pc oi v g a →
      qpAnyL P md ops C m pc n L f (listed.setIfInBounds i true) (G ∧ g) (a.put oi.dst v) → qpAnyL P md ops C m pc n L (f + 1) listed G a := by
  intro f
  induction f with
  | zero =>
    intro listed G a inv _ hr hy H
    have hun := (mem_ready.1 hr).1
    refine ⟨fun h => (by rw [h] at hr; cases hr), fun j hj => ?_⟩
    have hjn : j < n := Nat.lt_of_not_le fun h => tail_waits_from hs hc hn inv _ i rfl hsi hin hun j h hj
    refine ⟨hjn, ?_⟩
    by_cases hji : j = i
    · subst hji; exact ⟨oi, v, g, hi, hy, H⟩
    · have := hdone _ _ _ H j (ready_mono hj hji)
      omega
  | succ f ih =>
    intro listed G a inv hfree hr hy H
    have hun := (mem_ready.1 hr).1
    refine ⟨fun h => (by rw [h] at hr; cases hr), fun j hj => ?_⟩
    have hjn : j < n := Nat.lt_of_not_le fun h => tail_waits_from hs hc hn inv _ i rfl hsi hin hun j h hj
    refine ⟨hjn, ?_⟩
    by_cases hji : j = i
    · subst hji; exact ⟨oi, v, g, hi, hy, H⟩
    · obtain ⟨-, oj, u, g', hoj, hq, hk⟩ := H.2 j (ready_mono hj hji)
      obtain ⟨hjun, oj', hoj', hall⟩ := mem_ready.1 hj
      obtain rfl : oj' = oj := Option.some.inj (hoj'.symm.trans hoj)
      have hnot : ∀ e ∈ oj'.after, Region.binds md e = true → e.on ≠ i := fun e he hb heq => by
        have h1 := hall e he hb
        rw [heq, getD_both hun] at h1
        cases h1
      have hap := hfree j oj' hoj hji hjun hnot
      obtain ⟨h1, h2, h3⟩ := Oper.apart_spec hap
      have hq' : QpAt P C m pc oj' u g' a := ⟨hq.1, fun w hw => by
        have := hq.2 w hw
        rwa [execOp_put oj' (fun cs b => hsel j oj' cs b hoj) a oi.dst v h1] at this⟩
      refine ⟨oj', u, g', hoj, hq', ?_⟩
      refine ih (listed.setIfInBounds j true) (G ∧ g') (a.put oj'.dst u) (inv.set hj hjn) (fun k ok hk hki hun' hno => ?_) (ready_mono hr (Ne.symm hji)) (hy.put hap fun cs b => hsel i oi cs b hi) ?_
      · refine hfree k ok hk hki ?_ hno
        by_cases hjk : j = k
        · subst hjk; exact hjun
        · rw [getD_set_ne true hjk] at hun'; exact hun'
      · rw [Array.setIfInBounds_comm _ _ hji, ← Act.put_comm a v u h2, show ((G ∧ g') ∧ g) = ((G ∧ g) ∧ g') from propext and_right_comm]
        exact hk
theorem qp_lex {s n sz : Nat} {Z : Prop → Act → Prop} (hsel : Region.noSelect ops = true) (hs : ∀ i, s ≤ i → i < n → ∃ j, j ≤ n ∧ i < j ∧ Region.waitsFor md ops j i = true) (hc : Region.chainB md ops n = true) (hn : n < ops.size) :
    ∀ (l : List Oper) (k : Nat) (listed : Array Bool) (G : Prop) (a : Act), (∀ j, j < l.length → l[j]? = ops[k + j]?) → s ≤ k → k + l.length = n → HeadInv md ops n listed →
    Region.lexHead md ops sz l.length k listed = true → wpQP P C m pc Z l G a →
    qpAnyL P md ops C m pc n (fun listed' G' a' => Region.seqB md ops sz n listed' = true ∧ Z G' a') l.length listed G a
  | [], k, listed, G, a, _, _, hk, _, hB, h => by
    obtain rfl : k = n := by simpa using hk
    exact ⟨by simpa [Region.lexHead] using hB, h⟩
  | o :: l, k, listed, G, a, hl, hsk, hk, inv, hB, h => by
    have h0 : ops[k]? = some o := by simpa using (hl 0 (by simp)).symm
    simp only [List.length_cons, Region.lexHead, Bool.and_eq_true] at hB
    obtain ⟨⟨hr, hf⟩, hB'⟩ := hB
    simp only [List.length_cons] at hk
    have hkn : k < n := by omega
    have hr' : k ∈ Region.ready md ops listed := by simpa using hr
    obtain ⟨v, g, hq, hK⟩ := h
    exact qp_first h0 (Region.noSelect_spec hsel) hs hc hn hsk hkn (fun listed' G' a' hL => seqB_ready hL.1) l.length listed G a inv (Region.free_spec h0 hf) hr' hq
      (qp_lex hsel hs hc hn l (k + 1) _ _ _ (fun j hj => by have := hl (j + 1) (by simp; omega); simpa [Nat.add_assoc, Nat.add_comm 1 j] using this) (by omega) (by omega) (inv.set hr' hkn) hB' hK)
theorem HeadInv.start {n : Nat} : HeadInv md ops n (Array.replicate ops.size false) :=
  ⟨by simp, fun j oj _ hl => (by rw [getD_replicate_false] at hl; cases hl), fun t _ ht => getD_in (by simpa using ht) (getD_replicate_false _ _)⟩
/-- **A head of n operations in any order, a chain behind it.** -/
theorem wp_region_qp {id : Nat} {a : Act} {w : World} {l : List Oper} (n : Nat) (hm : P.follows .mixedOrders = true) (hB : Region.lexTailB .any l.toArray n = true) (hC : C { w with drawn := w.drawn + 1 })
    (hQ : m → ∀ a' w, a'.defers = a.defers → C w → Q (.panic pc) a' w) (h : wpQP P C m pc (fun G a' => G → ∀ w', C w' → wpList P l.toArray Q (l.drop n) a' w') (l.take n) True a) : (Code.region id l.toArray true).wp P Q a w := by
  simp only [Region.lexTailB, Bool.and_eq_true, decide_eq_true_eq] at hB
  obtain ⟨⟨⟨⟨hsel, hn⟩, hs⟩, hc⟩, hlex⟩ := hB
  have hn' : n < l.length := by simpa using hn
  have htl : (l.take n).length = n := by simp; omega
  have hdl : (l.drop n).length = l.toArray.size - n := by simp
  have hs' : ∀ i, 0 ≤ i → i < n → ∃ j, j ≤ n ∧ i < j ∧ Region.waitsFor .any l.toArray j i = true := fun i _ hi => by
    obtain ⟨j, hj, hj2⟩ := List.any_eq_true.1 (List.all_eq_true.1 hs i (List.mem_range.2 hi))
    simp only [Bool.and_eq_true, decide_eq_true_eq] at hj2
    exact ⟨j, by have := List.mem_range.1 hj; omega, hj2.1, hj2.2⟩
  have H := qp_lex (md := .any) (sz := l.toArray.size - n) hsel hs' hc hn (l.take n) 0 _ True a (fun j hj => by
    have hj' : j < n := by rw [htl] at hj; exact hj
    simp [hj']) (Nat.le_refl _) (by simpa using htl) HeadInv.start (by rw [htl]; exact hlex) h
  refine wp_region_any hm ?_
  have := any_of_qp (Q := Q) (sz := l.toArray.size - n) hQ (fun listed G a' w' hL hG hw => by
    have := wpAny_of_seq (md := .any) (Q' := Q) (l.drop n) n listed a' w' (fun j => by simp [List.getElem?_drop]) (by rw [hdl]; exact hL.1) (hL.2 hG w' hw)
    rwa [hdl] at this) _ _ _ _ _ H trivial hC rfl
  rw [htl, show n + (l.toArray.size - n) = l.toArray.size by omega] at this
  exact this
/-- The same where the first operation hands on a slot that only the chain reads. -/
def lexTail1B (ops : Array Oper) (n : Nat) : Bool :=
  Region.noSelect ops && (decide (n < ops.size) && (decide (1 ≤ n) && (((List.range n).all fun i => decide (i = 0) || (List.range (n + 1)).any fun j => decide (i < j) && Region.waitsFor .any ops j i) && (Region.chainB .any ops n && (Region.free .any ops (Array.replicate ops.size false) 0 && ((Region.ready .any ops (Array.replicate ops.size false)).contains 0 && Region.lexHead .any ops (ops.size - n) (n - 1) 1 ((Array.replicate ops.size false).setIfInBounds 0 true)))))))
theorem wp_region_qp1 {id : Nat} {a : Act} {w : World} {o : Oper} {l : List Oper} (x : Operand) (n : Nat) (hm : P.follows .mixedOrders = true) (hB : lexTail1B (o :: l).toArray (n + 1) = true) (ho : o.op = .move x) (hg : o.guard = none) (hC : C { w with drawn := w.drawn + 1 })
    (h : ∀ K : Act → Prop, (∀ a, wpQP P C False pc (fun G a' => G → ∀ w', C w' → wpList P (o :: l).toArray (fun e a w => e = .normal ∧ Q .normal a w) (l.drop n) a' w') (l.take n) True a → K a) → K (a.put o.dst (a.eval x))) : (Code.region id (o :: l).toArray true).wp P Q a w := by
  replace h := h _ fun _ h => h
  refine wp_mono (Q := fun e a w => e = .normal ∧ Q .normal a w) ?_ fun e a w h => by obtain ⟨rfl, h⟩ := h; exact h
  simp only [lexTail1B, Bool.and_eq_true, decide_eq_true_eq] at hB
  obtain ⟨hsel, hn, -, hs, hc, hf, hr, hlex⟩ := hB
  have hn' : n < l.length := by simpa using hn
  have htl : (l.take n).length = n := by simp; omega
  have hdl : (l.drop n).length = (o :: l).toArray.size - (n + 1) := by simp
  have hs' : ∀ i, 1 ≤ i → i < n + 1 → ∃ j, j ≤ n + 1 ∧ i < j ∧ Region.waitsFor .any (o :: l).toArray j i = true := fun i h1 hi => by
    have h2 := List.all_eq_true.1 hs i (List.mem_range.2 hi)
    simp only [Bool.or_eq_true, decide_eq_true_eq] at h2
    rcases h2 with h2 | h2
    · omega
    obtain ⟨j, hj, hj2⟩ := List.any_eq_true.1 h2
    simp only [Bool.and_eq_true, decide_eq_true_eq] at hj2
    exact ⟨j, by have := List.mem_range.1 hj; omega, hj2.1, hj2.2⟩
  have h0 : (o :: l).toArray[0]? = some o := by simp
  have hr0 : 0 ∈ Region.ready .any (o :: l).toArray (Array.replicate (o :: l).toArray.size false) := by simpa using hr
  have H := qp_lex (md := .any) (sz := (o :: l).toArray.size - (n + 1)) hsel hs' hc hn (l.take n) 1 ((Array.replicate (o :: l).toArray.size false).setIfInBounds 0 true) True _ (fun j hj => by
    have hj' : j < n := by rw [htl] at hj; exact hj
    rw [List.getElem?_take_of_lt hj']
    simp [Nat.add_comm 1 j]) (Nat.le_refl _) (by rw [htl, Nat.add_comm]) (HeadInv.start.set hr0 (Nat.succ_pos n)) (by rw [htl]; exact hlex) h
  refine wp_region_any hm ?_
  have := any_of_qp (Q := fun e a w => e = .normal ∧ Q .normal a w) (sz := (o :: l).toArray.size - (n + 1)) (fun h => h.elim) (fun listed G a' w' hL hG hw => by
    have := wpAny_of_seq (md := .any) (Q' := fun e a w => e = .normal ∧ Q .normal a w) (l.drop n) (n + 1) listed a' w' (fun j => by rw [List.getElem?_drop, show n + 1 + j = (n + j) + 1 by omega]; simp) (by rw [hdl]; exact hL.1) (hL.2 hG w' hw)
    rwa [hdl] at this) _ _ _ _ _ H trivial hC rfl
  rw [htl] at this
  have h4 := wpAny_first (P := P) (Q := fun e a w => e = .normal ∧ Q .normal a w) (md := .any) (v := a.eval x) h0 (Region.noSelect_spec hsel) (fun c a w hh => by cases hh.1) _ _ a { w with drawn := w.drawn + 1 } (Region.free_spec h0 hf) hr0
    (.inl ⟨by simp [Region.wanted, hg], fun W => BigFrame.run_move x ho W⟩) this
  have e : n + ((o :: l).toArray.size - (n + 1)) + 1 = (o :: l).toArray.size := by omega
  rw [e] at h4
  exact h4

theorem wpQP_step {Z : Prop → Act → Prop} {o : Oper} {rest : List Oper} {G : Prop} {a : Act} (hg : o.guard = none)
    (h : ∀ K : Act → Prop, (∀ a, wpQP P C m pc Z rest G a → K a) → o.quiet P a C K) : wpQP P C m pc Z (o :: rest) G a := by
  obtain ⟨v, h1, h2⟩ := h (fun a => wpQP P C m pc Z rest G a) (fun _ h => h)
  refine ⟨v, True, ⟨hg, fun w hw => ?_⟩, ?_⟩
  · have h3 := h1 w hw
    unfold Oper.quietAt at h3
    generalize (execOp a.eval o).run P w = r at *
    cases r with
    | halt x w' => simp only [Oper.quietUpon] at h3
    | ok u w' =>
      cases u <;> simp only [Oper.quietUpon] at h3 <;> simp only [qpUpon]
      case value u => exact ⟨h3.1, h3.2, trivial⟩
      case skip => exact ⟨h3.1, h3.2, trivial⟩
      case enter f args => exact ⟨h3.1, h3.2.mono fun e w' he => ⟨.inl ⟨he.1, trivial⟩, he.2⟩⟩
  · rw [show (G ∧ True) = G from propext (and_iff_left trivial)]; exact h2
theorem wpQP_may {Z : Prop → Act → Prop} {o : Oper} {rest : List Oper} {G : Prop} {a : Act} (f : FuncId) (args : Array Value) (v : Value) (g : Prop) (hg : o.guard = none) (hr : ∀ W, (execOp a.eval o).run P W = .ok (.enter f args) W) (hc : ∀ W, C W → Calls P f args W fun e w' => ((e = .returned v ∧ g) ∨ (m ∧ e = .panicked pc)) ∧ C w')
    (h : ∀ K : Act → Prop, (∀ a, wpQP P C m pc Z rest (G ∧ g) a → K a) → K (a.put o.dst v)) : wpQP P C m pc Z (o :: rest) G a :=
  ⟨v, g, ⟨hg, fun w hw => by rw [hr w]; exact ⟨rfl, hc w hw⟩⟩, h _ fun _ h => h⟩
theorem wpQP_nil {Z : Prop → Act → Prop} {G : Prop} {a : Act} (h : Z G a) : wpQP P C m pc Z [] G a := h
end
end Go.Proofs.YtnbiedijofdjhaaDoor
