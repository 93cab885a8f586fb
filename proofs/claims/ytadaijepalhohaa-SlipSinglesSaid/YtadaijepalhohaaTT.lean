/-
  Theory of regions that draw their order: the class walk, phases, hoists, picks, held operations, invariants.
-/
import Derived.Test.YtadaijepalhohaaRows
import Derived.WalkKit
import Derived.WalkSpells
import Derived.WalkLawsBesides
import Derived.Deep.QuietTactic
import Derived.BigQuiet
import Derived.Laws.RangeAny
import Derived.Lib.Hide
import Derived.Deep.RegionHeld3
import Derived.IntWalk
import Derived.Deep.RegionHeld
import Derived.Deep.DeepCutAuto
import Derived.Handy
import Derived.StillTailTactics
import Derived.BigRegion
import Derived.StillTail
import Derived.Laws.Pointers
import Derived.OrdersHeld

namespace Go.Proofs.Ytadaijepalhohaa
open Go.RowKit

theorem ret_bool {a b : Bool} (h : a = b) : Ending.returned (.bool a) = .returned (.bool b) := by rw [h]
theorem ret_int {k : IntKind} {a b : Int} (h : a = b) : Ending.returned (.int k a) = .returned (.int k b) := by rw [h]
theorem lt_of_heap {W : World} {b : Nat} {o : Obj} (h : W.heap[b]? = some o) : b < W.heap.size := by
  rcases Nat.lt_or_ge b W.heap.size with hlt | hge
  · exact hlt
  · rw [Array.getElem?_eq_none hge] at h; cases h
theorem below_drewN {b : Nat} {W W' : World} (h : Below b W W') : ∀ n, Below b W (W'.drewN n)
  | 0 => h
  | n + 1 => (below_drewN h n).drew
theorem wp_region_class {P : Program} {C : World → Prop} {id : Nat} {Q : Exit → Act → World → Prop} {a : Act} {w : World} {l : List Oper} (hm : P.follows .mixedOrders = true) (hB : Region.lexB .any l.toArray = true) (hC : C { w with drawn := w.drawn + 1 })
    (h : wpQuiet P l.toArray C (fun a' => ∀ w', C w' → Q .normal a' w') l a) : (Code.region id l.toArray true).wp P Q a w :=
  wp_region_quiet (C := C) hm hB hC (by simpa using h)
theorem quiet_call {P : Program} {C : World → Prop} {a : Act} {o : Oper} {K : Act → Prop} (f : FuncId) (args : Array Value) (v : Value) (hr : ∀ W, (execOp a.eval o).run P W = .ok (.enter f args) W) (hc : ∀ W, C W → Calls P f args W fun e w' => e = .returned v ∧ C w') (hk : K (a.put o.dst v)) : o.quiet P a C K :=
  ⟨v, fun W h => by unfold Oper.quietAt; rw [hr]; exact ⟨rfl, hc W h⟩, hk⟩
theorem quiet_value {P : Program} {C : World → Prop} {a : Act} {o : Oper} {K : Act → Prop} (v : Value) (hr : ∀ W, C W → (execOp a.eval o).run P W = .ok (.value v) W) (hk : K (a.put o.dst v)) : o.quiet P a C K :=
  ⟨v, fun W h => by unfold Oper.quietAt; rw [hr W h]; exact ⟨rfl, rfl⟩, hk⟩

end Go.Proofs.Ytadaijepalhohaa

namespace Go.Proofs.Ytadaijepalhohaa
open Go.RowKit

theorem put_getD {a : Act} {d t : Nat} {v : Value} (h : d ≠ t) : (Act.put a (some d) v).tmps.getD t undef = a.tmps.getD t undef := by
  simp [Act.put, Array.getElem?_setIfInBounds_ne h]

/- Regions that draw their order: a head of operations that each yield one value in every world of a class (calls may panic instead, all of them alike), behind it a chain. -/


section
variable {P : Program} {ops : Array Oper} {md : Region.Mode} {C : World → Prop} {m : Prop} {pc : List PanicEntry} {Q : Exit → Act → World → Prop}
/-- What is asked of what an operation has become: the value v, or a call that hands back v, and then g holds, or panics. -/
def qpUpon (P : Program) (C : World → Prop) (m : Prop) (pc : List PanicEntry) (w : World) (v : Value) (g : Prop) : Result Next → Prop
  | .ok (.value u) w' => w' = w ∧ u = v ∧ g
  | .ok .skip w' => w' = w ∧ v = undef ∧ g
  | .ok (.enter f args) w' => w' = w ∧ Calls P f args w (fun e w'' => ((e = .returned v ∧ g) ∨ (m ∧ e = .panicked pc)) ∧ C w'')
  | _ => False
def QpAt (P : Program) (C : World → Prop) (m : Prop) (pc : List PanicEntry) (o : Oper) (v : Value) (g : Prop) (a : Act) : Prop :=
  o.guard = none ∧ ∀ w, C w → qpUpon P C m pc w v g ((execOp a.eval o).run P w)
/-- The walk in the text's order. -/
def wpQP (P : Program) (C : World → Prop) (m : Prop) (pc : List PanicEntry) (Z : Prop → Act → Prop) : List Oper → Prop → Act → Prop
  | [], G, a => Z G a
  | o :: rest, G, a => ∃ v g, QpAt P C m pc o v g a ∧ wpQP P C m pc Z rest (G ∧ g) (a.put o.dst v)
def qpAnyL (P : Program) (md : Region.Mode) (ops : Array Oper) (C : World → Prop) (m : Prop) (pc : List PanicEntry) (n : Nat) (L : Array Bool → Prop → Act → Prop) : Nat → Array Bool → Prop → Act → Prop
  | 0, listed, G, a => L listed G a
  | f + 1, listed, G, a => Region.ready md ops listed ≠ [] ∧ ∀ i ∈ Region.ready md ops listed, i < n ∧
      ∃ o v g, ops[i]? = some o ∧ QpAt P C m pc o v g a ∧ qpAnyL P md ops C m pc n L f (listed.setIfInBounds i true) (G ∧ g) (a.put o.dst v)

theorem qp_wpOp {i : Nat} {o : Oper} {v : Value} {g : Prop} {a : Act} {w : World} {K : Act → World → Prop} (hi : ops[i]? = some o) (hq : QpAt P C m pc o v g a) (hC : C w) (hQ : m → ∀ w, C w → Q (.panic pc) a w)
    (hK : ∀ w', C w' → g → K (a.put o.dst v) w') : wpOp P ops Q i K a w := by
  obtain ⟨hg, hq⟩ := hq
  unfold wpOp
  simp only [hi]
  rw [if_pos (by simp [Region.wanted, hg])]
  have h := hq w hC
  left
  unfold Oper.wp
  generalize (execOp a.eval o).run P w = r at *
  cases r with
  | halt x w' => simp only [qpUpon] at h
  | ok u w' =>
    cases u <;> simp only [qpUpon] at h <;> simp only [Oper.upon]
    case value u =>
      obtain ⟨e1, e2, e3⟩ := h
      rw [e1, e2]
      exact hK _ hC e3
    case skip =>
      obtain ⟨e1, e2, e3⟩ := h
      rw [e1, ← e2]
      exact hK _ hC e3
    case enter f args =>
      obtain ⟨e1, hc⟩ := h
      rw [e1]
      refine hc.mono fun e w'' he => ?_
      obtain ⟨he, hw⟩ := he
      rcases he with ⟨he, hg'⟩ | ⟨hm, he⟩
      · subst he; exact hK _ hw hg'
      · subst he; exact hQ hm _ hw

theorem put_defers (a : Act) (d : Option Tmp) (v : Value) : (a.put d v).defers = a.defers := by cases d <;> rfl
theorem any_of_qp {n sz : Nat} {L : Array Bool → Prop → Act → Prop} {D : List Deferred} (hQ : m → ∀ a w, a.defers = D → C w → Q (.panic pc) a w) (hL : ∀ listed G a w, L listed G a → G → C w → wpAny P md ops Q sz listed a w) :
    ∀ (f : Nat) (listed : Array Bool) (G : Prop) (a : Act) (w : World), qpAnyL P md ops C m pc n L f listed G a → G → C w → a.defers = D → wpAny P md ops Q (f + sz) listed a w
  | 0, listed, G, a, w, h, hG, hC, _ => by rw [Nat.zero_add]; exact hL _ _ _ _ h hG hC
  | f + 1, listed, G, a, w, h, hG, hC, hD => by
    rw [show f + 1 + sz = (f + sz) + 1 by omega]
    refine ⟨fun h0 => absurd h0 h.1, fun i hi => ?_⟩
    obtain ⟨-, o, v, g, ho, hq, hk⟩ := h.2 i hi
    exact qp_wpOp ho hq hC (fun hm w hw => hQ hm a w hD hw) fun w' hw' hg => any_of_qp hQ hL f _ _ _ w' hk ⟨hG, hg⟩ hw' ((put_defers a o.dst v).trans hD)

/-- As long as one of the operations s .. n - 1 is missing, none behind them may come up. -/
theorem tail_waits_from {s n : Nat} {listed : Array Bool} (hs : ∀ i, s ≤ i → i < n → ∃ j, j ≤ n ∧ i < j ∧ Region.waitsFor md ops j i = true) (hc : Region.chainB md ops n = true) (hn : n < ops.size) (inv : HeadInv md ops n listed) :
    ∀ (d i : Nat), n - i = d → s ≤ i → i < n → listed.getD i true = false → ∀ t, n ≤ t → t ∉ Region.ready md ops listed := by
  intro d
  induction d using Nat.strongRecOn with
  | _ d ih =>
    intro i hd hsi hi hun t ht hr
    obtain ⟨-, ot, hot, hall⟩ := mem_ready.1 hr
    have htlt : t < ops.size := (Array.getElem?_eq_some_iff.1 hot).1
    rcases Nat.lt_or_ge n t with htn | htn
    · have h1 := List.all_eq_true.1 hc t (List.mem_range.2 htlt)
      simp only [Bool.or_eq_true, decide_eq_true_eq] at h1
      rcases h1 with h1 | h1
      · omega
      · obtain ⟨o', ho', e, he, hb, hon⟩ := Region.waitsFor_spec h1
        obtain rfl : o' = ot := Option.some.inj (ho'.symm.trans hot)
        have h2 := hall e he hb
        rw [hon, getD_both (inv.tail (t - 1) (by omega) (by omega))] at h2
        cases h2
    · obtain rfl : t = n := by omega
      obtain ⟨j, hjn, hij, hw⟩ := hs i hsi hi
      obtain ⟨oj, hoj, e, he, hb, hon⟩ := Region.waitsFor_spec hw
      by_cases hjt : j = t
      · subst hjt
        obtain rfl : oj = ot := Option.some.inj (hoj.symm.trans hot)
        have h2 := hall e he hb
        rw [hon, getD_both hun] at h2
        cases h2
      · cases hl : listed.getD j false with
        | true =>
          have h2 := inv.closed j oj hoj hl e he hb
          rw [hon, getD_both hun] at h2
          cases h2
        | false => exact ih (t - j) (by omega) j rfl (by omega) (by omega) (getD_in (by rw [inv.size]; omega) hl) t (Nat.le_refl _) hr

theorem QpAt.put {oi oj : Oper} {v u : Value} {g : Prop} {a : Act} (hap : oi.apart ops oj = true) (hsi : ∀ cs b, oi.op ≠ .select cs b) (hy : QpAt P C m pc oi v g a) : QpAt P C m pc oi v g (a.put oj.dst u) := by
  obtain ⟨-, -, h3⟩ := Oper.apart_spec hap
  exact ⟨hy.1, fun w hw => by rw [execOp_put oi hsi a oj.dst u h3]; exact hy.2 w hw⟩
theorem qp_first {s n i : Nat} {oi : Oper} {v : Value} {g : Prop} {L : Array Bool → Prop → Act → Prop} (hi : ops[i]? = some oi) (hsel : ∀ (j : Nat) (o : Oper) cs b, ops[j]? = some o → o.op ≠ .select cs b)
    (hs : ∀ i, s ≤ i → i < n → ∃ j, j ≤ n ∧ i < j ∧ Region.waitsFor md ops j i = true) (hc : Region.chainB md ops n = true) (hn : n < ops.size) (hsi : s ≤ i) (hin : i < n)
    (hdone : ∀ listed G a, L listed G a → ∀ j ∈ Region.ready md ops listed, n ≤ j) :
    ∀ (f : Nat) (listed : Array Bool) (G : Prop) (a : Act), HeadInv md ops n listed →
      (∀ j oj, ops[j]? = some oj → j ≠ i → listed.getD j true = false → (∀ e ∈ oj.after, Region.binds md e = true → e.on ≠ i) → oi.apart ops oj = true) →
      i ∈ Region.ready md ops listed → QpAt P C m pc oi v g a →
      qpAnyL P md ops C m pc n L f (listed.setIfInBounds i true) (G ∧ g) (a.put oi.dst v) → qpAnyL P md ops C m pc n L (f + 1) listed G a := by
  intro f
  induction f with
  | zero =>
    intro listed G a inv _ hr hy H
    have hun := (mem_ready.1 hr).1
    refine ⟨fun h => (by rw [h] at hr; cases hr), fun j hj => ?_⟩
    have hjn : j < n := Nat.lt_of_not_le fun h => tail_waits_from hs hc hn inv _ i rfl hsi hin hun j h hj
    refine ⟨hjn, ?_⟩
    by_cases hji : j = i
    · subst hji; exact ⟨oi, v, g, hi, hy, H⟩
    · have := hdone _ _ _ H j (ready_mono hj hji)
      omega
  | succ f ih =>
    intro listed G a inv hfree hr hy H
    have hun := (mem_ready.1 hr).1
    refine ⟨fun h => (by rw [h] at hr; cases hr), fun j hj => ?_⟩
    have hjn : j < n := Nat.lt_of_not_le fun h => tail_waits_from hs hc hn inv _ i rfl hsi hin hun j h hj
    refine ⟨hjn, ?_⟩
    by_cases hji : j = i
    · subst hji; exact ⟨oi, v, g, hi, hy, H⟩
    · obtain ⟨-, oj, u, g', hoj, hq, hk⟩ := H.2 j (ready_mono hj hji)
      obtain ⟨hjun, oj', hoj', hall⟩ := mem_ready.1 hj
      obtain rfl : oj' = oj := Option.some.inj (hoj'.symm.trans hoj)
      have hnot : ∀ e ∈ oj'.after, Region.binds md e = true → e.on ≠ i := fun e he hb heq => by
        have h1 := hall e he hb
        rw [heq, getD_both hun] at h1
        cases h1
      have hap := hfree j oj' hoj hji hjun hnot
      obtain ⟨h1, h2, h3⟩ := Oper.apart_spec hap
      have hq' : QpAt P C m pc oj' u g' a := ⟨hq.1, fun w hw => by
        have := hq.2 w hw
        rwa [execOp_put oj' (fun cs b => hsel j oj' cs b hoj) a oi.dst v h1] at this⟩
      refine ⟨oj', u, g', hoj, hq', ?_⟩
      refine ih (listed.setIfInBounds j true) (G ∧ g') (a.put oj'.dst u) (inv.set hj hjn) (fun k ok hk hki hun' hno => ?_) (ready_mono hr (Ne.symm hji)) (hy.put hap fun cs b => hsel i oi cs b hi) ?_
      · refine hfree k ok hk hki ?_ hno
        by_cases hjk : j = k
        · subst hjk; exact hjun
        · rw [getD_set_ne true hjk] at hun'; exact hun'
      · rw [Array.setIfInBounds_comm _ _ hji, ← Act.put_comm a v u h2, show ((G ∧ g') ∧ g) = ((G ∧ g) ∧ g') from propext and_right_comm]
        exact hk
theorem qp_lex {s n sz : Nat} {Z : Prop → Act → Prop} (hsel : Region.noSelect ops = true) (hs : ∀ i, s ≤ i → i < n → ∃ j, j ≤ n ∧ i < j ∧ Region.waitsFor md ops j i = true) (hc : Region.chainB md ops n = true) (hn : n < ops.size) :
    ∀ (l : List Oper) (k : Nat) (listed : Array Bool) (G : Prop) (a : Act), (∀ j, j < l.length → l[j]? = ops[k + j]?) → s ≤ k → k + l.length = n → HeadInv md ops n listed →
    Region.lexHead md ops sz l.length k listed = true → wpQP P C m pc Z l G a →
    qpAnyL P md ops C m pc n (fun listed' G' a' => Region.seqB md ops sz n listed' = true ∧ Z G' a') l.length listed G a
  | [], k, listed, G, a, _, _, hk, _, hB, h => by
    obtain rfl : k = n := by simpa using hk
    exact ⟨by simpa [Region.lexHead] using hB, h⟩
  | o :: l, k, listed, G, a, hl, hsk, hk, inv, hB, h => by
    have h0 : ops[k]? = some o := by simpa using (hl 0 (by simp)).symm
    simp only [List.length_cons, Region.lexHead, Bool.and_eq_true] at hB
    obtain ⟨⟨hr, hf⟩, hB'⟩ := hB
    simp only [List.length_cons] at hk
    have hkn : k < n := by omega
    have hr' : k ∈ Region.ready md ops listed := by simpa using hr
    obtain ⟨v, g, hq, hK⟩ := h
    exact qp_first h0 (Region.noSelect_spec hsel) hs hc hn hsk hkn (fun listed' G' a' hL => seqB_ready hL.1) l.length listed G a inv (Region.free_spec h0 hf) hr' hq
      (qp_lex hsel hs hc hn l (k + 1) _ _ _ (fun j hj => by have := hl (j + 1) (by simp; omega); simpa [Nat.add_assoc, Nat.add_comm 1 j] using this) (by omega) (by omega) (inv.set hr' hkn) hB' hK)
theorem HeadInv.start {n : Nat} : HeadInv md ops n (Array.replicate ops.size false) :=
  ⟨by simp, fun j oj _ hl => (by rw [getD_replicate_false] at hl; cases hl), fun t _ ht => getD_in (by simpa using ht) (getD_replicate_false _ _)⟩
/-- **A head of n operations in any order, a chain behind it.** -/
theorem wp_region_qp {id : Nat} {a : Act} {w : World} {l : List Oper} (n : Nat) (hm : P.follows .mixedOrders = true) (hB : Region.lexTailB .any l.toArray n = true) (hC : C { w with drawn := w.drawn + 1 })
    (hQ : m → ∀ a' w, a'.defers = a.defers → C w → Q (.panic pc) a' w) (h : wpQP P C m pc (fun G a' => G → ∀ w', C w' → wpList P l.toArray Q (l.drop n) a' w') (l.take n) True a) : (Code.region id l.toArray true).wp P Q a w := by
  simp only [Region.lexTailB, Bool.and_eq_true, decide_eq_true_eq] at hB
  obtain ⟨⟨⟨⟨hsel, hn⟩, hs⟩, hc⟩, hlex⟩ := hB
  have hn' : n < l.length := by simpa using hn
  have htl : (l.take n).length = n := by simp; omega
  have hdl : (l.drop n).length = l.toArray.size - n := by simp
  have hs' : ∀ i, 0 ≤ i → i < n → ∃ j, j ≤ n ∧ i < j ∧ Region.waitsFor .any l.toArray j i = true := fun i _ hi => by
    obtain ⟨j, hj, hj2⟩ := List.any_eq_true.1 (List.all_eq_true.1 hs i (List.mem_range.2 hi))
    simp only [Bool.and_eq_true, decide_eq_true_eq] at hj2
    exact ⟨j, by have := List.mem_range.1 hj; omega, hj2.1, hj2.2⟩
  have H := qp_lex (md := .any) (sz := l.toArray.size - n) hsel hs' hc hn (l.take n) 0 _ True a (fun j hj => by
    have hj' : j < n := by rw [htl] at hj; exact hj
    simp [hj']) (Nat.le_refl _) (by simpa using htl) HeadInv.start (by rw [htl]; exact hlex) h
  refine wp_region_any hm ?_
  have := any_of_qp (Q := Q) (sz := l.toArray.size - n) hQ (fun listed G a' w' hL hG hw => by
    have := wpAny_of_seq (md := .any) (Q' := Q) (l.drop n) n listed a' w' (fun j => by simp [List.getElem?_drop]) (by rw [hdl]; exact hL.1) (hL.2 hG w' hw)
    rwa [hdl] at this) _ _ _ _ _ H trivial hC rfl
  rw [htl, show n + (l.toArray.size - n) = l.toArray.size by omega] at this
  exact this
/-- The same where the first operation hands on a slot that only the chain reads. -/
def lexTail1B (ops : Array Oper) (n : Nat) : Bool :=
  Region.noSelect ops && (decide (n < ops.size) && (decide (1 ≤ n) && (((List.range n).all fun i => decide (i = 0) || (List.range (n + 1)).any fun j => decide (i < j) && Region.waitsFor .any ops j i) && (Region.chainB .any ops n && (Region.free .any ops (Array.replicate ops.size false) 0 && ((Region.ready .any ops (Array.replicate ops.size false)).contains 0 && Region.lexHead .any ops (ops.size - n) (n - 1) 1 ((Array.replicate ops.size false).setIfInBounds 0 true)))))))
theorem wp_region_qp1 {id : Nat} {a : Act} {w : World} {o : Oper} {l : List Oper} (x : Operand) (n : Nat) (hm : P.follows .mixedOrders = true) (hB : lexTail1B (o :: l).toArray (n + 1) = true) (ho : o.op = .move x) (hg : o.guard = none) (hC : C { w with drawn := w.drawn + 1 })
    (h : ∀ K : Act → Prop, (∀ a, wpQP P C False pc (fun G a' => G → ∀ w', C w' → wpList P (o :: l).toArray (fun e a w => e = .normal ∧ Q .normal a w) (l.drop n) a' w') (l.take n) True a → K a) → K (a.put o.dst (a.eval x))) : (Code.region id (o :: l).toArray true).wp P Q a w := by
  replace h := h _ fun _ h => h
  refine wp_mono (Q := fun e a w => e = .normal ∧ Q .normal a w) ?_ fun e a w h => by obtain ⟨rfl, h⟩ := h; exact h
  simp only [lexTail1B, Bool.and_eq_true, decide_eq_true_eq] at hB
  obtain ⟨hsel, hn, -, hs, hc, hf, hr, hlex⟩ := hB
  have hn' : n < l.length := by simpa using hn
  have htl : (l.take n).length = n := by simp; omega
  have hdl : (l.drop n).length = (o :: l).toArray.size - (n + 1) := by simp
  have hs' : ∀ i, 1 ≤ i → i < n + 1 → ∃ j, j ≤ n + 1 ∧ i < j ∧ Region.waitsFor .any (o :: l).toArray j i = true := fun i h1 hi => by
    have h2 := List.all_eq_true.1 hs i (List.mem_range.2 hi)
    simp only [Bool.or_eq_true, decide_eq_true_eq] at h2
    rcases h2 with h2 | h2
    · omega
    obtain ⟨j, hj, hj2⟩ := List.any_eq_true.1 h2
    simp only [Bool.and_eq_true, decide_eq_true_eq] at hj2
    exact ⟨j, by have := List.mem_range.1 hj; omega, hj2.1, hj2.2⟩
  have h0 : (o :: l).toArray[0]? = some o := by simp
  have hr0 : 0 ∈ Region.ready .any (o :: l).toArray (Array.replicate (o :: l).toArray.size false) := by simpa using hr
  have H := qp_lex (md := .any) (sz := (o :: l).toArray.size - (n + 1)) hsel hs' hc hn (l.take n) 1 ((Array.replicate (o :: l).toArray.size false).setIfInBounds 0 true) True _ (fun j hj => by
    have hj' : j < n := by rw [htl] at hj; exact hj
    rw [List.getElem?_take_of_lt hj']
    simp [Nat.add_comm 1 j]) (Nat.le_refl _) (by rw [htl, Nat.add_comm]) (HeadInv.start.set hr0 (Nat.succ_pos n)) (by rw [htl]; exact hlex) h
  refine wp_region_any hm ?_
  have := any_of_qp (Q := fun e a w => e = .normal ∧ Q .normal a w) (sz := (o :: l).toArray.size - (n + 1)) (fun h => h.elim) (fun listed G a' w' hL hG hw => by
    have := wpAny_of_seq (md := .any) (Q' := fun e a w => e = .normal ∧ Q .normal a w) (l.drop n) (n + 1) listed a' w' (fun j => by rw [List.getElem?_drop, show n + 1 + j = (n + j) + 1 by omega]; simp) (by rw [hdl]; exact hL.1) (hL.2 hG w' hw)
    rwa [hdl] at this) _ _ _ _ _ H trivial hC rfl
  rw [htl] at this
  have h4 := wpAny_first (P := P) (Q := fun e a w => e = .normal ∧ Q .normal a w) (md := .any) (v := a.eval x) h0 (Region.noSelect_spec hsel) (fun c a w hh => by cases hh.1) _ _ a { w with drawn := w.drawn + 1 } (Region.free_spec h0 hf) hr0
    (.inl ⟨by simp [Region.wanted, hg], fun W => BigFrame.run_move x ho W⟩) this
  have e : n + ((o :: l).toArray.size - (n + 1)) + 1 = (o :: l).toArray.size := by omega
  rw [e] at h4
  exact h4

theorem wpQP_step {Z : Prop → Act → Prop} {o : Oper} {rest : List Oper} {G : Prop} {a : Act} (hg : o.guard = none)
    (h : ∀ K : Act → Prop, (∀ a, wpQP P C m pc Z rest G a → K a) → o.quiet P a C K) : wpQP P C m pc Z (o :: rest) G a := by
  obtain ⟨v, h1, h2⟩ := h (fun a => wpQP P C m pc Z rest G a) (fun _ h => h)
  refine ⟨v, True, ⟨hg, fun w hw => ?_⟩, ?_⟩
  · have h3 := h1 w hw
    unfold Oper.quietAt at h3
    generalize (execOp a.eval o).run P w = r at *
    cases r with
    | halt x w' => simp only [Oper.quietUpon] at h3
    | ok u w' =>
      cases u <;> simp only [Oper.quietUpon] at h3 <;> simp only [qpUpon]
      case value u => exact ⟨h3.1, h3.2, trivial⟩
      case skip => exact ⟨h3.1, h3.2, trivial⟩
      case enter f args => exact ⟨h3.1, h3.2.mono fun e w' he => ⟨.inl ⟨he.1, trivial⟩, he.2⟩⟩
  · rw [show (G ∧ True) = G from propext (and_iff_left trivial)]; exact h2
theorem wpQP_may {Z : Prop → Act → Prop} {o : Oper} {rest : List Oper} {G : Prop} {a : Act} (f : FuncId) (args : Array Value) (v : Value) (g : Prop) (hg : o.guard = none) (hr : ∀ W, (execOp a.eval o).run P W = .ok (.enter f args) W) (hc : ∀ W, C W → Calls P f args W fun e w' => ((e = .returned v ∧ g) ∨ (m ∧ e = .panicked pc)) ∧ C w')
    (h : ∀ K : Act → Prop, (∀ a, wpQP P C m pc Z rest (G ∧ g) a → K a) → K (a.put o.dst v)) : wpQP P C m pc Z (o :: rest) G a :=
  ⟨v, g, ⟨hg, fun w hw => by rw [hr w]; exact ⟨rfl, hc w hw⟩⟩, h _ fun _ h => h⟩
theorem wpQP_nil {Z : Prop → Act → Prop} {G : Prop} {a : Act} (h : Z G a) : wpQP P C m pc Z [] G a := h
end

/- A load that may come late: hoisted over operations that keep the cell. -/


section
variable {P : Program} {ops : Array Oper} {md : Region.Mode} {C : World → Prop} {Q : Exit → Act → World → Prop}
/-- What follows an operation, where one that is put into its slot beforehand makes no difference to it. -/
theorem wpOp_put_run {j : Nat} {oi oj : Oper} {v : Value} (hj : ops[j]? = some oj) (hap : oi.apart ops oj = true) (hsi : ∀ cs b, oi.op ≠ .select cs b) (hsj : ∀ cs b, oj.op ≠ .select cs b)
    (hQ : ∀ c a w, Q (.panic c) (a.put oi.dst v) w → Q (.panic c) a w) {K : Act → World → Prop} {a : Act} {w : World} (h : wpOp P ops Q j K (a.put oi.dst v) w) :
    wpOp P ops Q j (fun a' w' => execOp a'.eval oi = execOp a.eval oi ∧ K (a'.put oi.dst v) w') a w := by
  obtain ⟨h1, h2, h3⟩ := Oper.apart_spec hap
  have keep : ∀ u, execOp (a.put oj.dst u).eval oi = execOp a.eval oi := fun u => execOp_put oi hsi a oj.dst u h3
  have turn : ∀ (u : Value) (W : World), K ((a.put oi.dst v).put oj.dst u) W → execOp (a.put oj.dst u).eval oi = execOp a.eval oi ∧ K ((a.put oj.dst u).put oi.dst v) W := fun u W hk => ⟨keep u, by rw [← Act.put_comm a v u h2]; exact hk⟩
  unfold wpOp at h ⊢
  simp only [hj] at h ⊢
  rw [wanted_put oj a oi.dst v h1] at h
  by_cases hw : Region.wanted oj (yielded ops a.tmps) = true
  · rw [if_pos hw] at h ⊢
    have he := execOp_put oj hsj a oi.dst v h1
    rcases h with h | ⟨ha, hl⟩
    · refine .inl ?_
      unfold Oper.wp at h ⊢
      rw [he] at h
      generalize (execOp a.eval oj).run P w = r at *
      match r, h with
      | .ok (.value u) w', h => exact turn u w' h
      | .ok .skip w', h => exact turn undef w' h
      | .ok (.defer d) w', h =>
        refine ⟨execOp_put oi hsi { a with defers := d :: a.defers } oj.dst undef h3, ?_⟩
        rw [← Act.put_comm { a with defers := d :: a.defers } v undef h2, ← Act.put_defers]
        exact h
      | .ok (.enter f args) w', h =>
        refine Calls.mono h fun e W he => ?_
        cases e with
        | returned u => exact turn u W he
        | panicked c => exact hQ _ _ _ he
        | outgrown => exact he
      | .ok (.row row args) w', h => exact Rows.mono h fun u W hu => turn u W hu
      | .halt (.panic u) w', h => exact hQ _ _ _ h
    · exact .inr ⟨by unfold Oper.asks at ha ⊢; rw [he] at ha; exact ha, hl⟩
  · rw [if_neg hw] at h ⊢
    exact turn undef w h
/-- Whatever order is picked, and the class is kept by all operations but those marked. -/
def wpAnyC (P : Program) (md : Region.Mode) (ops : Array Oper) (C : World → Prop) (dep : Nat → Bool) (Q : Exit → Act → World → Prop) : Nat → Array Bool → Act → World → Prop
  | 0, listed, a, w => Region.ready md ops listed = [] ∧ Q .normal a w
  | f + 1, listed, a, w => (Region.ready md ops listed = [] → Q .normal a w) ∧
      ∀ j ∈ Region.ready md ops listed, wpOp P ops Q j (fun a' w' => (dep j = false → C w') ∧ wpAnyC P md ops C dep Q f (listed.setIfInBounds j true) a' w') a w
theorem any_of_anyC {dep : Nat → Bool} : ∀ (f : Nat) (listed : Array Bool) (a : Act) (w : World), wpAnyC P md ops C dep Q f listed a w → wpAny P md ops Q f listed a w
  | 0, _, _, _, h => h
  | f + 1, _, _, _, h => ⟨h.1, fun j hj => wpOp_mono (fun a' w' hh => any_of_anyC f _ a' w' hh.2) (h.2 j hj)⟩
/-- What is marked waits for the operation i. -/
def depB (md : Region.Mode) (ops : Array Oper) (dep : Nat → Bool) (i : Nat) : Bool :=
  (List.range ops.size).all fun j => !dep j || (List.range j).any fun k => (k == i || dep k) && Region.waitsFor md ops j k
theorem dep_not_ready {dep : Nat → Bool} {i : Nat} (hd : depB md ops dep i = true) {listed : Array Bool} (inv : HeadInv md ops ops.size listed) (hun : listed.getD i false = false) :
    ∀ (j : Nat), dep j = true → listed.getD j false = false ∧ j ∉ Region.ready md ops listed := by
  intro j
  induction j using Nat.strongRecOn with
  | _ j ih =>
    intro hdj
    rcases Nat.lt_or_ge j ops.size with h | h
    · have h1 := List.all_eq_true.1 hd j (List.mem_range.2 h)
      rw [hdj] at h1
      simp only [Bool.not_true, Bool.false_or] at h1
      obtain ⟨k, hk, hk2⟩ := List.any_eq_true.1 h1
      simp only [Bool.and_eq_true, Bool.or_eq_true, beq_iff_eq] at hk2
      obtain ⟨oj, hoj, e, he, hb, hon⟩ := Region.waitsFor_spec hk2.2
      have hkun : listed.getD k false = false := by
        rcases hk2.1 with hki | hdk
        · rw [hki]; exact hun
        · exact (ih k (List.mem_range.1 hk) hdk).1
      refine ⟨?_, fun hr => ?_⟩
      · cases hl : listed.getD j false with
        | false => rfl
        | true =>
          have h2 := inv.closed j oj hoj hl e he hb
          rw [hon, hkun] at h2; cases h2
      · obtain ⟨-, o', ho', hall⟩ := mem_ready.1 hr
        obtain rfl : o' = oj := Option.some.inj (ho'.symm.trans hoj)
        have h2 := hall e he hb
        rw [hon, hkun] at h2; cases h2
    · refine ⟨?_, fun hr => ?_⟩
      · have : listed.size ≤ j := by rw [inv.size]; exact h
        simp [Array.getElem?_eq_none this]
      · obtain ⟨-, o', ho', -⟩ := mem_ready.1 hr
        rw [Array.getElem?_eq_none h] at ho'; cases ho'
/-- **An operation whose value every world of the class gives may be taken first**, where all that do not wait for it keep the class. -/
theorem anyC_hoist {dep : Nat → Bool} {i : Nat} {oi : Oper} {v : Value} (hi : ops[i]? = some oi) (hg : oi.guard = none) (hsel : ∀ (j : Nat) (o : Oper) cs b, ops[j]? = some o → o.op ≠ .select cs b)
    (hd : depB md ops dep i = true) (hQ : ∀ c a w, Q (.panic c) (a.put oi.dst v) w → Q (.panic c) a w) :
    ∀ (f : Nat) (listed : Array Bool) (a : Act) (w : World), HeadInv md ops ops.size listed →
      (∀ j oj, ops[j]? = some oj → j ≠ i → listed.getD j true = false → (∀ e ∈ oj.after, Region.binds md e = true → e.on ≠ i) → oi.apart ops oj = true) →
      i ∈ Region.ready md ops listed → (∀ W, C W → (execOp a.eval oi).run P W = .ok (.value v) W) → C w →
      wpAnyC P md ops C dep Q f (listed.setIfInBounds i true) (a.put oi.dst v) w → wpAnyC P md ops C dep Q (f + 1) listed a w := by
  intro f
  induction f with
  | zero =>
    intro listed a w inv _ hr hrun hC H
    refine ⟨fun h => (by rw [h] at hr; cases hr), fun j hj => ?_⟩
    by_cases hji : j = i
    · subst hji
      unfold wpOp
      simp only [hi]
      rw [if_pos (by simp [Region.wanted, hg])]
      left
      unfold Oper.wp
      rw [hrun w hC]
      exact ⟨fun _ => hC, H⟩
    · have := ready_mono hj hji
      rw [H.1] at this
      cases this
  | succ f ih =>
    intro listed a w inv hfree hr hrun hC H
    have hun := (mem_ready.1 hr).1
    refine ⟨fun h => (by rw [h] at hr; cases hr), fun j hj => ?_⟩
    by_cases hji : j = i
    · subst hji
      unfold wpOp
      simp only [hi]
      rw [if_pos (by simp [Region.wanted, hg])]
      left
      unfold Oper.wp
      rw [hrun w hC]
      exact ⟨fun _ => hC, H⟩
    · have h1 := H.2 j (ready_mono hj hji)
      obtain ⟨hjun, oj, hoj, hall⟩ := mem_ready.1 hj
      have hnot : ∀ e ∈ oj.after, Region.binds md e = true → e.on ≠ i := fun e he hb heq => by
        have h1 := hall e he hb
        rw [heq, getD_both hun] at h1
        cases h1
      have hdj : dep j = false := by
        cases h : dep j with
        | false => rfl
        | true => exact absurd hj (dep_not_ready hd inv (getD_both hun) j h).2
      have h2 := wpOp_put_run hoj (hfree j oj hoj hji hjun hnot) (fun cs b => hsel i oi cs b hi) (fun cs b => hsel j oj cs b hoj) hQ h1
      refine wpOp_mono (fun a' w' h3 => ⟨h3.2.1, ?_⟩) h2
      refine ih (listed.setIfInBounds j true) a' w' (inv.set hj (Array.getElem?_eq_some_iff.1 hoj).1) (fun k ok hk hki hun' hno => ?_) (ready_mono hr (Ne.symm hji)) (fun W hW => by rw [h3.1]; exact hrun W hW) (h3.2.1 hdj) ?_
      · refine hfree k ok hk hki ?_ hno
        by_cases hjk : j = k
        · subst hjk; exact hjun
        · rw [getD_set_ne true hjk] at hun'; exact hun'
      · rw [Array.setIfInBounds_comm _ _ hji]
        exact h3.2.2
/-- The rest is a chain: what it must show, the class between the operations that are not marked. -/
def wpListC (P : Program) (ops : Array Oper) (C : World → Prop) (dep : Nat → Bool) (Q : Exit → Act → World → Prop) : List Oper → Nat → Act → World → Prop
  | [], _, a, w => Q .normal a w
  | o :: rest, k, a, w => wpOp P #[o] Q 0 (fun a' w' => (dep k = false → C w') ∧ wpListC P ops C dep Q rest (k + 1) a' w') a w
theorem wpOp_one {o : Oper} {k : Nat} {K : Act → World → Prop} {a : Act} {w : World} (hk : ops[k]? = some o) (hg : o.guard = none) (h : wpOp P #[o] Q 0 K a w) : wpOp P ops Q k K a w := by
  unfold wpOp at h ⊢
  simp only [hk]
  simp only [List.getElem?_toArray, List.getElem?_cons_zero] at h
  rw [if_pos (by simp [Region.wanted, hg])] at h ⊢
  exact h
theorem anyC_of_list {dep : Nat → Bool} : ∀ (l : List Oper) (k : Nat) (listed : Array Bool) (a : Act) (w : World), (∀ j, l[j]? = ops[k + j]?) → (∀ o ∈ l, o.guard = none) →
    Region.seqB md ops l.length k listed = true → wpListC P ops C dep Q l k a w → wpAnyC P md ops C dep Q l.length listed a w
  | [], _, _, _, _, _, _, hB, h => ⟨by simpa [Region.seqB] using hB, h⟩
  | o :: l, k, listed, a, w, hl, hgs, hB, h => by
    have h0 : ops[k]? = some o := by simpa using (hl 0).symm
    simp only [List.length_cons, Region.seqB, Bool.and_eq_true, decide_eq_true_eq] at hB
    refine ⟨fun h1 => (by rw [hB.1] at h1; cases h1), fun i hi => ?_⟩
    rw [hB.1] at hi
    obtain rfl : i = k := by simpa using hi
    refine wpOp_mono (fun a' w' h' => ⟨h'.1, anyC_of_list l (i + 1) _ a' w' (fun j => by have := hl (j + 1); simpa [Nat.add_assoc, Nat.add_comm 1 j] using this) (fun o ho => hgs o (List.mem_cons_of_mem _ ho)) hB.2 h'.2⟩) (wpOp_one h0 (hgs o List.mem_cons_self) h)
/-- Behind the last operation that must keep the class the walk goes on as it is used to. -/
theorem wpListC_rest {dep : Nat → Bool} : ∀ (l : List Oper) (k : Nat) (a : Act) (w : World), (∀ j, k ≤ j → dep j = true) → (∀ o ∈ l, o.guard = none) → wpList P ops Q l a w → wpListC P ops C dep Q l k a w
  | [], _, _, _, _, _, h => h
  | o :: l, k, a, w, hd, hgs, h => by
    have hg := hgs o List.mem_cons_self
    unfold wpListC wpOp
    simp only [List.getElem?_toArray, List.getElem?_cons_zero]
    rw [if_pos (by simp [Region.wanted, hg])]
    rw [wpList, if_pos (by simp [Region.wanted, hg])] at h
    refine h.imp (fun h => Oper.wp_mono (fun a' w' hh => ⟨fun hk => ?_, wpListC_rest l (k + 1) a' w' (fun j hj => hd j (by omega)) (fun o ho => hgs o (List.mem_cons_of_mem _ ho)) hh⟩) h) id
    rw [hd k (Nat.le_refl _)] at hk; cases hk
def lateB (ops : Array Oper) (n : Nat) : Bool :=
  Region.noSelect ops && (ops.all (fun o => o.guard == none) && (Region.free .any ops (Array.replicate ops.size false) 0 && ((Region.ready .any ops (Array.replicate ops.size false)).contains 0 &&
    (Region.free .any ops ((Array.replicate ops.size false).setIfInBounds 0 true) 1 && ((Region.ready .any ops ((Array.replicate ops.size false).setIfInBounds 0 true)).contains 1 && (depB .any ops (fun j => decide (n ≤ j)) 1 &&
      Region.seqB .any ops (ops.size - 2) 2 (((Array.replicate ops.size false).setIfInBounds 0 true).setIfInBounds 1 true)))))))
/-- **A region that begins with an address and a load from it, a chain behind them: the load may come at any time before operation n.** -/
theorem wp_region_late {id : Nat} {a : Act} {w : World} {o0 o1 : Oper} {l : List Oper} (v0 v1 : Value) (n : Nat) (hm : P.follows .mixedOrders = true) (hB : lateB (o0 :: o1 :: l).toArray n = true) (hC : C w.drew)
    (hQ0 : ∀ c a w, Q (.panic c) (Act.put a o0.dst v0) w → Q (.panic c) a w) (hQ1 : ∀ c a w, Q (.panic c) (Act.put a o1.dst v1) w → Q (.panic c) a w)
    (h0 : ∀ W, (execOp a.eval o0).run P W = .ok (.value v0) W) (h1 : ∀ W, C W → (execOp (a.put o0.dst v0).eval o1).run P W = .ok (.value v1) W)
    (h : ∀ K : Act → Prop, (∀ a, wpListC P (o0 :: o1 :: l).toArray C (fun j => decide (n ≤ j)) Q l 2 a w.drew → K a) → K ((a.put o0.dst v0).put o1.dst v1)) : (Code.region id (o0 :: o1 :: l).toArray true).wp P Q a w := by
  simp only [lateB, Bool.and_eq_true] at hB
  obtain ⟨hsel, hgs, hf0, hr0, hf1, hr1, hdep, hseq⟩ := hB
  have hgs' : ∀ o ∈ (o0 :: o1 :: l), o.guard = none := fun o ho => by
    have := Array.all_eq_true_iff_forall_mem.1 hgs o (by simpa using ho)
    simpa using this
  have e0 : (o0 :: o1 :: l).toArray[0]? = some o0 := by simp
  have e1 : (o0 :: o1 :: l).toArray[1]? = some o1 := by simp
  have hsz : (o0 :: o1 :: l).toArray.size = l.length + 1 + 1 := by simp
  have hsz2 : (o0 :: o1 :: l).toArray.size - 2 = l.length := by simp
  have r0 : 0 ∈ Region.ready .any (o0 :: o1 :: l).toArray (Array.replicate (o0 :: o1 :: l).toArray.size false) := by simpa using hr0
  have r1 : 1 ∈ Region.ready .any (o0 :: o1 :: l).toArray ((Array.replicate (o0 :: o1 :: l).toArray.size false).setIfInBounds 0 true) := by simpa using hr1
  have inv0 : HeadInv .any (o0 :: o1 :: l).toArray (o0 :: o1 :: l).toArray.size (Array.replicate (o0 :: o1 :: l).toArray.size false) := HeadInv.start
  have H := anyC_of_list (md := .any) (ops := (o0 :: o1 :: l).toArray) (C := C) (Q := Q) (dep := fun j => decide (n ≤ j)) l 2 _ _ { w with drawn := w.drawn + 1 } (fun j => by simp [Nat.add_comm 2 j]) (fun o ho => hgs' o (by simp [ho])) (by rw [← hsz2]; exact hseq) (h _ fun _ h => h)
  have H1 := anyC_hoist e1 (hgs' o1 (by simp)) (Region.noSelect_spec hsel) hdep hQ1 l.length _ _ _ (inv0.set r0 (by simp)) (Region.free_spec e1 hf1) r1 h1 hC H
  have H2 := wpAny_first (P := P) (Q := Q) (md := .any) (v := v0) e0 (Region.noSelect_spec hsel) hQ0 _ _ a { w with drawn := w.drawn + 1 } (Region.free_spec e0 hf0) r0 (.inl ⟨by simp [Region.wanted, hgs' o0 (by simp)], h0⟩) (any_of_anyC _ _ _ _ H1)
  refine wp_region_any hm ?_
  rw [← hsz] at H2
  exact H2
theorem wpListC_value {dep : Nat → Bool} {o : Oper} {rest : List Oper} {k : Nat} {a : Act} {w w' : World} (v : Value) (hg : o.guard = none) (hr : (execOp a.eval o).run P w = .ok (.value v) w') (hC : C w')
    (h : ∀ K : Act → Prop, (∀ a, wpListC P ops C dep Q rest (k + 1) a w' → K a) → K (a.put o.dst v)) : wpListC P ops C dep Q (o :: rest) k a w := by
  unfold wpListC wpOp
  simp only [List.getElem?_toArray, List.getElem?_cons_zero]
  rw [if_pos (by simp [Region.wanted, hg])]
  left
  unfold Oper.wp
  rw [hr]
  exact ⟨fun _ => hC, h _ fun _ h => h⟩
theorem wpListC_call {dep : Nat → Bool} {o : Oper} {rest : List Oper} {k : Nat} {a : Act} {w : World} {R : Ending → World → Prop} (f : FuncId) (args : Array Value) (hg : o.guard = none) (hr : (execOp a.eval o).run P w = .ok (.enter f args) w) (hc : Calls P f args w R)
    (h : ∀ e w', R e w' → (∃ v, e = .returned v ∧ C w' ∧ ∀ K : Act → Prop, (∀ a, wpListC P ops C dep Q rest (k + 1) a w' → K a) → K (a.put o.dst v)) ∨ ∃ c, e = .panicked c ∧ Q (.panic c) a w') : wpListC P ops C dep Q (o :: rest) k a w := by
  unfold wpListC wpOp
  simp only [List.getElem?_toArray, List.getElem?_cons_zero]
  rw [if_pos (by simp [Region.wanted, hg])]
  left
  unfold Oper.wp
  rw [hr]
  refine hc.mono fun e w' he => ?_
  rcases h e w' he with ⟨v, rfl, hC, hk⟩ | ⟨c, rfl, hq⟩
  · exact ⟨fun _ => hC, hk _ fun _ h => h⟩
  · exact hq
theorem wp_normal {c : Code} {a : Act} {w : World} (h : c.wp P (fun e a w => e = .normal ∧ Q .normal a w) a w) : c.wp P Q a w :=
  wp_mono h fun e a w h => by obtain ⟨rfl, h⟩ := h; exact h
end

/- Regions that draw their order: a head of operations that each have one value in every world of a class, in any order and as late as they like; a chain behind them, which may begin before they are through. -/


section
variable {P : Program} {ops : Array Oper} {md : Region.Mode} {C : World → Prop} {Q : Exit → Act → World → Prop}
def listedTo (size : Nat) : Nat → Array Bool
  | 0 => Array.replicate size false
  | k + 1 => (listedTo size k).setIfInBounds k true
theorem listedTo_size (size k : Nat) : (listedTo size k).size = size := by
  induction k with
  | zero => simp [listedTo]
  | succ k ih => simp [listedTo, ih]
theorem listedTo_inv {n : Nat} (hr : ∀ k, k < n → k ∈ Region.ready md ops (listedTo ops.size k)) : ∀ k, k ≤ n → k ≤ ops.size → HeadInv md ops ops.size (listedTo ops.size k)
  | 0, _, _ => HeadInv.start
  | k + 1, h, h2 => (listedTo_inv hr k (by omega) (by omega)).set (hr k (by omega)) (by omega)
/-- What comes behind operation i, directly or by way of others. -/
def behind (md : Region.Mode) (ops : Array Oper) (i : Nat) : List Nat :=
  (List.range ops.size).foldl (fun acc j => if acc.any (fun k => decide (k < j) && Region.waitsFor md ops j k) then acc ++ [j] else acc) [i]
def depI (md : Region.Mode) (ops : Array Oper) (i : Nat) (j : Nat) : Bool := j != i && (behind md ops i).contains j
def hoistB (md : Region.Mode) (ops : Array Oper) (n m : Nat) : Bool :=
  Region.noSelect ops && (ops.all (fun o => o.guard == none) && (decide (n ≤ m) && (decide (m ≤ ops.size) && ((List.range n).all (fun i => Region.free md ops (listedTo ops.size i) i && ((Region.ready md ops (listedTo ops.size i)).contains i &&
    (depB md ops (depI md ops i) i && (List.range ops.size).all (fun j => decide (j < m) || depI md ops i j)))) &&
      Region.seqB md ops (ops.size - n) n (listedTo ops.size n)))))
theorem depB_not_ready {dep : Nat → Bool} {i : Nat} (hd : depB md ops dep i = true) {listed : Array Bool} (inv : HeadInv md ops ops.size listed) (hun : listed.getD i false = false) (j : Nat) (h : dep j = true) : j ∉ Region.ready md ops listed := (dep_not_ready hd inv hun j h).2
/-- **An operation whose value every world of the class gives may be taken first**: what is marked never comes before it. -/
theorem anyC_hoist2 {dep : Nat → Bool} {i : Nat} {oi : Oper} {v : Value} (hi : ops[i]? = some oi) (hg : oi.guard = none) (hsel : ∀ (j : Nat) (o : Oper) cs b, ops[j]? = some o → o.op ≠ .select cs b)
    (hd : ∀ listed, HeadInv md ops ops.size listed → listed.getD i false = false → ∀ j, dep j = true → j ∉ Region.ready md ops listed) (hQ : ∀ c a w, Q (.panic c) (a.put oi.dst v) w → Q (.panic c) a w) :
    ∀ (f : Nat) (listed : Array Bool) (a : Act) (w : World), HeadInv md ops ops.size listed →
      (∀ j oj, ops[j]? = some oj → j ≠ i → listed.getD j true = false → (∀ e ∈ oj.after, Region.binds md e = true → e.on ≠ i) → oi.apart ops oj = true) →
      i ∈ Region.ready md ops listed → (∀ W, C W → (execOp a.eval oi).run P W = .ok (.value v) W) → C w →
      wpAnyC P md ops C dep Q f (listed.setIfInBounds i true) (a.put oi.dst v) w → wpAnyC P md ops C dep Q (f + 1) listed a w := by
  intro f
  induction f with
  | zero =>
    intro listed a w inv _ hr hrun hC H
    refine ⟨fun h => (by rw [h] at hr; cases hr), fun j hj => ?_⟩
    by_cases hji : j = i
    · subst hji
      unfold wpOp
      simp only [hi]
      rw [if_pos (by simp [Region.wanted, hg])]
      left
      unfold Oper.wp
      rw [hrun w hC]
      exact ⟨fun _ => hC, H⟩
    · have := ready_mono hj hji
      rw [H.1] at this
      cases this
  | succ f ih =>
    intro listed a w inv hfree hr hrun hC H
    have hun := (mem_ready.1 hr).1
    refine ⟨fun h => (by rw [h] at hr; cases hr), fun j hj => ?_⟩
    by_cases hji : j = i
    · subst hji
      unfold wpOp
      simp only [hi]
      rw [if_pos (by simp [Region.wanted, hg])]
      left
      unfold Oper.wp
      rw [hrun w hC]
      exact ⟨fun _ => hC, H⟩
    · have h1 := H.2 j (ready_mono hj hji)
      obtain ⟨hjun, oj, hoj, hall⟩ := mem_ready.1 hj
      have hnot : ∀ e ∈ oj.after, Region.binds md e = true → e.on ≠ i := fun e he hb heq => by
        have h1 := hall e he hb
        rw [heq, getD_both hun] at h1
        cases h1
      have hdj : dep j = false := by
        cases h : dep j with
        | false => rfl
        | true => exact absurd hj (hd listed inv (getD_both hun) j h)
      have h2 := wpOp_put_run hoj (hfree j oj hoj hji hjun hnot) (fun cs b => hsel i oi cs b hi) (fun cs b => hsel j oj cs b hoj) hQ h1
      refine wpOp_mono (fun a' w' h3 => ⟨h3.2.1, ?_⟩) h2
      refine ih (listed.setIfInBounds j true) a' w' (inv.set hj (Array.getElem?_eq_some_iff.1 hoj).1) (fun k ok hk hki hun' hno => ?_) (ready_mono hr (Ne.symm hji)) (fun W hW => by rw [h3.1]; exact hrun W hW) (h3.2.1 hdj) ?_
      · refine hfree k ok hk hki ?_ hno
        by_cases hjk : j = k
        · subst hjk; exact hjun
        · rw [getD_set_ne true hjk] at hun'; exact hun'
      · rw [Array.setIfInBounds_comm _ _ hji]
        exact h3.2.2
/-- The head in the text's order. -/
def wpHoist (P : Program) (C : World → Prop) (Z : Act → Prop) : List Oper → Act → Prop
  | [], a => Z a
  | o :: rest, a => ∃ v, (∀ W, C W → (execOp a.eval o).run P W = .ok (.value v) W) ∧ wpHoist P C Z rest (a.put o.dst v)
theorem wpHoist_step {Z : Act → Prop} {o : Oper} {rest : List Oper} {a : Act} (h : ∀ K : Act → Prop, (∀ a, wpHoist P C Z rest a → K a) → ∃ v, (∀ W, C W → (execOp a.eval o).run P W = .ok (.value v) W) ∧ K (a.put o.dst v)) : wpHoist P C Z (o :: rest) a := h _ fun _ h => h
theorem wpHoist_nil {Z : Act → Prop} {a : Act} (h : Z a) : wpHoist P C Z [] a := h
theorem hoists {n m : Nat} (hB : hoistB md ops n m = true) (hQ : ∀ c d v a w, Q (.panic c) (Act.put a d v) w → Q (.panic c) a w) {w : World} (hC : C w) {Z : Act → Prop}
    (hZ : ∀ a, Z a → wpAnyC P md ops C (fun j => decide (m ≤ j)) Q (ops.size - n) (listedTo ops.size n) a w) :
    ∀ (l : List Oper) (k : Nat) (a : Act), k + l.length = n → (∀ j, j < l.length → l[j]? = ops[k + j]?) → wpHoist P C Z l a → wpAnyC P md ops C (fun j => decide (m ≤ j)) Q (ops.size - k) (listedTo ops.size k) a w := by
  simp only [hoistB, Bool.and_eq_true, decide_eq_true_eq] at hB
  obtain ⟨hsel, hgs, hnm, hms, hall, hseq⟩ := hB
  have hget : ∀ i, i < n → Region.free md ops (listedTo ops.size i) i = true ∧ i ∈ Region.ready md ops (listedTo ops.size i) ∧ depB md ops (depI md ops i) i = true ∧ ∀ j, j < ops.size → m ≤ j → depI md ops i j = true := fun i hi => by
    have h := List.all_eq_true.1 hall i (List.mem_range.2 hi)
    simp only [Bool.and_eq_true] at h
    refine ⟨h.1, by simpa using h.2.1, h.2.2.1, fun j hj hmj => ?_⟩
    have h2 := List.all_eq_true.1 h.2.2.2 j (List.mem_range.2 hj)
    simp only [Bool.or_eq_true, decide_eq_true_eq] at h2
    rcases h2 with h2 | h2
    · omega
    · exact h2
  intro l
  induction l with
  | nil =>
    intro k a hk _ h
    obtain rfl : k = n := by simpa using hk
    exact hZ a h
  | cons o l ih =>
    intro k a hk hl h
    have hkn : k < n := by simp at hk; omega
    obtain ⟨v, hrun, h⟩ := h
    have hok : ops[k]? = some o := by have := hl 0 (by simp); simpa using this.symm
    have hgo : o.guard = none := by
      have := Array.all_eq_true.1 hgs k (by omega)
      have e : ops[k]'(by omega) = o := by have h2 := Array.getElem?_eq_getElem (xs := ops) (i := k) (by omega); rw [hok] at h2; exact (Option.some.inj h2).symm
      rw [e] at this; simpa using this
    obtain ⟨hf, hr, hd, hm2⟩ := hget k hkn
    have inv := listedTo_inv (n := n) (fun i hi => (hget i hi).2.1) k (by omega) (by omega)
    have e : ops.size - k = (ops.size - (k + 1)) + 1 := by omega
    rw [e]
    refine anyC_hoist2 hok hgo (Region.noSelect_spec hsel) (fun listed inv hun j hj hjr => ?_) (fun c a w => hQ c _ _ a w) _ _ a w inv (Region.free_spec hok hf) hr hrun hC (ih (k + 1) (a.put o.dst v) (by simp at hk; omega) (fun j hj => by have := hl (j + 1) (by simp; omega); simpa [Nat.add_assoc, Nat.add_comm 1 j] using this) h)
    rcases Nat.lt_or_ge j ops.size with hjs | hjs
    · exact depB_not_ready hd inv hun j (hm2 j hjs (of_decide_eq_true hj)) hjr
    · obtain ⟨-, o', ho', -⟩ := mem_ready.1 hjr
      rw [Array.getElem?_eq_none hjs] at ho'; cases ho'
/-- **A region that draws its order: n operations whose values every world of the class gives, a chain behind them; of the chain, what stands before operation m keeps the class.** -/
theorem wp_region_hoist {id : Nat} {a : Act} {w : World} {l : List Oper} (n m : Nat) (hm : P.follows .mixedOrders = true) (hB : hoistB .any l.toArray n m = true) (hC : C w.drew) (hQ : ∀ c d v a w, Q (.panic c) (Act.put a d v) w → Q (.panic c) a w)
    (h : wpHoist P C (fun a' => wpListC P l.toArray C (fun j => decide (m ≤ j)) Q (l.drop n) n a' w.drew) (l.take n) a) : (Code.region id l.toArray true).wp P Q a w := by
  have hB' := hB
  simp only [hoistB, Bool.and_eq_true, decide_eq_true_eq] at hB'
  obtain ⟨hsel, hgs, hnm, hms, hall, hseq⟩ := hB'
  have hsz : l.toArray.size = l.length := by simp
  have hgl : ∀ o ∈ l, o.guard = none := fun o ho => by
    obtain ⟨i, hi, rfl⟩ := List.getElem_of_mem ho
    have := Array.all_eq_true.1 hgs i (by simpa using hi)
    simpa using this
  refine wp_region_any hm ?_
  have H := hoists (P := P) (Q := Q) (w := w.drew) hB hQ hC (Z := fun a' => wpListC P l.toArray C (fun j => decide (m ≤ j)) Q (l.drop n) n a' w.drew) (fun a' h' => by
    have e : l.toArray.size - n = (l.drop n).length := by simp
    rw [e] at hseq ⊢
    exact anyC_of_list (l.drop n) n _ a' w.drew (fun j => by simp) (fun o ho => hgl o (List.mem_of_mem_drop ho)) hseq h') (l.take n) 0 a (by simp; omega) (fun j hj => by
      have hj' : j < n := by simp at hj; omega
      simp [hj']) h
  exact any_of_anyC _ _ _ _ H
end

/- Regions that draw their order: a head that keeps an invariant, whichever of its operations comes next; a chain behind it. -/


section
variable {P : Program} {ops : Array Oper} {md : Region.Mode} {Q : Exit → Act → World → Prop}
/-- However the head of n operations is run through: some operation of the head is ready, and none behind it; at its end the rest is a chain. -/
def headB (md : Region.Mode) (ops : Array Oper) (n : Nat) : Nat → Array Bool → Bool
  | 0, listed => (List.range n).all (fun i => listed.getD i false) && Region.seqB md ops (ops.size - n) n listed
  | f + 1, listed => !(Region.ready md ops listed).isEmpty && (Region.ready md ops listed).all (fun i => decide (i < n) && headB md ops n f (listed.setIfInBounds i true))
theorem any_of_inv {n : Nat} {l : List Oper} (hn : n ≤ ops.size) (hl : ∀ j, l[j]? = ops[n + j]?) (hlen : l.length = ops.size - n) (hg : ∀ o ∈ l, o.guard = none) {J : Array Bool → Act → World → Prop}
    (step : ∀ listed a w i, J listed a w → i ∈ Region.ready md ops listed → i < n → wpOp P ops Q i (fun a' w' => J (listed.setIfInBounds i true) a' w') a w)
    (fin : ∀ listed a w, J listed a w → (∀ i, i < n → listed.getD i false = true) → wpList P ops Q l a w) :
    ∀ (f : Nat) (listed : Array Bool) (a : Act) (w : World), headB md ops n f listed = true → J listed a w → wpAny P md ops Q (f + (ops.size - n)) listed a w
  | 0, listed, a, w, hB, hJ => by
    simp only [headB, Bool.and_eq_true] at hB
    obtain ⟨h1, h2⟩ := hB
    have h := fin listed a w hJ (fun i hi => List.all_eq_true.1 h1 i (List.mem_range.2 hi))
    rw [Nat.zero_add, ← hlen]
    rw [← hlen] at h2
    exact any_of_anyC _ _ _ _ (anyC_of_list (C := fun _ => True) (dep := fun _ => true) l n listed a w hl hg h2 (wpListC_rest l n a w (fun _ _ => rfl) hg h))
  | f + 1, listed, a, w, hB, hJ => by
    simp only [headB, Bool.and_eq_true, Bool.not_eq_true'] at hB
    obtain ⟨h1, h2⟩ := hB
    rw [show f + 1 + (ops.size - n) = (f + (ops.size - n)) + 1 by omega]
    refine ⟨fun h => (by rw [h] at h1; cases h1), fun i hi => ?_⟩
    have h3 := List.all_eq_true.1 h2 i hi
    simp only [Bool.and_eq_true, decide_eq_true_eq] at h3
    exact wpOp_mono (fun a' w' h => any_of_inv hn hl hlen hg step fin f _ a' w' h3.2 h) (step listed a w i hJ hi h3.1)
/-- **A region that draws its order: n operations that keep an invariant whichever is next, a chain behind them.** -/
theorem wp_region_inv {id : Nat} {a : Act} {w : World} {l : List Oper} (n : Nat) (hm : P.follows .mixedOrders = true) (hn : n ≤ l.length) (hg : l.all (fun o => o.guard == none) = true) (hB : headB .any l.toArray n n (Array.replicate l.length false) = true) (J : Array Bool → Act → World → Prop)
    (start : J (Array.replicate l.length false) a w.drew) (step : ∀ listed a w i, J listed a w → i ∈ Region.ready .any l.toArray listed → i < n → wpOp P l.toArray Q i (fun a' w' => J (listed.setIfInBounds i true) a' w') a w)
    (fin : ∀ listed a w, J listed a w → (∀ i, i < n → listed.getD i false = true) → wpList P l.toArray Q (l.drop n) a w) : (Code.region id l.toArray true).wp P Q a w := by
  refine wp_region_any hm ?_
  have H := any_of_inv (md := .any) (P := P) (Q := Q) (ops := l.toArray) (n := n) (l := l.drop n) (by simpa using hn) (fun j => by simp) (by simp) (fun o ho => by simpa using List.all_eq_true.1 hg o (List.mem_of_mem_drop ho)) step fin n _ a w.drew hB start
  rw [show n + (l.toArray.size - n) = l.toArray.size by simp; omega] at H
  simpa using H
/-- What a step of the head is, at an operation that is known. -/
theorem wpOp_at {i : Nat} {o : Oper} {K : Act → World → Prop} {a : Act} {w : World} (hi : ops[i]? = some o) (hg : o.guard = none) (h : Oper.wp P o a w K Q) : wpOp P ops Q i K a w := by
  unfold wpOp
  simp only [hi]
  rw [if_pos (by simp [Region.wanted, hg])]
  exact Or.inl h
theorem wpOp_value {i : Nat} {o : Oper} {K : Act → World → Prop} {a : Act} {w w' : World} (v : Value) (hi : ops[i]? = some o) (hg : o.guard = none) (hr : (execOp a.eval o).run P w = .ok (.value v) w') (h : K (a.put o.dst v) w') : wpOp P ops Q i K a w :=
  wpOp_at hi hg (by unfold Oper.wp; rw [hr]; exact h)
theorem wpOp_call {i : Nat} {o : Oper} {K : Act → World → Prop} {a : Act} {w : World} {R : Ending → World → Prop} (f : FuncId) (args : Array Value) (hi : ops[i]? = some o) (hg : o.guard = none) (hr : (execOp a.eval o).run P w = .ok (.enter f args) w) (hc : Calls P f args w R)
    (h : ∀ e w', R e w' → ∃ v, e = .returned v ∧ K (a.put o.dst v) w') : wpOp P ops Q i K a w := by
  refine wpOp_at hi hg ?_
  unfold Oper.wp
  rw [hr]
  refine hc.mono fun e w' he => ?_
  obtain ⟨v, rfl, hk⟩ := h e w' he
  exact hk
theorem getD_put {a : Act} {d t : Nat} {v : Value} : (Act.put a (some d) v).tmps.getD t undef = if d = t ∧ t < a.tmps.size then v else a.tmps.getD t undef := by
  by_cases h : d = t
  · subst h
    by_cases h2 : d < a.tmps.size
    · simp [Act.put, h2]
    · simp [Act.put, h2]
  · rw [if_neg (fun e => h e.1)]
    exact put_getD h
theorem listed_set {listed : Array Bool} {i j : Nat} (h : (listed.setIfInBounds i true).getD j false = true) : i = j ∨ listed.getD j false = true := by
  by_cases e : i = j
  · exact Or.inl e
  · rw [getD_set_ne false e] at h; exact Or.inr h
end

/- Regions that draw their order: everything is quiet but for one store, which may come late: what can come behind it looks at no memory. -/


section
variable {P : Program} {ops ops' : Array Oper} {md : Region.Mode} {C C1 : World → Prop} {s : Nat}
/-- An operation that looks at no memory. -/
def stillB (o : Oper) : Bool := match o.op with
  | .move _ => true
  | .assign _ => true
  | .pick _ _ _ => true
  | _ => false
theorem still_cases {o : Oper} (h : stillB o = true) : (∃ x, o.op = .move x) ∨ (∃ x, o.op = .assign x) ∨ (∃ c x y, o.op = .pick c x y) := by
  unfold stillB at h
  split at h
  · exact Or.inl ⟨_, by assumption⟩
  · exact Or.inr (Or.inl ⟨_, by assumption⟩)
  · exact Or.inr (Or.inr ⟨_, _, _, by assumption⟩)
  · cases h
theorem still_quiet {o : Oper} (h : stillB o = true) {a : Act} {W W' : World} {v : Value} (hq : Oper.quietAt P o a C W v) : Oper.quietAt P o a C1 W' v := by
  unfold Oper.quietAt at *
  rcases still_cases h with ⟨x, ho⟩ | ⟨x, ho⟩ | ⟨c, x, y, ho⟩
  · have hr : ∀ W, (execOp a.eval o).run P W = .ok (.value (a.eval x)) W := fun W => by simp only [execOp, ho]; rfl
    rw [hr] at *
    exact ⟨rfl, hq.2⟩
  · have hr : ∀ W, (execOp a.eval o).run P W = .ok (.value (a.eval x)) W := fun W => by simp only [execOp, ho]; rfl
    rw [hr] at *
    exact ⟨rfl, hq.2⟩
  · cases hc : a.eval c with
    | bool b =>
      have hr : ∀ W, (execOp a.eval o).run P W = .ok (.value (if b then a.eval x else a.eval y)) W := fun W => by simp only [execOp, ho, hc]; rfl
      rw [hr] at *
      exact ⟨rfl, hq.2⟩
    | _ =>
      exfalso
      have hr : ∃ r, (execOp a.eval o).run P W = .halt r W := by simp only [execOp, ho, hc]; exact ⟨_, rfl⟩
      obtain ⟨r, hr⟩ := hr
      rw [hr] at hq
      exact hq
/-- Binding edges lead to what stands before. -/
def backB (md : Region.Mode) (ops : Array Oper) : Bool := (List.range ops.size).all fun j => match ops[j]? with
  | some o => o.after.all fun e => !Region.binds md e || decide (e.on < j)
  | none => true
theorem ready_some (hb : backB md ops = true) {listed : Array Bool} (hs : listed.size = ops.size) : ∀ (k j : Nat), j ≤ k → j < ops.size → listed.getD j true = false → Region.ready md ops listed ≠ [] := by
  intro k
  induction k with
  | zero =>
    intro j hj hjs hu h0
    obtain rfl : j = 0 := by omega
    have : 0 ∈ Region.ready md ops listed := by
      refine mem_ready.2 ⟨hu, ops[0], Array.getElem?_eq_getElem hjs, fun e he hbe => ?_⟩
      have h1 := List.all_eq_true.1 hb 0 (List.mem_range.2 hjs)
      rw [Array.getElem?_eq_getElem hjs] at h1
      have h2 := Array.all_eq_true'.1 h1 e he
      simp only [hbe, Bool.not_true, Bool.false_or, decide_eq_true_eq] at h2
      omega
    rw [h0] at this; cases this
  | succ k ih =>
    intro j hj hjs hu h0
    by_cases hall : ∃ i, i < j ∧ listed.getD i true = false
    · obtain ⟨i, hi, hiu⟩ := hall
      exact ih i (by omega) (by omega) hiu h0
    · have : j ∈ Region.ready md ops listed := by
        refine mem_ready.2 ⟨hu, ops[j], Array.getElem?_eq_getElem hjs, fun e he hbe => ?_⟩
        have h1 := List.all_eq_true.1 hb j (List.mem_range.2 hjs)
        rw [Array.getElem?_eq_getElem hjs] at h1
        have h2 := Array.all_eq_true'.1 h1 e he
        simp only [hbe, Bool.not_true, Bool.false_or, decide_eq_true_eq] at h2
        cases hl : listed.getD e.on false with
        | true => rfl
        | false => exact absurd ⟨e.on, h2, getD_in (by omega) hl⟩ hall
      rw [h0] at this; cases this
/-- What a slot holds that nobody writes any more it holds at the end. -/
theorem any_keeps {Q : Act → Prop} {T : List Tmp} : ∀ (f : Nat) (listed : Array Bool) (a : Act), wpAnyQ P md ops C Q f listed a → (∀ w, ¬ C w) ∨ ((∀ j o, ops[j]? = some o → listed.getD j true = false → ∀ t ∈ T, o.dst ≠ some t) → ∃ a', Q a' ∧ ∀ t ∈ T, a.tmps.getD t undef = a'.tmps.getD t undef)
  | 0, listed, a, h => Or.inr fun _ => ⟨a, h.2, fun _ _ => rfl⟩
  | f + 1, listed, a, h => by
    cases hr : Region.ready md ops listed with
    | nil => exact Or.inr fun _ => ⟨a, h.1 hr, fun _ _ => rfl⟩
    | cons i r =>
      have hi : i ∈ Region.ready md ops listed := by rw [hr]; simp
      obtain ⟨hun, o, ho, -⟩ := mem_ready.1 hi
      obtain ⟨v, -, hk⟩ := yieldsIn_of_qOp ho (h.2 i hi)
      rcases any_keeps f _ _ hk with hc | ih
      · exact Or.inl hc
      · refine Or.inr fun hT => ?_
        obtain ⟨a', hq, he⟩ := ih fun j oj hj hu t ht => by
          refine hT j oj hj ?_ t ht
          by_cases hij : i = j
          · subst hij; exact hun
          · rw [getD_set_ne true hij] at hu; exact hu
        refine ⟨a', hq, fun t ht => ?_⟩
        rw [← he t ht]
        have hne := hT i o ho hun t ht
        cases hd : o.dst with
        | none => rfl
        | some d => exact (put_getD (fun e => hne (by rw [hd, e]))).symm
theorem any_phase {os nop : Oper} (hs : ops[s]? = some os) (hs' : ops'[s]? = some nop) (hoth : ∀ j, j ≠ s → ops'[j]? = ops[j]?) (haft : nop.after = os.after) (hd : os.dst = none) (hd' : nop.dst = none) (hg : os.guard = none) (hb : backB md ops = true)
    (hstill : ∀ j o, ops[j]? = some o → j ≠ s → (∃ e ∈ os.after, Region.binds md e = true ∧ e.on = j) ∨ stillB o = true)
    {T : List Tmp} (hT : ∀ j o, ops[j]? = some o → (∃ t ∈ T, o.dst = some t) → ∃ e ∈ os.after, Region.binds md e = true ∧ e.on = j)
    {Q : Act → Prop} {Q' : Exit → Act → World → Prop} {W0 : World} (hW0 : C W0)
    (hstore : ∀ (a a' : Act), Q a' → (∀ t ∈ T, a.tmps.getD t undef = a'.tmps.getD t undef) → ∀ W, C W → ∃ W', (execOp a.eval os).run P W = .ok .skip W' ∧ C1 W')
    (hQ : ∀ a W, Q a → C1 W → Q' .normal a W) :
    ∀ (f : Nat) (listed : Array Bool) (a : Act) (W : World), listed.size = ops.size → wpAnyQ P md ops' C Q f listed a → (listed.getD s true = false → C W) →
      (listed.getD s false = true → C1 W ∧ ∀ j o, ops[j]? = some o → listed.getD j true = false → stillB o = true) → wpAny P md ops Q' f listed a W := by
  have hss : s < ops.size := (Array.getElem?_eq_some_iff.1 hs).1
  have hmem : ∀ (listed : Array Bool) i, i ∈ Region.ready md ops' listed ↔ i ∈ Region.ready md ops listed := fun listed i => by
    rw [mem_ready, mem_ready]
    by_cases hi : i = s
    · subst hi
      rw [hs, hs']
      constructor
      · rintro ⟨h1, o, ho, h2⟩
        obtain rfl := Option.some.inj ho
        exact ⟨h1, os, rfl, by rw [← haft]; exact h2⟩
      · rintro ⟨h1, o, ho, h2⟩
        obtain rfl := Option.some.inj ho
        exact ⟨h1, nop, rfl, by rw [haft]; exact h2⟩
    · rw [hoth i hi]
  have hnil : ∀ listed : Array Bool, Region.ready md ops' listed = [] ↔ Region.ready md ops listed = [] := fun listed => by
    rw [List.eq_nil_iff_forall_not_mem, List.eq_nil_iff_forall_not_mem]
    exact ⟨fun h i hi => h i ((hmem listed i).2 hi), fun h i hi => h i ((hmem listed i).1 hi)⟩
  have hdone : ∀ listed : Array Bool, listed.size = ops.size → Region.ready md ops listed = [] → listed.getD s false = true := fun listed hsz h0 => by
    cases hl : listed.getD s false with
    | true => rfl
    | false => exact absurd h0 (ready_some hb hsz s s (Nat.le_refl _) hss (getD_in (by omega) hl))
  have hy : ∀ tmps, yielded ops' tmps = yielded ops tmps := fun tmps => by
    funext j
    unfold yielded
    by_cases hj : j = s
    · subst hj
      rw [hs, hs']
      simp only [Option.bind_some, hd, hd']
    · rw [hoth j hj]
  have hqo : ∀ i (K : Act → Prop) a, i ≠ s → qOp P ops' C i K a → qOp P ops C i K a := fun i K a hi h => by
    unfold qOp at h ⊢
    rw [hoth i hi, hy] at h
    exact h
  intro f
  induction f with
  | zero =>
    intro listed a W hsz h _ h1
    have h0 := (hnil listed).1 h.1
    exact ⟨h0, hQ a W h.2 (h1 (hdone listed hsz h0)).1⟩
  | succ f ih =>
    intro listed a W hsz h hc h1
    refine ⟨fun h0 => hQ a W (h.1 ((hnil listed).2 h0)) (h1 (hdone listed hsz h0)).1, fun i hi => ?_⟩
    obtain ⟨hun, oi, hoi, hall⟩ := mem_ready.1 hi
    have hq := h.2 i ((hmem listed i).2 hi)
    have hsz' : (listed.setIfInBounds i true).size = ops.size := by simpa using hsz
    by_cases his : i = s
    · subst his
      obtain rfl : oi = os := Option.some.inj (hoi.symm.trans hs)
      obtain ⟨v, -, hk⟩ := yieldsIn_of_qOp hs' hq
      rw [hd'] at hk
      have hk' : wpAnyQ P md ops' C Q f (listed.setIfInBounds i true) a := hk
      have hlisted : ∀ j, (∃ e ∈ oi.after, Region.binds md e = true ∧ e.on = j) → listed.getD j true = false → False := fun j ⟨e, he, hbe, hej⟩ hu => by
        have h2 := hall e he hbe
        rw [hej, getD_both hu] at h2
        cases h2
      have hun2 : ∀ j, (listed.setIfInBounds i true).getD j true = false → j ≠ i ∧ listed.getD j true = false := fun j hu => by
        by_cases hij : i = j
        · subst hij
          have : (listed.setIfInBounds i true).getD i true = true := by
            have : i < listed.size := by omega
            simp [this]
          rw [this] at hu; cases hu
        · rw [getD_set_ne true hij] at hu
          exact ⟨fun e => hij e.symm, hu⟩
      rcases any_keeps (T := T) f _ _ hk' with hno | hkeep
      · exact absurd hW0 (hno W0)
      obtain ⟨a', ha', he'⟩ := hkeep fun j oj hj hu t ht hdj => by
        obtain ⟨hji, hju⟩ := hun2 j hu
        rw [hoth j hji] at hj
        exact hlisted j (hT j oj hj ⟨t, ht, hdj⟩) hju
      obtain ⟨W', hrun, hC1⟩ := hstore a a' ha' he' W (hc hun)
      unfold wpOp
      simp only [hs]
      rw [if_pos (by simp [Region.wanted, hg])]
      left
      unfold Oper.wp
      rw [hrun]
      show wpAny P md ops Q' f (listed.setIfInBounds i true) (a.put oi.dst undef) W'
      rw [hd]
      refine ih (listed.setIfInBounds i true) a W' hsz' hk' (fun hu => absurd rfl (hun2 i hu).1) fun _ => ⟨hC1, fun j oj hj hu => ?_⟩
      obtain ⟨hji, hju⟩ := hun2 j hu
      rcases hstill j oj hj hji with h | h
      · exact (hlisted j h hju).elim
      · exact h
    · have hq2 := hqo i _ a his hq
      have hsi : ∀ d, (listed.setIfInBounds i true).getD s d = listed.getD s d := fun d => getD_set_ne d his
      cases hl : listed.getD s false with
      | false =>
        have hus := getD_in (by omega) hl
        exact wpOp_of_qOp (hc hus) (fun a' w' hw' hk => ih _ a' w' hsz' hk (fun _ => hw') fun h2 => by rw [hsi, hl] at h2; cases h2) hq2
      | true =>
        obtain ⟨hC1, hst⟩ := h1 hl
        obtain ⟨v, hyv, hk⟩ := yieldsIn_of_qOp hoi hq2
        have hyW : YieldsIn P ops (fun w => w = W) oi v a := by
          rcases hyv with ⟨hw, hv⟩ | ⟨hw, hv⟩
          · exact Or.inl ⟨hw, fun w _ => still_quiet (hst i oi hoi hun) (hv W0 hW0)⟩
          · exact Or.inr ⟨hw, hv⟩
        refine wpOp_of_qOp (C := fun w => w = W) (K := wpAnyQ P md ops' C Q f (listed.setIfInBounds i true)) rfl (fun a' w' hw' hk => ?_) (hyW.qOp hoi hk)
        subst hw'
        refine ih _ a' w' hsz' hk (fun hu => ?_) fun _ => ⟨hC1, fun j oj hj hu => ?_⟩
        · rw [hsi] at hu
          rw [getD_both hu] at hl; cases hl
        · refine hst j oj hj ?_
          by_cases hij : i = j
          · subst hij; exact hun
          · rw [getD_set_ne true hij] at hu; exact hu
/-- The checks that the kernel makes. -/
def phaseB (md : Region.Mode) (ops : Array Oper) (s : Nat) (os : Oper) (T : List Tmp) : Bool :=
  backB md ops && ((List.range ops.size).all fun j => match ops[j]? with
    | some o => (decide (j = s) || (os.after.any (fun e => Region.binds md e && decide (e.on = j)) || stillB o)) && (!(T.any fun t => o.dst == some t) || os.after.any (fun e => Region.binds md e && decide (e.on = j)))
    | none => true)
/-- The store left out. -/
def nopOf (o : Oper) : Oper := { o with op := .move (.const (.bool true)) }
/-- **A region that draws its order, everything quiet but for one store of a value y behind a pointer x, which may come late.** -/
theorem wp_region_phase {id : Nat} {a : Act} {w : World} {l : List Oper} (C C1 : World → Prop) (s : Nat) (os : Oper) (tx ty : Tmp) (vx vy : Value) (t : TypeId) {Q' : Exit → Act → World → Prop} (hm : P.follows .mixedOrders = true)
    (hs : l[s]? = some os) (hop : os.op = .store t (.tmp tx) (.tmp ty)) (hd : os.dst = none) (hg : os.guard = none) (hB : Region.lexB .any (l.set s (nopOf os)).toArray = true) (hP : phaseB .any l.toArray s os [tx, ty] = true) (hC : C w.drew)
    (hstore : ∀ W, C W → ∃ W', (Instr.storeAt t vx vy).run P W = .ok () W' ∧ C1 W')
    (h : wpQuiet P (l.set s (nopOf os)).toArray C (fun a' => a'.tmps.getD tx undef = vx ∧ a'.tmps.getD ty undef = vy ∧ ∀ W, C1 W → Q' .normal a' W) (l.set s (nopOf os)) a) : (Code.region id l.toArray true).wp P Q' a w := by
  obtain ⟨T, hT⟩ : ∃ T, T = [tx, ty] := ⟨_, rfl⟩
  rw [← hT] at hP
  obtain ⟨nop, hnop⟩ : ∃ n, n = nopOf os := ⟨_, rfl⟩
  rw [← hnop] at hB h
  have haft : nop.after = os.after := by rw [hnop]; rfl
  have hd' : nop.dst = none := by rw [hnop]; exact hd
  obtain ⟨Q, hQd⟩ : ∃ Q : Act → Prop, Q = fun a' => a'.tmps.getD tx undef = vx ∧ a'.tmps.getD ty undef = vy ∧ ∀ W, C1 W → Q' .normal a' W := ⟨_, rfl⟩
  rw [← hQd] at h
  have hQ : ∀ a W, Q a → C1 W → Q' .normal a W := fun a W hq hc => by rw [hQd] at hq; exact hq.2.2 W hc
  replace hstore : ∀ (a a' : Act), Q a' → (∀ t ∈ T, a.tmps.getD t undef = a'.tmps.getD t undef) → ∀ W, C W → ∃ W', (execOp a.eval os).run P W = .ok .skip W' ∧ C1 W' := fun a a' hq he W hw => by
    rw [hQd] at hq
    obtain ⟨W', h1, h2⟩ := hstore W hw
    refine ⟨W', ?_, h2⟩
    have ex : a.eval (.tmp tx) = vx := by rw [← hq.1, ← he tx (by rw [hT]; simp)]; rfl
    have ey : a.eval (.tmp ty) = vy := by rw [← hq.2.1, ← he ty (by rw [hT]; simp)]; rfl
    simp only [execOp, hop, ex, ey, Sem.run_bind, Sem.run_pure, Result.andThen_ok, h1]
  clear hT hnop hQd
  simp only [phaseB, Bool.and_eq_true] at hP
  obtain ⟨hb, hall⟩ := hP
  have hlen := (List.getElem?_eq_some_iff.1 hs).1
  have hany : ∀ j, os.after.any (fun e => Region.binds .any e && decide (e.on = j)) = true → ∃ e ∈ os.after, Region.binds .any e = true ∧ e.on = j := fun j h => by
    obtain ⟨e, he, h2⟩ := Array.any_eq_true'.1 h
    simp only [Bool.and_eq_true, decide_eq_true_eq] at h2
    exact ⟨e, he, h2⟩
  have hj : ∀ j o, l.toArray[j]? = some o → (j = s ∨ (∃ e ∈ os.after, Region.binds .any e = true ∧ e.on = j) ∨ stillB o = true) ∧ ((∃ t ∈ T, o.dst = some t) → ∃ e ∈ os.after, Region.binds .any e = true ∧ e.on = j) := fun j o ho => by
    have hjs : j < l.toArray.size := (Array.getElem?_eq_some_iff.1 ho).1
    have h2 := List.all_eq_true.1 hall j (List.mem_range.2 hjs)
    rw [ho] at h2
    simp only [Bool.and_eq_true, Bool.or_eq_true, decide_eq_true_eq, Bool.not_eq_true'] at h2
    refine ⟨?_, fun ⟨t, ht, hdt⟩ => ?_⟩
    · rcases h2.1 with h | h | h
      · exact Or.inl h
      · exact Or.inr (Or.inl (hany j h))
      · exact Or.inr (Or.inr h)
    · rcases h2.2 with h | h
      · rw [List.any_eq_false] at h
        exact absurd (by simp [hdt]) (h t ht)
      · exact hany j h
  simp only [Region.lexB, Bool.and_eq_true] at hB
  have H := wpAnyQ_lex (P := P) (C := C) (md := .any) hB.1 (l.set s nop) 0 (Array.replicate (l.set s nop).toArray.size false) a (by simp) (by simpa using hB.2) h
  refine wp_region_any hm ?_
  have := any_phase (P := P) (md := .any) (ops := l.toArray) (ops' := (l.set s nop).toArray) (C := C) (C1 := C1) (s := s) (os := os) (nop := nop) (by simpa using hs) (by simp [hlen]) (fun j hjs => by
      simp only [List.getElem?_toArray]
      exact List.getElem?_set_ne (fun e => hjs e.symm)) haft hd hd' hg hb (fun j o ho hjs => ((hj j o ho).1.resolve_left hjs)) (T := T) (fun j o ho h => (hj j o ho).2 h) (Q := Q) (Q' := Q') hC hstore hQ _ _ a w.drew (by simp) H (fun _ => hC) (fun h => by
      rw [show (Array.replicate (l.set s nop).toArray.size false).getD s false = false from getD_replicate_false _ _] at h; cases h)
  simpa using this
end
end Go.Proofs.Ytadaijepalhohaa

namespace Go.Proofs.Ytadaijepalhohaa
open Go.RowKit

section
variable {P : Program} {ops : Array Oper} {md : Region.Mode} {C : World → Prop} {Q : Exit → Act → World → Prop} {dep : Nat → Bool}
def seqI (md : Region.Mode) (ops : Array Oper) : List Nat → Array Bool → Bool
  | [], listed => (Region.ready md ops listed).isEmpty
  | t :: r, listed => decide (Region.ready md ops listed = [t]) && seqI md ops r (listed.setIfInBounds t true)
def pickB (md : Region.Mode) (ops : Array Oper) (dep : Nat → Bool) (ts : List Nat) : List Nat → Array Bool → Bool
  | [], listed => seqI md ops ts listed
  | i :: r, listed => Region.free md ops listed i && ((Region.ready md ops listed).contains i && (depB md ops (depI md ops i) i && ((List.range ops.size).all (fun j => !dep j || depI md ops i j) && pickB md ops dep ts r (listed.setIfInBounds i true))))
def wpHoistI (P : Program) (ops : Array Oper) (C : World → Prop) (Z : Act → Prop) : List Nat → Act → Prop
  | [], a => Z a
  | i :: r, a => ∃ o v, ops[i]? = some o ∧ (∀ W, C W → (execOp a.eval o).run P W = .ok (.value v) W) ∧ wpHoistI P ops C Z r (a.put o.dst v)
def wpSeqI (P : Program) (ops : Array Oper) (C : World → Prop) (dep : Nat → Bool) (Q : Exit → Act → World → Prop) : List Nat → Act → World → Prop
  | [], a, w => Q .normal a w
  | i :: r, a, w => wpOp P ops Q i (fun a' w' => (dep i = false → C w') ∧ wpSeqI P ops C dep Q r a' w') a w
theorem any_of_seqI : ∀ (ts : List Nat) (listed : Array Bool) (a : Act) (w : World), seqI md ops ts listed = true → wpSeqI P ops C dep Q ts a w → wpAnyC P md ops C dep Q ts.length listed a w
  | [], listed, a, w, hB, h => ⟨by simpa [seqI] using hB, h⟩
  | t :: r, listed, a, w, hB, h => by
    simp only [seqI, Bool.and_eq_true, decide_eq_true_eq] at hB
    refine ⟨fun h1 => (by rw [hB.1] at h1; cases h1), fun i hi => ?_⟩
    rw [hB.1] at hi
    obtain rfl : i = t := by simpa using hi
    exact wpOp_mono (fun a' w' h' => ⟨h'.1, any_of_seqI r _ a' w' hB.2 h'.2⟩) h
theorem any_of_hoistI (hsel : Region.noSelect ops = true) (hgs : ops.all (fun o => o.guard == none) = true) (hQ : ∀ c d v a w, Q (.panic c) (Act.put a d v) w → Q (.panic c) a w) {w : World} (hC : C w) {ts : List Nat} {Z : Act → Prop} (hZ : ∀ a, Z a → wpSeqI P ops C dep Q ts a w) :
    ∀ (is : List Nat) (listed : Array Bool) (a : Act), pickB md ops dep ts is listed = true → HeadInv md ops ops.size listed → wpHoistI P ops C Z is a → wpAnyC P md ops C dep Q (is.length + ts.length) listed a w
  | [], listed, a, hB, _, h => by
    rw [List.length_nil, Nat.zero_add]
    exact any_of_seqI ts listed a w hB (hZ a h)
  | i :: r, listed, a, hB, inv, h => by
    simp only [pickB, Bool.and_eq_true] at hB
    obtain ⟨hf, hr, hd, hm, hB⟩ := hB
    obtain ⟨o, v, ho, hrun, h⟩ := h
    have hi : i < ops.size := (Array.getElem?_eq_some_iff.1 ho).1
    have hr' : i ∈ Region.ready md ops listed := by simpa using hr
    have hgo : o.guard = none := by
      have := Array.all_eq_true.1 hgs i hi
      have e : ops[i]'hi = o := by have h2 := Array.getElem?_eq_getElem (xs := ops) (i := i) hi; rw [ho] at h2; exact (Option.some.inj h2).symm
      rw [e] at this; simpa using this
    rw [List.length_cons, show r.length + 1 + ts.length = (r.length + ts.length) + 1 by omega]
    refine anyC_hoist2 ho hgo (Region.noSelect_spec hsel) (fun listed' inv' hun j hj hjr => ?_) (fun c a w => hQ c _ _ a w) _ _ a w inv (Region.free_spec ho hf) hr' hrun hC (any_of_hoistI hsel hgs hQ hC hZ r _ _ hB (inv.set hr' hi) h)
    rcases Nat.lt_or_ge j ops.size with hjs | hjs
    · have h2 := List.all_eq_true.1 hm j (List.mem_range.2 hjs)
      rw [hj] at h2
      exact depB_not_ready hd inv' hun j (by simpa using h2) hjr
    · obtain ⟨-, o', ho', -⟩ := mem_ready.1 hjr
      rw [Array.getElem?_eq_none hjs] at ho'; cases ho'
/-- **A region that draws its order: the operations 'is' have one value in every world of the class; the others, 'ts', are a chain; those that are not marked keep the class.** -/
theorem wp_region_pick {id : Nat} {a : Act} {w : World} {l : List Oper} (is ts : List Nat) (dep : Nat → Bool) (hm : P.follows .mixedOrders = true) (hsel : Region.noSelect l.toArray = true) (hgs : l.toArray.all (fun o => o.guard == none) = true) (hlen : is.length + ts.length = l.length)
    (hB : pickB .any l.toArray dep ts is (Array.replicate l.length false) = true) (hC : C w.drew) (hQ : ∀ c d v a w, Q (.panic c) (Act.put a d v) w → Q (.panic c) a w)
    (h : wpHoistI P l.toArray C (fun a' => wpSeqI P l.toArray C dep Q ts a' w.drew) is a) : (Code.region id l.toArray true).wp P Q a w := by
  refine wp_region_any hm ?_
  have hs : l.toArray.size = l.length := by simp
  have H := any_of_hoistI (md := .any) (P := P) (Q := Q) (w := w.drew) (dep := dep) hsel hgs hQ hC (ts := ts) (fun _ h => h) is (Array.replicate l.toArray.size false) a (by rw [hs]; exact hB) HeadInv.start h
  rw [hlen, ← hs] at H
  exact any_of_anyC _ _ _ _ H
theorem hoistI_step {Z : Act → Prop} {i : Nat} {r : List Nat} {a : Act} {o : Oper} (v : Value) (ho : ops[i]? = some o) (hr : ∀ W, C W → (execOp a.eval o).run P W = .ok (.value v) W) (h : wpHoistI P ops C Z r (a.put o.dst v)) : wpHoistI P ops C Z (i :: r) a := ⟨o, v, ho, hr, h⟩
theorem hoistI_done {Z : Act → Prop} {a : Act} (h : Z a) : wpHoistI P ops C Z [] a := h
theorem seqI_step {i : Nat} {r : List Nat} {a : Act} {w : World} (h : wpOp P ops Q i (fun a' w' => (dep i = false → C w') ∧ wpSeqI P ops C dep Q r a' w') a w) : wpSeqI P ops C dep Q (i :: r) a w := h
theorem seqI_done {a : Act} {w : World} (h : Q .normal a w) : wpSeqI P ops C dep Q [] a w := h
theorem wpOp_skip {i : Nat} {o : Oper} {K : Act → World → Prop} {a : Act} {w w' : World} (hi : ops[i]? = some o) (hg : o.guard = none) (hr : (execOp a.eval o).run P w = .ok .skip w') (h : K (a.put o.dst undef) w') : wpOp P ops Q i K a w :=
  wpOp_at hi hg (by unfold Oper.wp; rw [hr]; exact h)
/-- The last operations, as a walk has them. -/
theorem seqI_list (ts : List Nat) : ∀ (l : List Oper) (a : Act) (w : World), ts.map (fun t => ops[t]?) = l.map some → (∀ o ∈ l, o.guard = none) → (∀ t ∈ ts, dep t = true) → wpList P ops Q l a w → wpSeqI P ops C dep Q ts a w := by
  induction ts with
  | nil =>
    intro l a w hm _ _ h
    cases l with
    | nil => exact h
    | cons o l => cases hm
  | cons t r ih =>
    intro l a w hm hg hd h
    cases l with
    | nil => cases hm
    | cons o l =>
      have h1 : ops[t]? = some o := by have := congrArg List.head? hm; simpa using this
      have h2 : r.map (fun t => ops[t]?) = l.map some := by have := congrArg List.tail hm; simpa using this
      have hgo := hg o (List.mem_cons_self ..)
      have hdt := hd t (List.mem_cons_self ..)
      have ih' := fun a' w' hh => ih l a' w' h2 (fun o ho => hg o (List.mem_cons_of_mem _ ho)) (fun t ht => hd t (List.mem_cons_of_mem _ ht)) hh
      refine seqI_step ?_
      unfold wpOp
      simp only [h1]
      rw [if_pos (by simp [Region.wanted, hgo])]
      rw [wpList, if_pos (by simp [Region.wanted, hgo])] at h
      refine h.imp (fun h => Oper.wp_mono (fun a' w' hh => ⟨fun hk => ?_, ih' a' w' hh⟩) h) id
      rw [hdt] at hk; cases hk
theorem seqI_tail (n : Nat) (ts : List Nat) {a : Act} {w : World} (hm : ts.map (fun t => ops[t]?) = (ops.toList.drop n).map some) (hg : (ops.toList.drop n).all (fun o => o.guard == none) = true) (hd : ts.all dep = true) (h : wpList P ops Q (ops.toList.drop n) a w) : wpSeqI P ops C dep Q ts a w :=
  seqI_list ts _ a w hm (fun o ho => by simpa using List.all_eq_true.1 hg o ho) (fun t ht => List.all_eq_true.1 hd t ht) h
end
end Go.Proofs.Ytadaijepalhohaa

namespace Go.Proofs.Ytadaijepalhohaa
open Go.RowKit

section
variable {P : Program} {ops : Array Oper} {md : Region.Mode} {S : World → Prop} {Q : Exit → Act → World → Prop} {fuel : Nat} {listed : Array Bool} {a : Act} {w : World}
theorem held_start {id : Nat} {l : List Oper} (n : Nat) (hm : P.follows .mixedOrders = true) (hn : l.toArray.size = n) (h : wpAnyH P .any l.toArray Q S n (Array.replicate n false) a w.drew) : (Code.region id l.toArray true).wp P Q a w := by
  subst hn
  exact wp_region_held hm h
/-- What has one value in every world that meets S may be taken first. -/
theorem held_take (i : Nat) {o : Oper} (v : Value) (hi : ops[i]? = some o) (hs : Region.noSelect ops = true) (hf : Region.free md ops listed i = true) (hr : (Region.ready md ops listed).contains i = true)
    (hQ : ∀ c a w, Q (.panic c) (a.put o.dst v) w → Q (.panic c) a w) (hw : Region.wanted o (yielded ops a.tmps) = true) (hv : ∀ W, S W → (execOp a.eval o).run P W = .ok (.value v) W) (hS : S w)
    (h : wpAnyH P md ops Q S fuel (listed.setIfInBounds i true) (a.put o.dst v) w) : wpAnyH P md ops Q S (fuel + 1) listed a w :=
  wpAnyH_take hi hs hf hr hQ (Or.inl ⟨hw, hv⟩) hS h
/-- What its guard leaves out. -/
theorem held_out (i : Nat) {o : Oper} (hi : ops[i]? = some o) (hs : Region.noSelect ops = true) (hf : Region.free md ops listed i = true) (hr : (Region.ready md ops listed).contains i = true)
    (hQ : ∀ c a w, Q (.panic c) (a.put o.dst undef) w → Q (.panic c) a w) (hw : Region.wanted o (yielded ops a.tmps) = false) (hS : S w)
    (h : wpAnyH P md ops Q S fuel (listed.setIfInBounds i true) (a.put o.dst undef) w) : wpAnyH P md ops Q S (fuel + 1) listed a w :=
  wpAnyH_take hi hs hf hr hQ (Or.inr ⟨hw, rfl⟩) hS h
theorem held_one (i : Nat) {o : Oper} (hi : ops[i]? = some o) (hr : Region.ready md ops listed = [i]) (hw : Region.wanted o (yielded ops a.tmps) = true)
    (h : Oper.wp P o a w (fun a' w' => S w' ∧ wpAnyH P md ops Q S fuel (listed.setIfInBounds i true) a' w') Q) : wpAnyH P md ops Q S (fuel + 1) listed a w := by
  refine wpAnyH_all hr (by simp) fun j hj => ?_
  obtain rfl : j = i := by simpa using hj
  unfold wpOp
  simp only [hi]
  rw [if_pos hw]
  exact Or.inl h
/-- What alone may come now, and has a value in this world. -/
theorem held_value (i : Nat) {o : Oper} (v : Value) (hi : ops[i]? = some o) (hr : Region.ready md ops listed = [i]) (hw : Region.wanted o (yielded ops a.tmps) = true) (hv : (execOp a.eval o).run P w = .ok (.value v) w) (hS : S w)
    (h : wpAnyH P md ops Q S fuel (listed.setIfInBounds i true) (a.put o.dst v) w) : wpAnyH P md ops Q S (fuel + 1) listed a w := by
  refine held_one i hi hr hw ?_
  unfold Oper.wp
  rw [hv]
  exact ⟨hS, h⟩
/-- A call that alone may come now. -/
theorem held_call (i : Nat) {o : Oper} {R : Ending → World → Prop} (f : FuncId) (args : Array Value) (hi : ops[i]? = some o) (hr : Region.ready md ops listed = [i]) (hw : Region.wanted o (yielded ops a.tmps) = true) (hv : (execOp a.eval o).run P w = .ok (.enter f args) w) (hc : Calls P f args w R)
    (h : ∀ e w', R e w' → ∃ v, e = .returned v ∧ S w' ∧ wpAnyH P md ops Q S fuel (listed.setIfInBounds i true) (a.put o.dst v) w') : wpAnyH P md ops Q S (fuel + 1) listed a w := by
  refine held_one i hi hr hw ?_
  unfold Oper.wp
  rw [hv]
  refine hc.mono fun e w' he => ?_
  obtain ⟨v, rfl, hS, hk⟩ := h e w' he
  exact ⟨hS, hk⟩
theorem held_done (hr : Region.ready md ops listed = []) (h : Q .normal a w) : wpAnyH P md ops Q S fuel listed a w := wpAnyH_done hr h fuel
end
end Go.Proofs.Ytadaijepalhohaa

namespace Go.Proofs.Ytadaijepalhohaa
open Go.RowKit

/-- How many of the first n are not listed. -/
def cntU : Nat → (Nat → Bool) → Nat
  | 0, _ => 0
  | n + 1, g => (if g n = true then 0 else 1) + cntU n g
theorem cntU_same : ∀ (n : Nat) (g h : Nat → Bool), (∀ k, k < n → g k = h k) → cntU n g = cntU n h
  | 0, _, _, _ => rfl
  | n + 1, g, h, e => by
    unfold cntU
    rw [e n (Nat.lt_succ_self _), cntU_same n g h fun k hk => e k (by omega)]
theorem cntU_one : ∀ (n i : Nat) (g h : Nat → Bool), i < n → g i = false → h i = true → (∀ k, k ≠ i → h k = g k) → cntU n h + 1 = cntU n g
  | 0, _, _, _, hi, _, _, _ => absurd hi (Nat.not_lt_zero _)
  | n + 1, i, g, h, hi, h1, h2, h3 => by
    unfold cntU
    by_cases e : i = n
    · subst e
      rw [h1, h2, cntU_same i h g fun k hk => h3 k (by omega)]
      simp; omega
    · have := cntU_one n i g h (by omega) h1 h2 h3
      rw [h3 n (fun q => e q.symm)]
      omega
theorem cntU_zero : ∀ (n : Nat) (g : Nat → Bool), cntU n g = 0 → ∀ k, k < n → g k = true
  | 0, _, _, k, hk => absurd hk (Nat.not_lt_zero _)
  | n + 1, g, h, k, hk => by
    unfold cntU at h
    by_cases e : g n = true
    · by_cases q : k = n
      · rw [q]; exact e
      · exact cntU_zero n g (by omega) k (by omega)
    · rw [if_neg e] at h; omega
theorem cntU_all : ∀ (n : Nat) (g : Nat → Bool), (∀ k, k < n → g k = true) → cntU n g = 0
  | 0, _, _ => rfl
  | n + 1, g, h => by
    unfold cntU
    rw [if_pos (h n (Nat.lt_succ_self _)), cntU_all n g fun k hk => h k (by omega)]
theorem cntU_none : ∀ (n : Nat) (g : Nat → Bool), (∀ k, k < n → g k = false) → cntU n g = n
  | 0, _, _ => rfl
  | n + 1, g, h => by
    unfold cntU
    rw [h n (Nat.lt_succ_self _), cntU_none n g fun k hk => h k (by omega)]
    simp; omega
theorem getD_same (l : Array Bool) (j : Nat) (h : j < l.size) : l.getD j true = l.getD j false := by simp [h]
theorem getD_low {l : Array Bool} {j : Nat} (h : l.getD j true = false) : l.getD j false = false := by
  by_cases hj : j < l.size
  · rw [← getD_same l j hj]; exact h
  · simp [hj] at h
section
variable {P : Program} {ops : Array Oper} {Q : Exit → Act → World → Prop}
def bindsOn (o : Oper) (k : Nat) : Bool := o.after.any (fun e => Region.binds .any e && e.on == k)
/-- Each operation waits only for earlier ones; the last one for all. -/
def earlyB (ops : Array Oper) (n : Nat) : Bool :=
  (List.range (n + 1)).all (fun j => match ops[j]? with
    | some o => o.after.all (fun e => !Region.binds .any e || decide (e.on < j))
    | none => false) && (List.range n).all (fun k => match ops[n]? with
    | some o => bindsOn o k
    | none => false)
theorem any_of_inv2 {n : Nat} (hsz : ops.size = n + 1) (hE : earlyB ops n = true) {J : Array Bool → Act → World → Prop}
    (step : ∀ listed a w i, J listed a w → i ∈ Region.ready .any ops listed → i < n → wpOp P ops Q i (fun a' w' => J (listed.setIfInBounds i true) a' w') a w)
    (fin : ∀ listed a w, J listed a w → (∀ i, i < n → listed.getD i false = true) → wpOp P ops Q n (fun a' w' => Q .normal a' w') a w) :
    ∀ (f : Nat) (listed : Array Bool) (a : Act) (w : World), listed.size = n + 1 → listed.getD n false = false → cntU n (fun k => listed.getD k false) = f → J listed a w → wpAny P .any ops Q (f + 1) listed a w := by
  unfold earlyB at hE
  rw [Bool.and_eq_true] at hE
  obtain ⟨hE1, hE2⟩ := hE
  have early : ∀ j o, j ≤ n → ops[j]? = some o → ∀ e ∈ o.after, Region.binds .any e = true → e.on < j := fun j o hj ho e he hb => by
    have h := List.all_eq_true.1 hE1 j (List.mem_range.2 (by omega))
    rw [ho] at h
    have h2 := Array.all_eq_true'.1 h e he
    rw [hb] at h2
    simpa using h2
  have last : ∀ listed, n ∈ Region.ready .any ops listed → ∀ k, k < n → listed.getD k false = true := fun listed hr k hk => by
    obtain ⟨-, o, ho, hall⟩ := mem_ready.1 hr
    have h := List.all_eq_true.1 hE2 k (List.mem_range.2 hk)
    rw [ho] at h
    unfold bindsOn at h
    obtain ⟨e, he, hb⟩ := Array.any_eq_true'.1 h
    simp only [Bool.and_eq_true, beq_iff_eq] at hb
    rw [← hb.2]
    exact hall e he hb.1
  have isr : ∀ (listed : Array Bool) j, listed.size = n + 1 → j ≤ n → listed.getD j false = false → (∀ k, k < j → listed.getD k false = true) → j ∈ Region.ready .any ops listed := fun listed j hs hj hl hk => by
    have hlt : j < ops.size := by omega
    exact mem_ready.2 ⟨by rw [getD_same listed j (by omega)]; exact hl, ops[j], by simp [hlt], fun e he hb => hk _ (early j ops[j] hj (by simp [hlt]) e he hb)⟩
  have inb : ∀ listed i, i ∈ Region.ready .any ops listed → i ≤ n ∧ listed.getD i false = false := fun listed i hi => by
    obtain ⟨h1, o, ho, -⟩ := mem_ready.1 hi
    have : i < ops.size := (Array.getElem?_eq_some_iff.1 ho).1
    exact ⟨by omega, getD_low h1⟩
  intro f
  induction f with
  | zero =>
    intro listed a w hs hn hc hJ
    have hall := cntU_zero n _ hc
    have hr := isr listed n hs (Nat.le_refl _) hn hall
    refine ⟨fun h => (by rw [h] at hr; cases hr), fun i hi => ?_⟩
    obtain ⟨h1, h2⟩ := inb listed i hi
    have hin : i = n := by
      refine Classical.byContradiction fun hne => ?_
      rw [hall i (by omega)] at h2; cases h2
    subst hin
    refine wpOp_mono (fun a' w' h => ?_) (fin listed a w hJ hall)
    refine ⟨?_, h⟩
    refine List.eq_nil_iff_forall_not_mem.2 fun j hj => ?_
    obtain ⟨h3, h4⟩ := inb _ j hj
    by_cases e : j = i
    · subst e
      simp [hs] at h4
    · have := hall j (by omega)
      rw [Array.getD_eq_getD_getElem?, Array.getElem?_setIfInBounds_ne (fun q => e q.symm), ← Array.getD_eq_getD_getElem?] at h4
      rw [this] at h4; cases h4
  | succ f ih =>
    intro listed a w hs hn hc hJ
    refine ⟨fun h => ?_, fun i hi => ?_⟩
    · exfalso
      have hex : ∃ j, j < n ∧ listed.getD j false = false := by
        refine Classical.byContradiction fun hno => ?_
        have : cntU n (fun k => listed.getD k false) = 0 := cntU_all n _ fun k hk => by
          cases hb : listed.getD k false with
          | true => rfl
          | false => exact absurd ⟨k, hk, hb⟩ hno
        omega
      have hleast : ∀ m j, j ≤ m → j < n → listed.getD j false = false → ∃ j, j < n ∧ listed.getD j false = false ∧ ∀ k, k < j → listed.getD k false = true := by
        intro m
        induction m with
        | zero => intro j hj hjn hl; exact ⟨j, hjn, hl, fun k hk => by omega⟩
        | succ m ihm =>
          intro j hj hjn hl
          by_cases hsm : ∃ k, k < j ∧ listed.getD k false = false
          · obtain ⟨k, hk, hkl⟩ := hsm
            exact ihm k (by omega) (by omega) hkl
          · refine ⟨j, hjn, hl, fun k hk => ?_⟩
            cases hb : listed.getD k false with
            | true => rfl
            | false => exact absurd ⟨k, hk, hb⟩ hsm
      obtain ⟨j, hj, hl⟩ := hex
      obtain ⟨j, hj, hl, hk⟩ := hleast j j (Nat.le_refl _) hj hl
      have := isr listed j hs (by omega) hl hk
      rw [h] at this; cases this
    · obtain ⟨h1, h2⟩ := inb listed i hi
      have hin : i < n := by
        refine Nat.lt_of_le_of_ne h1 fun e => ?_
        subst e
        have := cntU_all i _ (last listed hi)
        omega
      refine wpOp_mono (fun a' w' h => ?_) (step listed a w i hJ hi hin)
      have hset : ∀ k, k ≠ i → (listed.setIfInBounds i true).getD k false = listed.getD k false := fun k hk => by
        rw [Array.getD_eq_getD_getElem?, Array.getElem?_setIfInBounds_ne (fun q => hk q.symm), ← Array.getD_eq_getD_getElem?]
      refine ih _ a' w' (by simp [hs]) (by rw [hset n (by omega)]; exact hn) ?_ h
      have := cntU_one n i (fun k => listed.getD k false) (fun k => (listed.setIfInBounds i true).getD k false) hin h2 (by simp [hs]; omega) hset
      omega
theorem wp_region_inv2 {id : Nat} {a : Act} {w : World} {l : List Oper} (n : Nat) (hm : P.follows .mixedOrders = true) (hn : l.toArray.size = n + 1) (hE : earlyB l.toArray n = true) (J : Array Bool → Act → World → Prop)
    (start : J (Array.replicate l.toArray.size false) a w.drew)
    (step : ∀ listed a w i, J listed a w → i ∈ Region.ready .any l.toArray listed → i < n → wpOp P l.toArray Q i (fun a' w' => J (listed.setIfInBounds i true) a' w') a w)
    (fin : ∀ listed a w, J listed a w → (∀ i, i < n → listed.getD i false = true) → wpOp P l.toArray Q n (fun a' w' => Q .normal a' w') a w) : (Code.region id l.toArray true).wp P Q a w := by
  refine wp_region_any hm ?_
  rw [hn] at start
  have H := any_of_inv2 hn hE step fin n (Array.replicate (n + 1) false) a w.drew (by simp) (by simp) (cntU_none n _ fun k hk => by simp [show k < n + 1 by omega]) start
  rw [hn]
  exact H
theorem wpOp_of_list {i : Nat} {o : Oper} {a : Act} {w : World} {K : Act → World → Prop} (hi : ops[i]? = some o) (hg : o.guard = none) (h : wpList P ops Q [o] a w) (hK : ∀ a w, Q .normal a w → K a w) : wpOp P ops Q i K a w := by
  unfold wpOp
  simp only [hi]
  rw [if_pos (by simp [Region.wanted, hg])]
  rw [wpList, if_pos (by simp [Region.wanted, hg])] at h
  exact h.imp (fun h => Oper.wp_mono (fun a' w' hh => hK _ _ hh) h) id
end
end Go.Proofs.Ytadaijepalhohaa

namespace Go.Proofs.Ytadaijepalhohaa
open Go.RowKit
theorem held_done_as {P : Program} {ops : Array Oper} {md : Region.Mode} {S : World → Prop} {Q : Exit → Act → World → Prop} {fuel : Nat} {listed : Array Bool} {a : Act} {w : World} {b : Act} (hr : Region.ready md ops listed = []) (hab : a = b) (h : Q .normal b w) : wpAnyH P md ops Q S fuel listed a w :=
  held_done hr (by rw [hab]; exact h)
end Go.Proofs.Ytadaijepalhohaa
