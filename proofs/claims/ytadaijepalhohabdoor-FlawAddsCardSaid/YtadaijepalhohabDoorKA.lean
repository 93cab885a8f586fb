/-
  The reference's search, plain: by rounds, the first chains of each length to each mode. The reference's Walk in memory; before. The reference's stuck and endless, plain: what its rounds find is what the program is to find. The reference's next. The reference's stuck. The reference's endless.
-/
import Derived.Test.YtadaijepalhohabDoorGH
import Derived.Test.YtadaijepalhohabDoorGD
import Derived.Test.YtadaijepalhohabDoorSX
import Derived.Test.YtadaijepalhohabDoorGP
import Derived.Test.YtadaijepalhohabDoorFE
import Derived.Test.YtadaijepalhohabDoorRO
import Derived.Laws.AppendOwnNone
import Derived.Test.YtadaijepalhohabDoorGT

namespace Go.Proofs.YtadaijepalhohabDoor
open Go.RowKit
open Pl

/-- The reference's before: at the first place where they differ. -/
def bfL : List Int → List Int → Bool
  | x :: xs, y :: ys => if x = y then bfL xs ys else decide (x < y)
  | _, _ => false
theorem bfL_fold (N : Nat) : ∀ (l r : List Nat) (a : Nat), l.length = r.length → (∀ k ∈ l, k < N) → (∀ k ∈ r, k < N) → bfL (ints l) (ints r) = decide (l.foldl (fun a k => a * N + k) a < r.foldl (fun a k => a * N + k) a)
  | [], [], a, _, _, _ => by simp [ints, bfL]
  | x :: l, y :: r, a, hl, h1, h2 => by
    have e : bfL (ints (x :: l)) (ints (y :: r)) = if (x : Int) = (y : Int) then bfL (ints l) (ints r) else decide ((x : Int) < (y : Int)) := rfl
    rw [e]
    have hl' : l.length = r.length := by simpa using hl
    rcases Nat.lt_trichotomy x y with q | q | q
    · rw [if_neg (by omega), decide_eq_true (show (x : Int) < (y : Int) by omega)]
      have := code_cons_lt N l r (a * N + x) (a * N + y) hl' (fun k h => h1 k (List.mem_cons_of_mem _ h)) (by omega)
      exact (decide_eq_true this).symm
    · subst q
      rw [if_pos rfl]
      exact bfL_fold N l r (a * N + x) hl' (fun k h => h1 k (List.mem_cons_of_mem _ h)) (fun k h => h2 k (List.mem_cons_of_mem _ h))
    · rw [if_neg (by omega), decide_eq_false (show ¬ (x : Int) < (y : Int) by omega)]
      have := code_cons_lt N r l (a * N + y) (a * N + x) hl'.symm (fun k h => h2 k (List.mem_cons_of_mem _ h)) (by omega)
      exact (decide_eq_false (Nat.lt_asymm this)).symm
theorem bfL_code (N : Nat) {l r : List Nat} (hl : l.length = r.length) (h1 : ∀ k ∈ l, k < N) (h2 : ∀ k ∈ r, k < N) : bfL (ints l) (ints r) = decide (code N l < code N r) := bfL_fold N l r 1 hl h1 h2

/-- The first chain of n rules to a mode. -/
def IsLev (E : Nat → Option (Nat × Nat)) (N s n t : Nat) (l : List Nat) : Prop := Chn E s l t ∧ l.length = n ∧ ∀ r, Chn E s r t → r.length = n → code N l ≤ code N r
def NoLev (E : Nat → Option (Nat × Nat)) (s n t : Nat) : Prop := ∀ r, Chn E s r t → r.length ≠ n
/-- What a Walk is to have. -/
def LevAll (E : Nat → Option (Nat × Nat)) (N s n : Nat) (W : Nat → Option (List Nat)) : Prop := ∀ t, (W t = none → NoLev E s n t) ∧ ∀ l, W t = some l → IsLev E N s n t l
def putO (D : Nat → Option (List Nat)) (t : Nat) (l : List Nat) : Nat → Option (List Nat) := fun d => if d = t then some l else D d
theorem putO_same (D : Nat → Option (List Nat)) (t : Nat) (l : List Nat) : putO D t l t = some l := if_pos rfl
theorem putO_other (D : Nat → Option (List Nat)) {t d : Nat} (l : List Nat) (h : d ≠ t) : putO D t l d = D d := if_neg h
/-- One rule looked at. -/
def nextStep (p : Rl → Bool) (rs : List Rl) (W D : Nat → Option (List Nat)) (i : Nat) : Nat → Option (List Nat) :=
  match edgeOf p rs i with
  | none => D
  | some (a, b) => match W a with
    | none => D
    | some l => match D b with
      | none => putO D b (l ++ [i])
      | some d => if bfL (ints (l ++ [i])) (ints d) = true then putO D b (l ++ [i]) else D
def nextF (p : Rl → Bool) (rs : List Rl) (W : Nat → Option (List Nat)) (k : Nat) : Nat → Option (List Nat) := (List.range k).foldl (nextStep p rs W) (fun _ => none)
theorem nextF_succ (p : Rl → Bool) (rs : List Rl) (W : Nat → Option (List Nat)) (k : Nat) : nextF p rs W (k + 1) = nextStep p rs W (nextF p rs W k) k := by
  unfold nextF; rw [List.range_succ, List.foldl_append]; rfl
/-- Some rules looked at. -/
def LevTo (E : Nat → Option (Nat × Nat)) (N s n k : Nat) (D : Nat → Option (List Nat)) : Prop := ∀ t,
  (D t = none → ∀ r j, Chn E s (r ++ [j]) t → r.length = n → k ≤ j) ∧
  ∀ d, D t = some d → Chn E s d t ∧ d.length = n + 1 ∧ ∀ r j, Chn E s (r ++ [j]) t → r.length = n → j < k → code N d ≤ code N (r ++ [j])
theorem chn_snoc_inv {E : Nat → Option (Nat × Nat)} {s t j : Nat} {r : List Nat} (c : Chn E s (r ++ [j]) t) : ∃ a, Chn E s r a ∧ E j = some (a, t) := by
  rcases c.inv with ⟨h, _⟩ | ⟨r', a, k, h, c', e⟩
  · exact absurd h (by simp)
  · obtain ⟨h1, h2⟩ := List.append_inj' h rfl
    subst h1
    have h3 : j = k := by simpa using h2
    subst h3
    exact ⟨a, c', e⟩
theorem nextStep_ok {p : Rl → Bool} {rs : List Rl} {s n k : Nat} {W D : Nat → Option (List Nat)} (hW : LevAll (edgeOf p rs) (rs.length + 2) s n W) (hD : LevTo (edgeOf p rs) (rs.length + 2) s n k D) : LevTo (edgeOf p rs) (rs.length + 2) s n (k + 1) (nextStep p rs W D k) := by
  have hno : (∀ a b, edgeOf p rs k = some (a, b) → W a = none) → LevTo (edgeOf p rs) (rs.length + 2) s n (k + 1) D := by
    intro h t
    have hne : ∀ r j, Chn (edgeOf p rs) s (r ++ [j]) t → r.length = n → j ≠ k := by
      intro r j c hl e
      subst e
      obtain ⟨a, c1, e1⟩ := chn_snoc_inv c
      exact (hW a).1 (h a t e1) r c1 hl
    refine ⟨fun h0 r j c hl => ?_, fun d hd => ⟨((hD t).2 d hd).1, ((hD t).2 d hd).2.1, fun r j c hl hj => ?_⟩⟩
    · have := (hD t).1 h0 r j c hl
      have := hne r j c hl
      omega
    · have := hne r j c hl
      exact ((hD t).2 d hd).2.2 r j c hl (by omega)
  unfold nextStep
  cases he : edgeOf p rs k with
  | none => exact hno fun a b h => by rw [he] at h; cases h
  | some ab =>
    obtain ⟨a, b⟩ := ab
    dsimp only
    cases hl : W a with
    | none =>
      exact hno fun a' b' h => by
        rw [he] at h
        obtain ⟨rfl, rfl⟩ : a = a' ∧ b = b' := by simpa using h
        exact hl
    | some l =>
      dsimp only
      obtain ⟨c1, l1, m1⟩ := (hW a).2 l hl
      have cn : Chn (edgeOf p rs) s (l ++ [k]) b := .snoc c1 he
      have ln : (l ++ [k]).length = n + 1 := by simp [l1]
      have mn : ∀ r t, Chn (edgeOf p rs) s (r ++ [k]) t → r.length = n → t = b ∧ code (rs.length + 2) (l ++ [k]) ≤ code (rs.length + 2) (r ++ [k]) := by
        intro r t c hr
        obtain ⟨a', c2, e2⟩ := chn_snoc_inv c
        rw [he] at e2
        obtain ⟨rfl, rfl⟩ : a = a' ∧ b = t := by simpa using e2
        refine ⟨rfl, ?_⟩
        rw [code_snoc, code_snoc]
        have := mul_le (N := rs.length + 2) (m1 r c2 hr)
        omega
      have hother : ∀ t, t ≠ b → ∀ r j, Chn (edgeOf p rs) s (r ++ [j]) t → r.length = n → j ≠ k := by
        intro t ht r j c hr e
        subst e
        exact ht (mn r t c hr).1
      have hput : (∀ r j, Chn (edgeOf p rs) s (r ++ [j]) b → r.length = n → j < k → code (rs.length + 2) (l ++ [k]) ≤ code (rs.length + 2) (r ++ [j])) → LevTo (edgeOf p rs) (rs.length + 2) s n (k + 1) (putO D b (l ++ [k])) := by
        intro hm t
        by_cases ht : t = b
        · subst ht
          rw [putO_same]
          refine ⟨fun h => (by cases h), fun d hd => ?_⟩
          obtain rfl : l ++ [k] = d := by simpa using hd
          refine ⟨cn, ln, fun r j c hr hj => ?_⟩
          by_cases hjk : j = k
          · subst hjk; exact (mn r t c hr).2
          · exact hm r j c hr (by omega)
        · rw [putO_other D _ ht]
          refine ⟨fun h0 r j c hr => ?_, fun d hd => ⟨((hD t).2 d hd).1, ((hD t).2 d hd).2.1, fun r j c hr hj => ?_⟩⟩
          · have := (hD t).1 h0 r j c hr
            have := hother t ht r j c hr
            omega
          · have := hother t ht r j c hr
            exact ((hD t).2 d hd).2.2 r j c hr (by omega)
      cases hd : D b with
      | none => exact hput fun r j c hr hj => by have := (hD b).1 hd r j c hr; omega
      | some d =>
        dsimp only
        obtain ⟨c3, l3, m3⟩ := (hD b).2 d hd
        have hb : bfL (ints (l ++ [k])) (ints d) = decide (code (rs.length + 2) (l ++ [k]) < code (rs.length + 2) d) := bfL_code _ (by rw [ln, l3]) (cn.lt edgeOf_lt2) (c3.lt edgeOf_lt2)
        split
        · rename_i hlt
          rw [hb] at hlt
          have hlt := of_decide_eq_true hlt
          exact hput fun r j c hr hj => Nat.le_trans (Nat.le_of_lt hlt) (m3 r j c hr hj)
        · rename_i hlt
          rw [hb] at hlt
          have hle : code (rs.length + 2) d ≤ code (rs.length + 2) (l ++ [k]) := by
            refine Nat.le_of_not_lt fun h => hlt (decide_eq_true h)
          intro t
          by_cases ht : t = b
          · subst ht
            refine ⟨fun h => (by rw [hd] at h; cases h), fun d' hd' => ?_⟩
            rw [hd] at hd'
            obtain rfl : d = d' := by simpa using hd'
            refine ⟨c3, l3, fun r j c hr hj => ?_⟩
            by_cases hjk : j = k
            · subst hjk; exact Nat.le_trans hle (mn r t c hr).2
            · exact m3 r j c hr (by omega)
          · refine ⟨fun h0 r j c hr => ?_, fun d hd => ⟨((hD t).2 d hd).1, ((hD t).2 d hd).2.1, fun r j c hr hj => ?_⟩⟩
            · have := (hD t).1 h0 r j c hr
              have := hother t ht r j c hr
              omega
            · have := hother t ht r j c hr
              exact ((hD t).2 d hd).2.2 r j c hr (by omega)
theorem nextF_to {p : Rl → Bool} {rs : List Rl} {s n : Nat} {W : Nat → Option (List Nat)} (hW : LevAll (edgeOf p rs) (rs.length + 2) s n W) : ∀ k, LevTo (edgeOf p rs) (rs.length + 2) s n k (nextF p rs W k)
  | 0 => fun t => ⟨fun _ _ _ _ _ => Nat.zero_le _, fun d hd => (by cases hd)⟩
  | k + 1 => by rw [nextF_succ]; exact nextStep_ok hW (nextF_to hW k)
theorem nextF_lev {p : Rl → Bool} {rs : List Rl} {s n : Nat} {W : Nat → Option (List Nat)} (hW : LevAll (edgeOf p rs) (rs.length + 2) s n W) : LevAll (edgeOf p rs) (rs.length + 2) s (n + 1) (nextF p rs W rs.length) := by
  intro t
  have h := nextF_to hW rs.length t
  have hlast : ∀ r, Chn (edgeOf p rs) s r t → r.length = n + 1 → ∃ q j, r = q ++ [j] ∧ q.length = n ∧ j < rs.length := by
    intro r c hr
    rcases c.inv with ⟨rfl, _⟩ | ⟨q, a, j, rfl, _, e⟩
    · simp at hr
    · exact ⟨q, j, rfl, by simpa using hr, edgeOf_lt _ _ _ e⟩
  refine ⟨fun h0 r c hr => ?_, fun l hl => ?_⟩
  · obtain ⟨q, j, rfl, hq, hj⟩ := hlast r c hr
    have := h.1 h0 q j c hq
    omega
  · obtain ⟨c1, l1, m1⟩ := h.2 l hl
    refine ⟨c1, l1, fun r c hr => ?_⟩
    obtain ⟨q, j, rfl, hq, hj⟩ := hlast r c hr
    exact m1 q j c hq hj
/-- The start. -/
def startO (s : Nat) : Nat → Option (List Nat) := fun t => if t = s then some [] else none
theorem startO_lev (E : Nat → Option (Nat × Nat)) (N s : Nat) : LevAll E N s 0 (startO s) := by
  intro t
  unfold startO
  by_cases h : t = s
  · subst h
    rw [if_pos rfl]
    refine ⟨fun h => (by cases h), fun l hl => ?_⟩
    obtain rfl : [] = l := by simpa using hl
    exact ⟨.nil, rfl, fun r _ hr => by rw [List.eq_nil_of_length_eq_zero hr]; exact Nat.le_refl _⟩
  · rw [if_neg h]
    refine ⟨fun _ r c hr => ?_, fun l hl => (by cases hl)⟩
    obtain rfl := List.eq_nil_of_length_eq_zero hr
    rcases c.inv with ⟨_, e⟩ | ⟨q, a, j, e, _⟩
    · exact h e
    · exact absurd e (by simp)
theorem nextF_none {p : Rl → Bool} {rs : List Rl} {W : Nat → Option (List Nat)} (hW : ∀ t, W t = none) : ∀ k t, nextF p rs W k t = none
  | 0, t => rfl
  | k + 1, t => by
    rw [nextF_succ]
    have ih := nextF_none (p := p) (rs := rs) hW k
    unfold nextStep
    cases he : edgeOf p rs k with
    | none => exact ih t
    | some ab =>
      obtain ⟨a, b⟩ := ab
      dsimp only
      rw [hW a]
      exact ih t
end Go.Proofs.YtadaijepalhohabDoor

namespace Go.Proofs.YtadaijepalhohabDoor
open Go.RowKit
open Pl

theorem info77 : (Tryd.prog.info? 77).map (·.size) = some 16 := by kernel_rfl
def chL (C : Nat → Option (List Nat)) (t : Nat) : List Nat := (C t).getD []
/-- What a Walk's cells are: which modes have a chain, and these chains. -/
def WkOf (P : Value → List Int → Prop) (vs : List Value) (C : Nat → Option (List Nat)) : Prop :=
  vs.length = 16 ∧ (∀ t, t < 8 → vs[t]? = some (.bool (C t).isSome)) ∧ ∀ t, t < 8 → ∃ a c, vs[8 + t]? = some (.slice a (chL C t).length c) ∧ P (.slice a (chL C t).length c) (ints (chL C t))
theorem WkOf.one {P : Value → List Int → Prop} {vs : List Value} {C : Nat → Option (List Nat)} (h : WkOf P vs C) : vs.toArray.all (·.oneCell') = true := by
  rw [List.all_toArray]
  refine List.all_eq_true.2 fun x hx => ?_
  obtain ⟨i, hi, rfl⟩ := List.getElem_of_mem hx
  by_cases h8 : i < 8
  · have := h.2.1 i h8
    rw [List.getElem?_eq_getElem hi] at this
    rw [Option.some.inj this]; rfl
  · obtain ⟨a, c, h1, _⟩ := h.2.2 (i - 8) (by have := h.1; omega)
    rw [show 8 + (i - 8) = i by omega, List.getElem?_eq_getElem hi] at h1
    rw [Option.some.inj h1]; rfl
theorem WkOf.mono {P Q : Value → List Int → Prop} {vs : List Value} {C : Nat → Option (List Nat)} (h : WkOf P vs C) (hPQ : ∀ v xs, P v xs → Q v xs) : WkOf Q vs C :=
  ⟨h.1, h.2.1, fun t ht => by obtain ⟨a, c, h1, h2⟩ := h.2.2 t ht; exact ⟨a, c, h1, hPQ _ _ h2⟩⟩
theorem WkOf.put {P : Value → List Int → Prop} {vs : List Value} {C : Nat → Option (List Nat)} {t : Nat} {l : List Nat} {a : Option Addr} {c : Nat} (h : WkOf P vs C) (ht : t < 8) (hp : P (.slice a l.length c) (ints l)) :
    WkOf P ((vs.set t (.bool true)).set (8 + t) (.slice a l.length c)) (putO C t l) := by
  refine ⟨by simp [h.1], fun k hk => ?_, fun k hk => ?_⟩
  · rw [List.getElem?_set_ne (by omega)]
    by_cases e : k = t
    · subst e
      rw [putO_same, List.getElem?_set_self (by rw [h.1]; omega)]; rfl
    · rw [putO_other C _ e, List.getElem?_set_ne (fun h => e h.symm)]
      exact h.2.1 k hk
  · by_cases e : k = t
    · subst e
      refine ⟨a, c, ?_, ?_⟩
      · rw [List.getElem?_set_self (by rw [List.length_set, h.1]; omega), chL, putO_same]; rfl
      · rw [chL, putO_same]; exact hp
    · obtain ⟨a', c', h1, h2⟩ := h.2.2 k hk
      have e2 : chL (putO C t l) k = chL C k := by unfold chL; rw [putO_other C _ e]
      rw [e2]
      exact ⟨a', c', by rw [List.getElem?_set_ne (by omega), List.getElem?_set_ne (by omega)]; exact h1, h2⟩
def z16 : List Value := [.bool false, .bool false, .bool false, .bool false, .bool false, .bool false, .bool false, .bool false, .slice none 0 0, .slice none 0 0, .slice none 0 0, .slice none 0 0, .slice none 0 0, .slice none 0 0, .slice none 0 0, .slice none 0 0]
theorem below8 {t : Nat} (h : t < 8) : t = 0 ∨ t = 1 ∨ t = 2 ∨ t = 3 ∨ t = 4 ∨ t = 5 ∨ t = 6 ∨ t = 7 := by omega
theorem WkOf.zero {P : Value → List Int → Prop} (h : P (.slice none 0 0) []) : WkOf P z16 (fun _ => none) := by
  refine ⟨rfl, fun t ht => ?_, fun t ht => ⟨none, 0, ?_, h⟩⟩
  · rcases below8 ht with rfl | rfl | rfl | rfl | rfl | rfl | rfl | rfl <;> rfl
  · rcases below8 ht with rfl | rfl | rfl | rfl | rfl | rfl | rfl | rfl <;> rfl
/-- The block of a Walk. -/
def WkBlk (W : World) (b : Nat) (vs : List Value) : Prop := W.heap[b]? = some (.cells vs.toArray 77 (0, 0))
theorem WkBlk.new (W : World) (vs : List Value) : WkBlk (W.alloc (.cells vs.toArray 77)) W.heap.size vs := heap_alloc_new W _
theorem WkBlk.below {W W' : World} {b : Nat} {vs : List Value} (h : WkBlk W b vs) (hb : Below W.heap.size W W') : WkBlk W' b vs := by
  have hlt := lt_of_heap h
  unfold WkBlk at h ⊢; rw [hb.block b hlt]; exact h
theorem WkBlk.cell {W : World} {b : Nat} {vs : List Value} (h : WkBlk W b vs) (i : Nat) : W.cell? ⟨b, i, none⟩ = vs[i]? := by
  unfold WkBlk at h
  simp [World.cell?, h]
theorem WkBlk.free {W : World} {b : Nat} {vs : List Value} (h : WkBlk W b vs) (i : Nat) : W.frozen? ⟨b, i, none⟩ = false := by
  unfold WkBlk at h
  simp [World.frozen?, h]
theorem WkBlk.put {W : World} {b : Nat} {vs : List Value} (h : WkBlk W b vs) (i : Nat) (v : Value) : WkBlk (W.setCell ⟨b, i, none⟩ v) b (vs.set i v) := by
  unfold WkBlk at h ⊢
  rw [heap_setCell_same W b i _ _ _ h]
  simp
theorem WkBlk.setCell {W : World} {b b' o : Nat} {vs : List Value} {u : Value} (h : WkBlk W b vs) (hne : b' ≠ b) : WkBlk (W.setCell ⟨b', o, none⟩ u) b vs := by
  unfold WkBlk at h ⊢
  rw [heap_setCell_other W _ b _ (fun e => hne e.symm)]; exact h
theorem WkBlk.keptBy {W W' : World} {b : Nat} {vs : List Value} {row : Option Nat} (h : WkBlk W b vs) (hg : W.grownBy W' row) (hne : row ≠ some b) : WkBlk W' b vs := by
  have hlt := lt_of_heap h
  unfold WkBlk at h ⊢
  rw [hg.block _ hlt (fun e => hne e.symm)]; exact h
theorem wpList_store_wk {ops : Array Oper} {rest : List Oper} {o : Oper} {a : Act} {W : World} {Q : Exit → Act → World → Prop} (hgd : o.guard = none) (x y : Operand) (ho : o.op = .store 77 x y)
    (b : Nat) (old vs : List Value) (hb : WkBlk W b old) (hx : a.eval x = .pointer (some ⟨b, 0, none⟩)) (hy : a.eval y = .agg vs.toArray) (h16 : vs.length = 16) (ho16 : old.length = 16) (h1 : vs.toArray.all (·.oneCell') = true)
    (hK : ∀ W', WkBlk W' b vs → W.grownBy W' (some b) → W'.heap.size = W.heap.size → wpList Tryd.prog ops Q rest (a.put o.dst undef) W') : wpList Tryd.prog ops Q (o :: rest) a W := by
  refine wpList_store_row hgd 77 x y ho b _ hx hy 77 _ hb (by rw [info77]; simp [h16]) (by simp [h16, ho16]) h1 (hK _ ?_ ?_ ?_)
  · unfold WkBlk at hb ⊢
    exact setRow_heap W b _ _ 77 _ hb
  · refine ⟨rfl, rfl, rfl, by simp, fun i hi hne => ?_⟩
    simp only [World.setRow, Array.getElem?_modify]
    rw [if_neg (fun e => hne (by rw [e]))]
  · simp
theorem wpList_load_wk {ops : Array Oper} {rest : List Oper} {o : Oper} {a : Act} {W : World} {Q : Exit → Act → World → Prop} (hgd : o.guard = none) (x : Operand) (ho : o.op = .load 77 x)
    (b : Nat) (vs : List Value) (hb : WkBlk W b vs) (hx : a.eval x = .pointer (some ⟨b, 0, none⟩)) (h16 : vs.length = 16)
    (hK : wpList Tryd.prog ops Q rest (a.put o.dst (.agg vs.toArray)) W) : wpList Tryd.prog ops Q (o :: rest) a W :=
  wpList_load_row hgd 77 x ho b hx 77 vs.toArray (0, 0) _ hb Tryd.underlying77 rfl (by rw [info77]; simp [h16]) hK
theorem ret_wk {fn : Func} {p : Tmp} (h : fn.results = #[.cell p 77]) {R : Ending → World → Prop} {a : Act} {W : World} {b : Nat} {vs : List Value}
    (hp : a.tmps.getD p undef = .pointer (some ⟨b, 0, none⟩)) (hd : a.defers = []) (hb : WkBlk W b vs) (h16 : vs.length = 16)
    (hR : R (.returned (.agg vs.toArray)) W) : bodyPost Tryd.prog fn R .ret a W := by
  refine bodyPost_ret ?_ hd hR
  have hp' : a.tmps[p]?.getD undef = .pointer (some ⟨b, 0, none⟩) := by simpa using hp
  have hl := run_loadVar_row (P := Tryd.prog) W b 77 77 vs.toArray (0, 0) _ hb Tryd.underlying77 rfl (by rw [info77]; simp [h16])
  simp [results, h, hp', asAddr, hl]
theorem bfL_drop (xs ys : List Int) (i : Nat) (h1 : i < xs.length) (h2 : i < ys.length) : bfL (xs.drop i) (ys.drop i) = if xs[i] = ys[i] then bfL (xs.drop (i + 1)) (ys.drop (i + 1)) else decide (xs[i] < ys[i]) := by
  rw [List.drop_eq_getElem_cons h1, List.drop_eq_getElem_cons h2]; rfl
theorem bfL_end (xs ys : List Int) (i : Nat) (h : xs.length ≤ i ∨ ys.length ≤ i) : bfL (xs.drop i) (ys.drop i) = false := by
  rcases h with h | h
  · rw [List.drop_eq_nil_of_le h]; cases ys.drop i <;> rfl
  · rw [List.drop_eq_nil_of_le h]; cases xs.drop i <;> rfl
set_option maxHeartbeats 1000000 in
set_option maxRecDepth 100000 in
theorem RBefore_any (xs ys : List Int) (a b : Option Addr) (c d : Nat) (w : World) (hx : NumsAt w w.heap.size (.slice a xs.length c) xs) (hy : NumsAt w w.heap.size (.slice b ys.length d) ys) (hl : xs.length ≤ 1000) (hl2 : ys.length ≤ 1000) :
    Calls Tryd.prog 53 #[.slice a xs.length c, .slice b ys.length d] w fun e w' => e = .returned (.bool (bfL xs ys)) ∧ Below w.heap.size w w' := by
  obtain ⟨F, hF⟩ : ∃ F, F = bfL xs ys := ⟨_, rfl⟩
  rw [← hF]
  have HX := Lib.hid hx
  have HY := Lib.hid hy
  have HF := Lib.hid hF
  clear hx hy hF
  go_enter Tryd.func53, Tryd.ntmps53
  go_wp2_with fail
  go_loopw [5] (fun iv wr => ∃ i : Nat, iv = .int .i64 (i : Nat) ∧ i ≤ xs.length ∧ bfL xs ys = bfL (xs.drop i) (ys.drop i) ∧ Below w.heap.size w wr) (fun iv _ => xs.length - (intOf iv).toNat)
  case atStart => exact ⟨0, rfl, Nat.zero_le _, rfl, Below.refl _ _⟩
  case round =>
    obtain ⟨i, rfl, hi, ht, hb⟩ := hrel
    have HB := Lib.hid hb
    have HT := Lib.hid ht
    clear hb ht
    have i0 : (0 : Int) ≤ (i : Int) := by omega
    by_cases h1 : (i : Int) < (xs.length : Int)
    · by_cases h1y : (i : Int) < (ys.length : Int)
      · have hix : i < xs.length := by omega
        have hiy : i < ys.length := by omega
        obtain ⟨a', c', hv, hP⟩ := HX.out.on HB.out
        obtain ⟨rfl, -⟩ : a = a' ∧ c = c' := by simpa using hv
        obtain ⟨b1, o1, ha, -, hc⟩ := hP (by omega)
        subst ha
        obtain ⟨a'', c'', hv', hP'⟩ := HY.out.on HB.out
        obtain ⟨rfl, -⟩ : b = a'' ∧ d = c'' := by simpa using hv'
        obtain ⟨b2, o2, ha', -, hc'⟩ := hP' (by omega)
        subst ha'
        have p1 := hc i hix
        have p2 := hc' i hiy
        have HD := bfL_drop xs ys i hix hiy
        obtain ⟨x, hxe⟩ : ∃ x, x = xs[i] := ⟨_, rfl⟩
        obtain ⟨y, hye⟩ : ∃ y, y = ys[i] := ⟨_, rfl⟩
        rw [← hxe] at p1
        rw [← hye] at p2
        rw [← hxe, ← hye] at HD
        by_cases he : x = y
        · have HN := Lib.hid (show bfL xs ys = bfL (xs.drop (i + 1)) (ys.drop (i + 1)) by rw [HT.out, HD, if_pos he])
          have hb1 : (x != y) = false := by simpa using he
          clear hc hc' hP hP' hv hv' hxe hye he HD
          go_wp2_with fail
          go_region
          go_wp2_with fail
          go_roundw
          case rel => exact ⟨i + 1, by go_num, by omega, HN.out, HB.out.drew⟩
          case measure => simp [intOf]; omega
        · have HN := Lib.hid (show decide (x < y) = F by rw [HF.out, HT.out, HD, if_neg he])
          have hb1 : (x != y) = true := by simpa using he
          clear hc hc' hP hP' hv hv' hxe hye he HD
          go_wp2_with fail
          go_region
          go_wp2_with fail
          go_region
          go_wp2_with fail
          go_ret
          exact ⟨by rw [← HN.out]; rfl, HB.out.drew.drew⟩
      · have HN := Lib.hid (show F = false by rw [HF.out, HT.out, bfL_end xs ys i (Or.inr (by omega))])
        go_wp2_with fail
        go_ret
        exact ⟨by rw [HN.out]; rfl, HB.out⟩
    · have HN := Lib.hid (show F = false by rw [HF.out, HT.out, bfL_end xs ys i (Or.inl (by omega))])
      go_wp2_with fail
      go_ret
      exact ⟨by rw [HN.out]; rfl, HB.out⟩
end Go.Proofs.YtadaijepalhohabDoor

namespace Go.Proofs.YtadaijepalhohabDoor
open Go.RowKit
open Pl

/-- One mode looked at for the best chain of a round. -/
def bestStep (W : Nat → Option (List Nat)) (X : Nat → Bool) (cur : List Nat) (t : Nat) : List Nat := match W t with
  | none => cur
  | some l => if X t = true ∧ (cur = [] ∨ bfL (ints l) (ints cur) = true) then l else cur
def bestF (W : Nat → Option (List Nat)) (X : Nat → Bool) (k : Nat) : List Nat := (List.range k).foldl (bestStep W X) []
theorem bestF_succ (W : Nat → Option (List Nat)) (X : Nat → Bool) (k : Nat) : bestF W X (k + 1) = bestStep W X (bestF W X k) k := by
  unfold bestF; rw [List.range_succ, List.foldl_append]; rfl
theorem bestF_spec {p : Rl → Bool} {rs : List Rl} {s n : Nat} {W : Nat → Option (List Nat)} (X : Nat → Bool) (hW : LevAll (edgeOf p rs) (rs.length + 2) s (n + 1) W) : ∀ k,
    (bestF W X k ≠ [] → ∃ t, t < k ∧ X t = true ∧ W t = some (bestF W X k)) ∧ (∀ t l, t < k → X t = true → W t = some l → bestF W X k ≠ [] ∧ code (rs.length + 2) (bestF W X k) ≤ code (rs.length + 2) l)
  | 0 => ⟨fun h => absurd rfl h, fun t l h => absurd h (Nat.not_lt_zero _)⟩
  | k + 1 => by
    obtain ⟨h1, h2⟩ := bestF_spec X hW k
    rw [bestF_succ]
    have hkeep : (∀ l, W k = some l → X k = true → bestF W X k ≠ [] ∧ code (rs.length + 2) (bestF W X k) ≤ code (rs.length + 2) l) →
        (bestF W X k ≠ [] → ∃ t, t < k + 1 ∧ X t = true ∧ W t = some (bestF W X k)) ∧ (∀ t l, t < k + 1 → X t = true → W t = some l → bestF W X k ≠ [] ∧ code (rs.length + 2) (bestF W X k) ≤ code (rs.length + 2) l) := by
      intro h
      refine ⟨fun hn => ?_, fun t l ht hx hw => ?_⟩
      · obtain ⟨t, h3, h4, h5⟩ := h1 hn
        exact ⟨t, by omega, h4, h5⟩
      · by_cases htk : t = k
        · subst htk; exact h l hw hx
        · exact h2 t l (by omega) hx hw
    unfold bestStep
    cases hw : W k with
    | none => exact hkeep fun l h => by rw [hw] at h; cases h
    | some l =>
      dsimp only
      obtain ⟨c1, l1, m1⟩ := (hW k).2 l hw
      have hne : l ≠ [] := fun e => by rw [e] at l1; simp at l1
      have hcmp : bestF W X k ≠ [] → bfL (ints l) (ints (bestF W X k)) = decide (code (rs.length + 2) l < code (rs.length + 2) (bestF W X k)) := by
        intro hn
        obtain ⟨t, _, _, h5⟩ := h1 hn
        obtain ⟨c2, l2, _⟩ := (hW t).2 _ h5
        exact bfL_code _ (by rw [l1, l2]) (c1.lt edgeOf_lt2) (c2.lt edgeOf_lt2)
      by_cases hc : X k = true ∧ (bestF W X k = [] ∨ bfL (ints l) (ints (bestF W X k)) = true)
      · rw [if_pos hc]
        refine ⟨fun _ => ⟨k, by omega, hc.1, hw⟩, fun t r ht hx hr => ⟨hne, ?_⟩⟩
        by_cases htk : t = k
        · subst htk
          rw [hw] at hr
          obtain rfl : l = r := by simpa using hr
          exact Nat.le_refl _
        · obtain ⟨h3, h4⟩ := h2 t r (by omega) hx hr
          rcases hc.2 with h5 | h5
          · exact absurd h5 h3
          · rw [hcmp h3] at h5
            have := of_decide_eq_true h5
            omega
      · rw [if_neg hc]
        refine hkeep fun r hr hx => ?_
        rw [hw] at hr
        obtain rfl : l = r := by simpa using hr
        have hn : bestF W X k ≠ [] := fun e => hc ⟨hx, Or.inl e⟩
        refine ⟨hn, Nat.le_of_not_lt fun h => hc ⟨hx, Or.inr ?_⟩⟩
        rw [hcmp hn]
        exact decide_eq_true h
section
variable {p : Rl → Bool} {rs : List Rl} {s n m : Nat} {W : Nat → Option (List Nat)} {X : Nat → Bool} {X' : Nat → Prop}
theorem stuck_hit (hW : LevAll (edgeOf p rs) (rs.length + 2) s (n + 1) W) (hno : ∀ l t, l ≠ [] → X' t → Chn (edgeOf p rs) s l t → n < l.length) (hX : ∀ t, t < m → (X t = true ↔ X' t)) (hC : ∀ l t, Chn (edgeOf p rs) s l t → t < m) (hb : bestF W X m ≠ []) : fC p rs s X' = bestF W X m := by
  obtain ⟨h1, h2⟩ := bestF_spec X hW m
  obtain ⟨t, ht, hx, hw⟩ := h1 hb
  obtain ⟨c1, l1, m1⟩ := (hW t).2 _ hw
  refine fC_first ⟨hb, ⟨t, (hX t ht).1 hx, c1⟩, fun l' t' hn hx' c => ?_⟩
  have hl := hno l' t' hn hx' c
  have ht' := hC l' t' c
  by_cases he : l'.length = n + 1
  · cases hw' : W t' with
    | none => exact absurd he ((hW t').1 hw' l' c)
    | some r => exact Nat.le_trans (h2 t' r ht' ((hX t' ht').2 hx') hw').2 (((hW t').2 r hw').2.2 l' c he)
  · exact Nat.le_of_lt (code_len _ (by omega) (c1.lt edgeOf_lt2) (by omega))
theorem stuck_miss (hW : LevAll (edgeOf p rs) (rs.length + 2) s (n + 1) W) (hno : ∀ l t, l ≠ [] → X' t → Chn (edgeOf p rs) s l t → n < l.length) (hX : ∀ t, t < m → (X t = true ↔ X' t)) (hC : ∀ l t, Chn (edgeOf p rs) s l t → t < m) (hb : bestF W X m = []) :
    ∀ l t, l ≠ [] → X' t → Chn (edgeOf p rs) s l t → n + 1 < l.length := by
  intro l t hn hx c
  have h1 := hno l t hn hx c
  have ht := hC l t c
  refine Nat.lt_of_le_of_ne h1 fun he => ?_
  cases hw : W t with
  | none => exact (hW t).1 hw l c he.symm
  | some r => exact ((bestF_spec X hW m).2 t r ht ((hX t ht).2 hx) hw).1 hb
theorem stuck_none (hr : ∀ x ∈ rs, InM m x) (hs : s < m) (hno : ∀ l t, l ≠ [] → X' t → Chn (edgeOf p rs) s l t → m < l.length) : fC p rs s X' = [] := by
  refine Classical.byContradiction fun h => ?_
  obtain ⟨h1, ⟨t, h2, h3⟩, _⟩ := fC_ne h
  have := hno _ t h1 h2 h3
  have := fC_short (p := p) (X := X') hr hs
  omega
end
/-- The test of endless: shorter, or as long and before. -/
def shB (l cur : List Nat) : Bool := decide (l.length < cur.length) || (decide (l.length = cur.length) && bfL (ints l) (ints cur))
theorem shB_code {N : Nat} (hN : 2 ≤ N) {l r : List Nat} (h1 : ∀ k ∈ l, k < N) (h2 : ∀ k ∈ r, k < N) : shB l r = decide (code N l < code N r) := by
  unfold shB
  rcases Nat.lt_trichotomy l.length r.length with q | q | q
  · rw [decide_eq_true q, decide_eq_true (code_len N hN h1 q)]; rfl
  · rw [decide_eq_false (show ¬ l.length < r.length by omega), decide_eq_true q, bfL_code N q h1 h2]; simp
  · rw [decide_eq_false (show ¬ l.length < r.length by omega), decide_eq_false (show ¬ l.length = r.length by omega), decide_eq_false (Nat.lt_asymm (code_len N hN h2 q))]; rfl
/-- What endless holds while it looks at the mode i, behind n rounds. -/
def EndInv (u : Nat) (rs : List Rl) (i n : Nat) (cur : List Nat) : Prop :=
  (u.testBit i = false ∧ cur = endC u rs i) ∨ (u.testBit i = true ∧ (((∀ l, l ≠ [] → Chn (edgeOf noIn rs) i l i → n < l.length) ∧ cur = endC u rs i) ∨
    (cur = endC u rs (i + 1) ∧ cur ≠ [] ∧ ∀ l, l ≠ [] → Chn (edgeOf noIn rs) i l i → code (rs.length + 2) cur ≤ code (rs.length + 2) l)))
theorem EndInv.start (u : Nat) (rs : List Rl) (i : Nat) : EndInv u rs i 0 (endC u rs i) := by
  cases h : u.testBit i with
  | false => exact Or.inl ⟨h, rfl⟩
  | true => exact Or.inr ⟨h, Or.inl ⟨fun l hn _ => (List.length_pos_iff.2 hn), rfl⟩⟩
/-- One round. -/
def endOne (W : Nat → Option (List Nat)) (i : Nat) (cur : List Nat) : List Nat := match W i with
  | none => cur
  | some l => if cur = [] ∨ shB l cur = true then l else cur
theorem EndInv.step {u : Nat} {rs : List Rl} {i n : Nat} {cur : List Nat} {W : Nat → Option (List Nat)} (h : EndInv u rs i n cur) (h0 : u.testBit i = false → ∀ t, W t = none) (h1 : u.testBit i = true → LevAll (edgeOf noIn rs) (rs.length + 2) i (n + 1) W) : EndInv u rs i (n + 1) (endOne W i cur) := by
  rcases h with ⟨hu, rfl⟩ | ⟨hu, h⟩
  · refine Or.inl ⟨hu, ?_⟩
    unfold endOne
    rw [h0 hu i]
  · refine Or.inr ⟨hu, ?_⟩
    have hW := h1 hu
    unfold endOne
    cases hw : W i with
    | none =>
      dsimp only
      rcases h with ⟨h2, h3⟩ | h
      · exact Or.inl ⟨fun l hn c => Nat.lt_of_le_of_ne (h2 l hn c) fun e => (hW i).1 hw l c e.symm, h3⟩
      · exact Or.inr h
    | some l =>
      dsimp only
      obtain ⟨c1, l1, m1⟩ := (hW i).2 l hw
      have hne : l ≠ [] := fun e => by rw [e] at l1; simp at l1
      rcases h with ⟨h2, rfl⟩ | ⟨h2, h3, h4⟩
      · have hmin : ∀ r, r ≠ [] → Chn (edgeOf noIn rs) i r i → code (rs.length + 2) l ≤ code (rs.length + 2) r := by
          intro r hn c
          have := h2 r hn c
          by_cases he : r.length = n + 1
          · exact m1 r c he
          · exact Nat.le_of_lt (code_len _ (by omega) (c1.lt edgeOf_lt2) (by omega))
        have hrnd : rndC rs i = l := fC_first ⟨hne, ⟨i, (pow_bit i i).2 rfl, c1⟩, fun l' t hn hx c => by
          obtain rfl := (pow_bit i t).1 hx
          exact hmin l' hn c⟩
        have hsh := shB_code (N := rs.length + 2) (by omega) (c1.lt edgeOf_lt2) (endC_lt u rs i)
        have hbe : befB (ints l) (ints (endC u rs i)) = decide (code (rs.length + 2) l < code (rs.length + 2) (endC u rs i)) := befB_code (by omega) (c1.lt edgeOf_lt2) (endC_lt u rs i)
        right
        rw [endC_succ, endStep, if_pos hu, hrnd, hsh, hbe]
        by_cases hc : endC u rs i = [] ∨ decide (code (rs.length + 2) l < code (rs.length + 2) (endC u rs i)) = true
        · rw [if_pos hc, if_pos ⟨hne, hc⟩]
          exact ⟨rfl, hne, hmin⟩
        · rw [if_neg hc, if_neg (fun h => hc h.2)]
          refine ⟨rfl, fun e => hc (Or.inl e), fun r hn c => ?_⟩
          refine Nat.le_trans (Nat.le_of_not_lt fun h => hc (Or.inr (decide_eq_true h))) (hmin r hn c)
      · have hcl : ∀ x ∈ cur, x < rs.length + 2 := by rw [h2]; exact endC_lt u rs (i + 1)
        have hsh := shB_code (N := rs.length + 2) (by omega) (c1.lt edgeOf_lt2) hcl
        have hle := h4 l hne c1
        rw [if_neg (fun h => by
          rcases h with h | h
          · exact h3 h
          · rw [hsh] at h
            have := of_decide_eq_true h
            omega)]
        exact Or.inr ⟨h2, h3, h4⟩
theorem EndInv.done {u : Nat} {rs : List Rl} {i m : Nat} {cur : List Nat} (hr : ∀ x ∈ rs, InM m x) (hi : i < m) (h : EndInv u rs i m cur) : cur = endC u rs (i + 1) := by
  rcases h with ⟨hu, rfl⟩ | ⟨hu, ⟨h2, rfl⟩ | ⟨h2, _⟩⟩
  · rw [endC_succ, endStep, if_neg (by rw [hu]; simp)]
  · have hn : rndC rs i = [] := stuck_none hr hi fun l t hn hx c => by
      obtain rfl := (pow_bit i t).1 hx
      exact h2 l hn c
    rw [endC_succ, endStep, if_pos hu, hn, if_neg (fun h => h.1 rfl)]
  · exact h2
end Go.Proofs.YtadaijepalhohabDoor

namespace Go.Proofs.YtadaijepalhohabDoor
open Go.RowKit
open Pl

/-- What a Walk has is short. -/
def WkLe (C : Nat → Option (List Nat)) (n : Nat) : Prop := ∀ t, (chL C t).length ≤ n
theorem nextStep_le {p : Rl → Bool} {rs : List Rl} {C D : Nat → Option (List Nat)} {n i : Nat} (hC : WkLe C n) (hD : WkLe D (n + 1)) : WkLe (nextStep p rs C D i) (n + 1) := by
  have hput : ∀ a b l, C a = some l → WkLe (putO D b (l ++ [i])) (n + 1) := fun a b l hl t => by
    have := hC a
    unfold chL at this ⊢
    rw [hl] at this
    by_cases e : t = b
    · subst e; rw [putO_same]; simp at this ⊢; omega
    · rw [putO_other D _ e]; exact hD t
  unfold nextStep
  split
  · exact hD
  · split
    · exact hD
    · rename_i l hl
      split
      · exact hput _ _ l hl
      · split
        · exact hput _ _ l hl
        · exact hD
theorem nextF_le {p : Rl → Bool} {rs : List Rl} {C : Nat → Option (List Nat)} {n : Nat} (hC : WkLe C n) : ∀ k, WkLe (nextF p rs C k) (n + 1)
  | 0 => fun t => Nat.zero_le _
  | k + 1 => by rw [nextF_succ]; exact nextStep_le hC (nextF_le hC k)
/-- What next's loop keeps. -/
def NxRel (w : World) (m acc : Nat) (a : Option Addr) (n c : Nat) (vs us zs : List Value) (D : Nat → Option (List Nat)) (W : World) : Prop :=
  SchBlock W w.heap.size (.int .i64 (m : Nat)) (.int .u8 (acc : Nat)) (.slice a n c) ∧ WkBlk W (w.heap.size + 1) vs ∧ WkBlk W (w.heap.size + 2) zs ∧ WkBlk W (w.heap.size + 3) us ∧ WkOf (NumsOwn W (w.heap.size + 4)) us D ∧ Below w.heap.size w W
theorem NxRel.below {w W W' : World} {m acc : Nat} {a : Option Addr} {n c : Nat} {vs us zs : List Value} {D : Nat → Option (List Nat)} (h : NxRel w m acc a n c vs us zs D W) (hb : Below W.heap.size W W') : NxRel w m acc a n c vs us zs D W' :=
  ⟨h.1.below hb, h.2.1.below hb, h.2.2.1.below hb, h.2.2.2.1.below hb, h.2.2.2.2.1.mono fun _ _ hx => hx.below hb, h.2.2.2.2.2.trans (hb.mono h.2.2.2.2.2.size)⟩
/-- Memory that is grown by one list of its own, which is none of those. -/
theorem NumsOwn.keptBy {W W' : World} {base b : Nat} {v : Value} {xs : List Int} (h : NumsOwn W base v xs) (hg : W.grownBy W' (some b)) (hne : ∀ k, v.ownBlock = some k → k ≠ b) : NumsOwn W' base v xs := by
  refine ⟨h.1, ?_⟩
  rcases h.2 with h0 | ⟨g, cap, cur, rfl, hg2, hh, h1, h2, h3, h4⟩
  · exact Or.inl h0
  · exact Or.inr ⟨g, cap, cur, rfl, hg2, by rw [hg.block g (lt_of_heap hh) (fun e => hne g rfl (Option.some.inj e))]; exact hh, h1, h2, h3, h4⟩
theorem NumsOwn.empty (W : World) : NumsOwn (W.alloc (.cells #[] 3)) W.heap.size (.slice (some ⟨W.heap.size, 0, none⟩) 0 0) [] :=
  ⟨rfl, Or.inr ⟨W.heap.size, 0, #[], rfl, Nat.le_refl _, heap_alloc_new W _, Nat.le_refl _, Nat.zero_le _, rfl, rfl⟩⟩
theorem wpList_append_nums {ops : Array Oper} {rest : List Oper} {o : Oper} {a : Act} {W : World} {Q : Exit → Act → World → Prop} (hgd : o.guard = none) (s x : Operand)
    (ho : o.op = .call { callee := .builtin .append, args := #[s, x], argTypes := #[35, 35] }) (base : Nat) (v : Value) (xs : List Int) (hs : a.eval s = v) (hown : NumsOwn W base v xs) (b2 : Nat) (v2 : Value) (ys : List Int) (hx : a.eval x = v2) (ho2 : NumsOwn W b2 v2 ys)
    (hlen : xs.length + ys.length ≤ 10000) (hbase : base ≤ W.heap.size) (h : ∀ v' w', NumsOwn w' base v' (xs ++ ys) → W.grownBy w' v.ownBlock → wpList Tryd.prog ops Q rest (a.put o.dst v') w') : wpList Tryd.prog ops Q (o :: rest) a W := by
  obtain ⟨i0, hi0, hz0, hz1, hz2⟩ := infoInt_parts
  rcases ho2.2 with ⟨rfl, h0⟩ | ⟨g, cap, cur, rfl, hg, hh, h1, h2, h3, h4⟩
  · obtain rfl : ys = [] := List.eq_nil_of_length_eq_zero h0
    refine wpList_append_own_none hgd s x 35 ho base 3 i0 1 Tryd.underlying35 hi0 v xs.length (intC xs) hs hown hx (h v W ?_ ⟨rfl, rfl, rfl, Nat.le_refl _, fun _ _ _ => rfl⟩)
    rw [List.append_nil]; exact hown
  · refine wpList_append_own W hgd s x 35 ho base 3 i0 (.int .i64 0) 1 8 Tryd.underlying35 hi0 hz0 hz1 hz2 rfl (by decide) v xs.length (intC xs) hs hown ⟨g, 0, none⟩ ys.length cap (intC ys) hx (by simp [intC]) (fun j u hu => ?_) (fun u hu => ?_) (by unfold maxLen; omega) (by omega) hbase
      fun v' w' ho' hg' _ => h v' w' ?_ hg'
    · have e : (⟨g, 0, none⟩ : Addr).add j = ⟨g, j, none⟩ := by unfold Addr.add; split <;> simp_all
      rw [e]
      have hj : j < ys.length := by
        have := (List.getElem?_eq_some_iff.1 hu).1
        simpa [intC] using this
      rw [← h4, Nat.mul_one, List.getElem?_take, if_pos hj] at hu
      simp only [World.cell?, hh]
      simpa using hu
    · obtain ⟨y, _, rfl⟩ := List.mem_map.1 hu; rfl
    · unfold NumsOwn
      rw [show intC (xs ++ ys) = intC xs ++ intC ys by simp [intC], List.length_append]; exact ho'
theorem NumsOwn.one (W : World) (k : Int) : NumsOwn (W.alloc (.cells #[.int .i64 k] 3)) W.heap.size (.slice (some ⟨W.heap.size, 0, none⟩) 1 1) [k] :=
  ⟨rfl, Or.inr ⟨W.heap.size, 1, #[.int .i64 k], rfl, Nat.le_refl _, heap_alloc_new W _, Nat.le_refl _, by decide, rfl, rfl⟩⟩
theorem NxRel.put {w W : World} {m acc : Nat} {a : Option Addr} {n c : Nat} {vs us zs : List Value} {D : Nat → Option (List Nat)} (h : NxRel w m acc a n c vs us zs D W) {t : Nat} (ht : t < 8) {l : List Nat} {va : Option Addr} {vc : Nat} (ho : NumsOwn W (w.heap.size + 4) (.slice va l.length vc) (ints l)) :
    NxRel w m acc a n c vs ((us.set t (.bool true)).set (8 + t) (.slice va l.length vc)) zs (putO D t l) ((W.setCell ⟨w.heap.size + 3, t, none⟩ (.bool true)).setCell ⟨w.heap.size + 3, 8 + t, none⟩ (.slice va l.length vc)) := by
  obtain ⟨h1, h2, h3, h4, h5, h6⟩ := h
  have hk : ∀ k, k ≠ w.heap.size + 3 → ((W.setCell ⟨w.heap.size + 3, t, none⟩ (.bool true)).setCell ⟨w.heap.size + 3, 8 + t, none⟩ (.slice va l.length vc)).heap[k]? = W.heap[k]? := fun k hk => by
    rw [heap_setCell_other _ _ k _ hk, heap_setCell_other _ _ k _ hk]
  have hn : ∀ v xs, NumsOwn W (w.heap.size + 4) v xs → NumsOwn ((W.setCell ⟨w.heap.size + 3, t, none⟩ (.bool true)).setCell ⟨w.heap.size + 3, 8 + t, none⟩ (.slice va l.length vc)) (w.heap.size + 4) v xs := fun v xs hx => hx.keepAt fun g hg _ => hk g (by omega)
  refine ⟨?_, (h2.setCell (by omega)).setCell (by omega), (h3.setCell (by omega)).setCell (by omega), (h4.put t _).put (8 + t) _, (h5.mono hn).put ht (hn _ _ ho), (h6.setCell (by show w.heap.size ≤ w.heap.size + 3; omega) _).setCell (by show w.heap.size ≤ w.heap.size + 3; omega) _⟩
  unfold SchBlock at h1 ⊢
  rw [hk _ (by omega)]; exact h1
set_option maxHeartbeats 4000000 in
set_option maxRecDepth 100000 in
theorem RNext_any (p : Rl → Bool) (sil : Bool) (hp : ∀ x : Rl, p x = (!sil || (B x.inp).toList.isEmpty)) (m acc : Nat) (a : Option Addr) (c : Nat) (rs : List Rl) (vs : List Value) (C : Nat → Option (List Nat)) (w : World) (hm8 : m ≤ 8) (hx : RlsAt w w.heap.size (.slice a rs.length c) rs) (hl : rs.length ≤ 100) (hr : ∀ x ∈ rs, InM m x) (hvs : WkOf (NumsOwn w 0) vs C) (hle : WkLe C 100) :
    Calls Tryd.prog 52 #[.agg #[.int .i64 (m : Nat), .int .u8 (acc : Nat), .slice a rs.length c], .agg vs.toArray, .bool sil] w fun e w' => ∃ us, e = .returned (.agg us.toArray) ∧ WkOf (NumsOwn w' w.heap.size) us (nextF p rs C rs.length) ∧ Below w.heap.size w w' := by
  have b1 := (Below.refl w.heap.size w).alloc (Nat.le_refl _) (.cells #[.int .i64 (m : Nat), .int .u8 (acc : Nat), .slice a rs.length c] 28)
  have b2 := b1.alloc b1.size (.cells vs.toArray 77)
  have b3 := b2.alloc b2.size (.cells z16.toArray 77)
  have s1 := SchBlock.new w (.int .i64 (m : Nat)) (.int .u8 (acc : Nat)) (.slice a rs.length c)
  have HX := Lib.hid hx
  have HR := Lib.hid hr
  have HV := Lib.hid hvs
  have HP := Lib.hid hp
  have HLE := Lib.hid hle
  clear hx hr hvs hp hle
  have w1 := (WkBlk.new (w.alloc (.cells #[.int .i64 (m : Nat), .int .u8 (acc : Nat), .slice a rs.length c] 28)) vs)
  have w2 := (WkBlk.new ((w.alloc (.cells #[.int .i64 (m : Nat), .int .u8 (acc : Nat), .slice a rs.length c] 28)).alloc (.cells vs.toArray 77)) z16)
  have S3 := Lib.hid ((s1.below ((Below.refl _ _).alloc (Nat.le_refl _) (.cells vs.toArray 77))).below ((Below.refl _ _).alloc (Nat.le_refl _) (.cells z16.toArray 77)))
  have V3 := Lib.hid (w1.below ((Below.refl _ _).alloc (Nat.le_refl _) (.cells z16.toArray 77)))
  have Z3 := Lib.hid w2
  have B3 := Lib.hid b3
  have hz : (((w.alloc (.cells #[.int .i64 (m : Nat), .int .u8 (acc : Nat), .slice a rs.length c] 28)).alloc (.cells vs.toArray 77)).alloc (.cells z16.toArray 77)).heap.size = w.heap.size + 3 := by simp
  simp only [World.size_alloc] at V3 Z3
  clear b1 b2 b3 s1 w1 w2
  unfold z16 at S3 V3 Z3 B3 hz
  go_enter Tryd.func52, Tryd.ntmps52
  go_upto_region 1 with fail
  generalize ((w.alloc _).alloc _).alloc _ = x1 at *
  have RB : WkBlk (x1.alloc (.cells z16.toArray 77)) x1.heap.size z16 := WkBlk.new x1 z16
  have hbb := (Below.refl x1.heap.size x1).alloc (Nat.le_refl _) (.cells z16.toArray 77)
  rw [hz] at RB
  have NR := Lib.hid (show NxRel w m acc a rs.length c vs z16 z16 (nextF p rs C 0) (x1.alloc (.cells z16.toArray 77)) from
    ⟨S3.out.below hbb, V3.out.below hbb, Z3.out.below hbb, RB, WkOf.zero (NumsOwn.nil _ _), B3.out.trans (hbb.mono B3.out.size)⟩)
  clear hbb RB S3 V3 Z3 B3
  simp only [show (x1.alloc (.cells z16.toArray 77)) = x1.alloc (.cells #[.bool false, .bool false, .bool false, .bool false, .bool false, .bool false, .bool false, .bool false, .slice none 0 0, .slice none 0 0, .slice none 0 0, .slice none 0 0, .slice none 0 0, .slice none 0 0, .slice none 0 0, .slice none 0 0] 77) from rfl] at NR
  go_upto_region 2 with fail
  generalize hgx : x1.alloc _ = x2 at *
  clear hgx
  go_wp2_with fail
  go_loopw [8] (fun iv wr => ∃ (k : Nat) (us : List Value), iv = .int .i64 (k : Nat) ∧ k ≤ rs.length ∧ NxRel w m acc a rs.length c vs us z16 (nextF p rs C k) wr) (fun iv _ => rs.length - (intOf iv).toNat)
  case atStart => exact ⟨0, z16, rfl, Nat.zero_le _, NR.out⟩
  case round =>
    obtain ⟨k, us, rfl, hk, hrl⟩ := hrel
    clear NR
    have RL := Lib.hid hrl
    obtain ⟨s0, s1, s2⟩ := hrl.1.cells
    have wsz : w.heap.size + 4 ≤ wr.heap.size := by have := lt_of_heap hrl.2.2.2.1; omega
    clear hrl
    have k0 : (0 : Int) ≤ (k : Int) := by omega
    by_cases h1 : (k : Int) < (rs.length : Int)
    · have hkl : k < rs.length := by omega
      obtain ⟨x, hxe⟩ : ∃ x, x = rs[k] := ⟨_, rfl⟩
      have hxm : InM m x := by rw [hxe]; exact HR.out _ (List.getElem_mem hkl)
      obtain ⟨a', c', hv, hP⟩ := HX.out.on RL.out.2.2.2.2.2
      obtain ⟨rfl, -⟩ : a = a' ∧ c = c' := by simpa using hv
      obtain ⟨b, off, ha, hlt, hc⟩ := hP (by omega)
      subst ha
      obtain ⟨p0, p1, p2, p3, p4⟩ := hc k hkl
      rw [← hxe] at p0 p1 p2 p3 p4
      have HE := Lib.hid (show edgeOf p rs k = if p x = true then some (x.src.toNat, x.dst.toNat) else none by rw [hxe]; exact edgeOf_at hkl)
      have HN := Lib.hid (nextF_succ p rs C k)
      have NB : RlBlock (wr.alloc (.cells #[.int .i64 0, .int .i64 0, .string ⟨#[]⟩, .string ⟨#[]⟩, .int .i64 0] 31)) wr.heap.size ⟨0, 0, [], [], 0⟩ := heap_alloc_new wr _
      have AL := Lib.hid ((Below.refl wr.heap.size wr).alloc (Nat.le_refl _) (.cells #[.int .i64 0, .int .i64 0, .string ⟨#[]⟩, .string ⟨#[]⟩, .int .i64 0] 31))
      clear hP hc hv hxe
      go_upto_region 6 with (first | (refine wpList_store_rl rfl _ _ rfl _ _ NB rfl x rfl ?_; intro W7 RB hg' hs'; clear NB))
      have hbb := AL.out.grown hg' AL.out.size (by simp)
      have RL7 := Lib.hid (RL.out.below hbb)
      have RB7 := Lib.hid RB
      clear hbb hg' hs' AL RB p0 p1 p2 p3 p4 RL s0 s1 s2
      obtain ⟨q0, q1, q2, q3, q4⟩ := RB7.out.cells
      obtain ⟨f, hf⟩ : ∃ f : Nat, x.src = (f : Int) := ⟨x.src.toNat, by have := hxm.1.1; omega⟩
      obtain ⟨t, ht⟩ : ∃ t : Nat, x.dst = (t : Int) := ⟨x.dst.toNat, by have := hxm.2.1; omega⟩
      have hf8 : f < 8 := by have := hxm.1.2; omega
      have ht8 : t < 8 := by have := hxm.2.2; omega
      have HPX := Lib.hid (HP.out x)
      rw [hf, ht] at HE
      simp only [Int.toNat_natCast] at HE
      rw [hf] at q0
      rw [ht] at q1
      have HF7 := Lib.hid hf
      have HT7 := Lib.hid ht
      clear hxm hf ht
      have gsz : w.heap.size + 4 ≤ W7.heap.size := by have := lt_of_heap RL7.out.2.2.2.1; omega
      have cf : W7.cell? ⟨w.heap.size + 1, f, none⟩ = some (.bool (C f).isSome) := by rw [RL7.out.2.1.cell]; exact HV.out.2.1 f hf8
      have f0 : (0 : Int) ≤ (f : Int) := by omega
      have f8 : (f : Int) < 8 := by omega
      cases hcf : C f with
      | none =>
        rw [hcf] at cf
        have HNX := Lib.hid (show nextF p rs C (k + 1) = nextF p rs C k by
          rw [HN.out, nextStep, HE.out]
          split
          · rfl
          · rename_i a' b' he
            split at he
            · obtain ⟨rfl, rfl⟩ : f = a' ∧ t = b' := by simpa using he
              rw [hcf]
            · cases he)
        clear hcf
        go_wp2_with fail
        go_roundw
        case rel => exact ⟨k + 1, us, by go_num, by omega, by rw [HNX.out]; exact RL7.out⟩
        case measure => simp [intOf]; omega
      | some l =>
        rw [hcf] at cf
        by_cases hpx : p x = true
        · have hs : sil = false ∨ (sil = true ∧ (B x.inp).toList.isEmpty = true) := by
            rw [HPX.out] at hpx
            cases sil with
            | false => exact Or.inl rfl
            | true => exact Or.inr ⟨rfl, by simpa using hpx⟩
          have HE2 := Lib.hid (show edgeOf p rs k = some (f, t) by rw [HE.out, if_pos hpx])
          have hcl : chL C f = l := by unfold chL; rw [hcf]; rfl
          have hll : l.length ≤ 100 := by rw [← hcl]; exact HLE.out f
          obtain ⟨sa, sc, hsv, hso⟩ := HV.out.2.2 f hf8
          rw [hcl] at hsv hso
          have cl : W7.cell? ⟨w.heap.size + 1, 8 + f, none⟩ = some (.slice sa l.length sc) := by rw [RL7.out.2.1.cell]; exact hsv
          have HS7 := Lib.hid (hso.below RL7.out.2.2.2.2.2)
          have HCF := Lib.hid hcf
          have HDL := Lib.hid (show (chL (nextF p rs C k) t).length ≤ 101 from nextF_le HLE.out k t)
          have HSV := Lib.hid hsv
          clear hpx HE HPX hsv hso hcl hcf
          rcases hs with rfl | ⟨rfl, he⟩
          all_goals go_upto_region 7 with fail
          all_goals (
            try clear he
            have HS8 := Lib.hid (HS7.out.below ((Below.refl _ _).alloc (Nat.le_refl _) (.cells #[] 3)))
            clear q0 q1 q2 q3 q4 cf cl
            obtain ⟨q0, q1, q2, q3, q4⟩ := (RB7.out.below ((Below.refl _ _).alloc (Nat.le_refl _) (.cells #[] 3))).cells
            rw [HF7.out] at q0
            have cl : (W7.alloc (.cells #[] 3)).cell? ⟨w.heap.size + 1, 8 + f, none⟩ = some (.slice sa l.length sc) := by rw [(RL7.out.2.1.below ((Below.refl _ _).alloc (Nat.le_refl _) (.cells #[] 3))).cell]; exact HSV.out
            go_upto_region 8 with (first | (at_builtin; refine wpList_append_nums rfl _ _ rfl W7.heap.size _ [] rfl (NumsOwn.empty W7) 0 _ (ints l) rfl HS8.out (by rw [ints_len]; simp; omega) (by simp) ?_; intro v2 w2 own2 grow2) | fail)
            have HB2 := Lib.hid (((Below.refl W7.heap.size W7).alloc (Nat.le_refl _) (.cells #[] 3)).grown grow2 (by simp) (fun k hk => by cases hk; exact Nat.le_refl _))
            rw [List.nil_append] at own2
            have OB := Lib.hid own2.blk
            have O2 := Lib.hid (show NumsOwn (w2.alloc (.cells #[.int .i64 (k : Int)] 3)) W7.heap.size v2 (ints l) from own2.below ((Below.refl _ _).alloc (Nat.le_refl _) _))
            have hz2 : W7.heap.size ≤ w2.heap.size := HB2.out.size
            have AL2 := Lib.hid (HB2.out.alloc hz2 (.cells #[.int .i64 (k : Int)] 3))
            clear own2 grow2 HS8 HS7 cl q0 q1 q2 q3 q4
            go_upto_region 9 with (first | (at_builtin; refine wpList_append_nums rfl _ _ rfl W7.heap.size _ (ints l) rfl O2.out w2.heap.size _ [(k : Int)] rfl (NumsOwn.one w2 k) (by rw [ints_len]; simp; omega) (by simp; omega) ?_; intro v3 w3 own3 grow3) | fail)
            have HB3 := Lib.hid (AL2.out.grown grow3 (by simp; omega) (fun k hk => OB.out k hk))
            rw [← ints_snoc] at own3
            obtain ⟨q, hq⟩ : ∃ q, q = l ++ [k] := ⟨_, rfl⟩
            rw [← hq] at own3
            have hql : q.length ≤ 101 := by rw [hq]; simp; omega
            have HQ := Lib.hid hq
            clear hq
            obtain ⟨va, vc, rfl⟩ := own3.shape
            rw [ints_len] at own3 ⊢
            have OW := Lib.hid own3
            have RLW := Lib.hid (RL7.out.below HB3.out)
            have RBW := Lib.hid (RB7.out.below HB3.out)
            clear own3 grow3 OB O2 AL2 HB2 hz2
            have gs3 : w.heap.size + 4 ≤ w3.heap.size := Nat.le_trans gsz HB3.out.size
            have HD1 := RLW.out.2.2.2.2.1.2.1 t ht8
            have HD2 := RLW.out.2.2.2.2.1.2.2 t ht8
            have ct := RLW.out.2.2.2.1.cell t
            rw [HD1] at ct
            obtain ⟨q0, q1, q2, q3, q4⟩ := RBW.out.cells
            rw [HT7.out] at q1
            have t0 : (0 : Int) ≤ (t : Int) := by omega
            have t8 : (t : Int) < 8 := by omega
            clear HD1
            cases hd : nextF p rs C k t with
            | none =>
              rw [hd] at ct
              have HNX := Lib.hid (show nextF p rs C (k + 1) = putO (nextF p rs C k) t q by
                rw [HN.out, nextStep, HE2.out]
                dsimp only
                rw [HCF.out]
                dsimp only
                rw [← HQ.out, hd])
              clear hd HD2
              go_upto_region 10 with fail
              clear ct q0 q1 q2 q3 q4
              have cz := RLW.out.2.2.2.1.cell t
              have HZ1 := RLW.out.2.2.2.2.1.2.1 t ht8
              rw [HZ1] at cz
              have fz := RLW.out.2.2.2.1.free t
              obtain ⟨q0, q1, q2, q3, q4⟩ := RBW.out.cells
              rw [HT7.out] at q1
              go_upto_region 11 with fail
              clear cz fz HZ1 q0 q1 q2 q3 q4
              have U1 := RLW.out.2.2.2.1.put t (.bool true)
              have cz := U1.cell (8 + t)
              have fz := U1.free (8 + t)
              obtain ⟨ya, yc, hy1, -⟩ := RLW.out.2.2.2.2.1.2.2 t ht8
              rw [List.getElem?_set_ne (by omega), hy1] at cz
              have RBS := RBW.out.setCellK (b' := w.heap.size + 3) (o := t) (u := .bool true) (by omega)
              obtain ⟨q0, q1, q2, q3, q4⟩ := RBS.cells
              rw [HT7.out] at q1
              have NXP := Lib.hid (RLW.out.put ht8 (OW.out.base (b' := w.heap.size + 4) gsz))
              clear U1 RBS hy1
              go_wp2_with fail
              clear cz fz q0 q1 q2 q3 q4
              go_roundw
              case rel => exact ⟨k + 1, _, by go_num, by omega, by rw [HNX.out]; exact NXP.out⟩
              case measure => simp [intOf]; omega
            | some d =>
              rw [hd] at ct
              obtain ⟨da, dc, hdv, hdo⟩ := HD2
              have hcd : chL (nextF p rs C k) t = d := by unfold chL; rw [hd]; rfl
              rw [hcd] at hdv hdo
              have cd := RLW.out.2.2.2.1.cell (8 + t)
              rw [hdv] at cd
              have hdl : d.length ≤ 101 := by rw [← hcd]; exact HDL.out
              have HNX0 := Lib.hid (show nextF p rs C (k + 1) = if bfL (ints q) (ints d) = true then putO (nextF p rs C k) t q else nextF p rs C k by
                rw [HN.out, nextStep, HE2.out]
                dsimp only
                rw [HCF.out]
                dsimp only
                rw [← HQ.out, hd])
              have CB := Lib.hid (RBefore_any (ints q) (ints d) va da vc dc w3 (by have := OW.out.at; rwa [ints_len]) (by have := hdo.at; rwa [ints_len]) (by rw [ints_len]; omega) (by rw [ints_len]; omega))
              rw [ints_len, ints_len] at CB
              clear hd hdv hdo hcd
              go_wp2_with fail
              refine CB.out.mono ?_
              rintro e w4 ⟨rfl, hb4⟩
              have RL4 := Lib.hid (RLW.out.below hb4)
              have RB4 := Lib.hid (RBW.out.below hb4)
              have OW4 := Lib.hid (OW.out.below hb4)
              have gs4 : w.heap.size + 4 ≤ w4.heap.size := Nat.le_trans gs3 hb4.size
              clear hb4 CB RLW RBW OW ct cd q0 q1 q2 q3 q4
              cases hbf : bfL (ints q) (ints d) with
              | false =>
                have HNX := Lib.hid (show nextF p rs C (k + 1) = nextF p rs C k by rw [HNX0.out, hbf]; rfl)
                clear hbf HNX0
                go_wp2_with fail
                go_roundw
                case rel => exact ⟨k + 1, us, by go_num, by omega, by rw [HNX.out]; exact RL4.out⟩
                case measure => simp [intOf]; omega
              | true =>
                have HNX := Lib.hid (show nextF p rs C (k + 1) = putO (nextF p rs C k) t q by rw [HNX0.out, hbf]; rfl)
                clear hbf HNX0
                have RLW := RL4
                have RBW := RB4
                have OW := OW4
                clear RL4 RB4 OW4
                go_upto_region 10 with fail
                have cz := RLW.out.2.2.2.1.cell t
                have HZ1 := RLW.out.2.2.2.2.1.2.1 t ht8
                rw [HZ1] at cz
                have fz := RLW.out.2.2.2.1.free t
                obtain ⟨q0, q1, q2, q3, q4⟩ := RBW.out.cells
                rw [HT7.out] at q1
                go_upto_region 11 with fail
                clear cz fz HZ1 q0 q1 q2 q3 q4
                have U1 := RLW.out.2.2.2.1.put t (.bool true)
                have cz := U1.cell (8 + t)
                have fz := U1.free (8 + t)
                obtain ⟨ya, yc, hy1, -⟩ := RLW.out.2.2.2.2.1.2.2 t ht8
                rw [List.getElem?_set_ne (by omega), hy1] at cz
                have RBS := RBW.out.setCellK (b' := w.heap.size + 3) (o := t) (u := .bool true) (by omega)
                obtain ⟨q0, q1, q2, q3, q4⟩ := RBS.cells
                rw [HT7.out] at q1
                have NXP := Lib.hid (RLW.out.put ht8 (OW.out.base (b' := w.heap.size + 4) gsz))
                clear U1 RBS hy1
                go_wp2_with fail
                clear cz fz q0 q1 q2 q3 q4
                go_roundw
                case rel => exact ⟨k + 1, _, by go_num, by omega, by rw [HNX.out]; exact NXP.out⟩
                case measure => simp [intOf]; omega)
        · have hs : sil = true ∧ (B x.inp).toList.isEmpty = false := by
            rw [HPX.out] at hpx
            cases sil with
            | false => exact absurd rfl hpx
            | true => exact ⟨rfl, by simpa using hpx⟩
          have HNX := Lib.hid (show nextF p rs C (k + 1) = nextF p rs C k by
            rw [HN.out, nextStep, HE.out, if_neg hpx])
          obtain ⟨rfl, he⟩ := hs
          clear hpx hcf HPX
          go_wp2_with fail
          go_roundw
          case rel => exact ⟨k + 1, us, by go_num, by omega, by rw [HNX.out]; exact RL7.out⟩
          case measure => simp [intOf]; omega
    · have hke : k = rs.length := by omega
      subst hke
      have hus := RL.out.2.2.2.2.1.1
      have NB := RL.out.2.2.1
      have NU := RL.out.2.2.2.1
      have HW := RL.out.2.2.2.2.1
      go_wp2_with (first | (refine wpList_load_wk rfl _ rfl (w.heap.size + 3) us NU rfl hus ?_) | (refine wpList_store_wk rfl _ _ rfl (w.heap.size + 2) z16 us NB rfl rfl hus rfl HW.one ?_; intro W9 RB9 hg9 hs9; clear NB NU))
      have hbb := (Below.refl wr.heap.size wr)
      refine ret_wk rfl rfl rfl RB9 hus ?_
      refine ⟨us, rfl, ?_, ?_⟩
      · refine HW.mono fun v xs hx => ?_
        exact ((hx.keptBy hg9 fun q hq e => by have := hx.blk q hq; omega).base (by omega))
      · exact RL.out.2.2.2.2.2.grown hg9 RL.out.2.2.2.2.2.size (fun q hq => by cases hq; omega)
end Go.Proofs.YtadaijepalhohabDoor

namespace Go.Proofs.YtadaijepalhohabDoor
open Go.RowKit
open Pl

theorem BsBlock.keptBy {W W' : World} {b : Nat} {xs : List Bool} {row : Option Nat} (h : BsBlock W b xs) (hg : W.grownBy W' row) (hne : row ≠ some b) : BsBlock W' b xs := by
  have hlt := lt_of_heap h
  unfold BsBlock at h ⊢
  rw [hg.block _ hlt (fun e => hne e.symm)]; exact h
/-- The start of a search: the empty chain at s, if b. -/
def startB (s : Nat) (b : Bool) : Nat → Option (List Nat) := if b = true then startO s else fun _ => none
theorem chL_startB (s : Nat) (b : Bool) (t : Nat) : chL (startB s b) t = [] := by
  unfold chL startB
  cases b with
  | false => rfl
  | true =>
    show ((startO s) t).getD [] = []
    unfold startO
    by_cases h : t = s
    · rw [if_pos h]; rfl
    · rw [if_neg h]; rfl
theorem startB_is {s t : Nat} (b : Bool) : ((startB s b) t).isSome = (b && decide (t = s)) := by
  unfold startB
  cases b with
  | false => rfl
  | true =>
    show ((startO s) t).isSome = _
    unfold startO
    by_cases h : t = s
    · rw [if_pos h, decide_eq_true h]; rfl
    · rw [if_neg h, decide_eq_false h]; rfl
theorem WkOf.start {P : Value → List Int → Prop} (h : P (.slice none 0 0) []) {s : Nat} (hs : s < 8) (b : Bool) : WkOf P (z16.set s (.bool b)) (startB s b) := by
  have z := WkOf.zero h
  refine ⟨by simp [z.1], fun t ht => ?_, fun t ht => ?_⟩
  · rw [startB_is]
    by_cases e : t = s
    · subst e
      rw [List.getElem?_set_self (by rw [z.1]; omega)]; simp
    · rw [List.getElem?_set_ne (fun h => e h.symm), z.2.1 t ht]; simp [e]
  · rw [chL_startB]
    obtain ⟨a, c, h1, h2⟩ := z.2.2 t ht
    exact ⟨a, c, by rw [List.getElem?_set_ne (by omega)]; exact h1, h2⟩
/-- What the searches keep in memory. -/
def StRel (w : World) (m acc : Nat) (a : Option Addr) (n c : Nat) (gw lb : Nat) (live : List Bool) (us : List Value) (C : Nat → Option (List Nat)) (W : World) : Prop :=
  SchBlock W w.heap.size (.int .i64 (m : Nat)) (.int .u8 (acc : Nat)) (.slice a n c) ∧ WkBlk W gw us ∧ WkOf (NumsOwn W w.heap.size) us C ∧ BsBlock W lb live ∧ Below w.heap.size w W
theorem StRel.below {w W W' : World} {m acc : Nat} {a : Option Addr} {n c gw lb : Nat} {live : List Bool} {us : List Value} {C : Nat → Option (List Nat)} (h : StRel w m acc a n c gw lb live us C W) (hb : Below W.heap.size W W') : StRel w m acc a n c gw lb live us C W' :=
  ⟨h.1.below hb, h.2.1.below hb, h.2.2.1.mono fun _ _ hx => hx.below hb, h.2.2.2.1.below hb, h.2.2.2.2.trans (hb.mono h.2.2.2.2.size)⟩
theorem StRel.store {w W W' : World} {m acc : Nat} {a : Option Addr} {n c gw lb : Nat} {live : List Bool} {us vs : List Value} {C D : Nat → Option (List Nat)} {base : Nat} (h : StRel w m acc a n c gw lb live us C W) (hg : W.grownBy W' (some gw)) (hb : WkBlk W' gw vs) (hw : WkOf (NumsOwn W base) vs D) (h1 : w.heap.size < gw) (h2 : gw ≠ lb) (h3 : gw < base) : StRel w m acc a n c gw lb live vs D W' :=
  ⟨h.1.keptBy hg (fun e => by have := Option.some.inj e; omega), hb, hw.mono fun v xs hx => (hx.keptBy hg fun k hk e => by have := hx.blk k hk; omega).base (by omega), h.2.2.2.1.keptBy hg (fun e => h2 (Option.some.inj e)), h.2.2.2.2.grown hg h.2.2.2.2.size (fun k hk => by have := Option.some.inj hk; omega)⟩
set_option maxHeartbeats 2000000 in
set_option maxRecDepth 100000 in
theorem RStuck_any (m acc : Nat) (a : Option Addr) (c : Nat) (rs : List Rl) (w : World) (hv : validB m acc rs = true) (hacc : acc < 256) (hx : RlsAt w w.heap.size (.slice a rs.length c) rs) (hl : rs.length ≤ 100) :
    Calls Tryd.prog 42 #[.agg #[.int .i64 (m : Nat), .int .u8 (acc : Nat), .slice a rs.length c]] w fun e w' => ∃ v, e = .returned v ∧ NumsOwn w' w.heap.size v (ints (stuckC m acc rs)) ∧ Below w.heap.size w w' := by
  obtain ⟨⟨hm1, hm8⟩, hIM, -, -⟩ := valid_in hv
  obtain ⟨ha, ha0⟩ := valid_acc hv
  have HXX := Lib.hid (show ∀ t, t < m → ((!liveB m acc rs t) = true ↔ (255 - lMs m acc rs).testBit t = true) from fun t ht => by
    rw [compl_bit' _ _ (kinds_lt hm8 hIM hacc).2 (by omega), show (lMs m acc rs).testBit t = _ from kinds_live hIM hm1 ha ha0 t ht])
  have HC := Lib.hid (show ∀ l t, Chn (edgeOf anyR rs) 0 l t → t < m from fun l t ch => chn_lt hIM (by omega) ch)
  have HST := Lib.hid (show stuckC m acc rs = if liveB m acc rs 0 = true then fC anyR rs 0 (fun t => (255 - lMs m acc rs).testBit t = true) else [] by
    unfold stuckC
    rw [show (lMs m acc rs).testBit 0 = _ from kinds_live hIM hm1 ha ha0 0 (by omega)])
  obtain ⟨Z, hZ⟩ : ∃ Z, Z = stuckC m acc rs := ⟨_, rfl⟩
  rw [← hZ] at HST
  rw [← hZ]
  clear hZ
  have HSN := Lib.hid (fun (X' : Nat → Prop) (h : ∀ l t, l ≠ [] → X' t → Chn (edgeOf anyR rs) 0 l t → m < l.length) => stuck_none (p := anyR) (s := 0) hIM (by omega) h)
  have CL := fun W (h : Below w.heap.size w W) => Lib.hid (RLive_any m acc a c rs W hm1 hm8 hacc (hx.on h) (by unfold maxLen; omega) hIM)
  have CN := fun vs C W (h : Below w.heap.size w W) (h1 : WkOf (NumsOwn W 0) vs C) (h2 : WkLe C 100) => Lib.hid (RNext_any anyR false (fun _ => rfl) m acc a c rs vs C W hm8 (hx.on h) hl hIM h1 h2)
  have b1 := (Below.refl w.heap.size w).alloc (Nat.le_refl _) (.cells #[.int .i64 (m : Nat), .int .u8 (acc : Nat), .slice a rs.length c] 28)
  have s1 := SchBlock.new w (.int .i64 (m : Nat)) (.int .u8 (acc : Nat)) (.slice a rs.length c)
  have B1 := Lib.hid b1
  have S1 := Lib.hid s1
  have hz1 : (w.alloc (.cells #[.int .i64 (m : Nat), .int .u8 (acc : Nat), .slice a rs.length c] 28)).heap.size = w.heap.size + 1 := World.size_alloc _ _
  clear hx hIM hv ha ha0 b1 s1 hacc
  have m0 : 0 < m := hm1
  have m0' : (0 : Int) < (m : Int) := by omega
  go_enter Tryd.func42, Tryd.ntmps42
  go_upto_region 1 with fail
  generalize w.alloc _ = x1 at *
  obtain ⟨s0, sa, s2⟩ := S1.out.cells
  go_wp2_with fail
  refine ((CL x1 B1.out).out).mono ?_
  rintro e x2 ⟨lb, rfl, hbs, hlb, hb⟩
  have S2 := Lib.hid (S1.out.below hb)
  have B2 := Lib.hid (B1.out.trans (hb.mono B1.out.size))
  have LB := Lib.hid hbs
  have lv0 : x2.cell? ⟨lb, 0, none⟩ = some (.bool (liveB m acc rs 0)) := by
    have h1 := hbs.cell 0 (by simp; omega)
    simpa using h1
  have lbx : lb < x2.heap.size := lt_of_heap hbs
  have hx21 : x1.heap.size ≤ x2.heap.size := hb.size
  clear hbs hb s0 sa s2 B1 S1 CL
  cases hl0 : liveB m acc rs 0 with
  | false =>
    rw [hl0] at lv0
    have HSE := Lib.hid (show Z = [] by rw [HST.out, hl0]; rfl)
    clear hl0
    go_wp2_with fail
    go_ret
    exact ⟨_, rfl, by rw [HSE.out]; exact NumsOwn.nil _ _, B2.out⟩
  | true =>
    rw [hl0] at lv0
    have HSF := Lib.hid (show Z = fC anyR rs 0 (fun t => (255 - lMs m acc rs).testBit t = true) by rw [HST.out, if_pos hl0])
    clear hl0
    clear HST
    go_upto_region 6 with fail
    have ST0 := Lib.hid (show StRel w m acc a rs.length c x2.heap.size lb ((List.range m).map (liveB m acc rs)) (z16.set 0 (.bool true)) (startB 0 true) (x2.alloc (.cells (z16.set 0 (.bool true)).toArray 77)) from
      ⟨S2.out.below ((Below.refl _ _).alloc (Nat.le_refl _) _), WkBlk.new x2 _, WkOf.start (NumsOwn.nil _ _) (by decide) true, LB.out.below ((Below.refl _ _).alloc (Nat.le_refl _) _), B2.out.alloc B2.out.size _⟩)
    have hwg : w.heap.size < x2.heap.size := by omega
    have hgl : x2.heap.size ≠ lb := by omega
    simp only [show (x2.alloc (.cells (z16.set 0 (.bool true)).toArray 77)) = x2.alloc (.cells #[.bool true, .bool false, .bool false, .bool false, .bool false, .bool false, .bool false, .bool false, .slice none 0 0, .slice none 0 0, .slice none 0 0, .slice none 0 0, .slice none 0 0, .slice none 0 0, .slice none 0 0, .slice none 0 0] 77) from rfl] at ST0
    clear S2 B2 LB lv0 lbx hx21 hlb hz1
    generalize x2.alloc _ = x3 at *
    generalize x2.heap.size = gw at *
    have HX0 := Lib.hid (show ∀ l t, l ≠ [] → (255 - lMs m acc rs).testBit t = true → Chn (edgeOf anyR rs) 0 l t → 0 < l.length from fun l _ hn _ _ => List.length_pos_iff.2 hn)
    go_wp2_with fail
    go_loopw [5] (fun iv wr => ∃ (n : Nat) (us : List Value) (C : Nat → Option (List Nat)), iv = .int .i64 (n : Nat) ∧ n ≤ m ∧ StRel w m acc a rs.length c gw lb ((List.range m).map (liveB m acc rs)) us C wr ∧ LevAll (edgeOf anyR rs) (rs.length + 2) 0 n C ∧ WkLe C n ∧ (∀ l t, l ≠ [] → (255 - lMs m acc rs).testBit t = true → Chn (edgeOf anyR rs) 0 l t → n < l.length)) (fun iv _ => m - (intOf iv).toNat)
    case atStart => exact ⟨0, _, _, rfl, Nat.zero_le _, ST0.out, startO_lev _ _ 0, fun t => by rw [chL_startB]; exact Nat.le_refl _, HX0.out⟩
    case round =>
      obtain ⟨n, us, C, rfl, hn, hst, hlev, hle, hno⟩ := hrel
      clear ST0 HX0
      have ST := Lib.hid hst
      have LV := Lib.hid hlev
      have LE := Lib.hid hle
      have NO := Lib.hid hno
      obtain ⟨s0, sa, s2⟩ := hst.1.cells
      have hgw : gw < wr.heap.size := lt_of_heap hst.2.1
      have n0 : (0 : Int) ≤ (n : Int) := by omega
      clear hst hlev hle hno
      by_cases h1 : (n : Int) < (m : Int)
      · have hnm : n < m := by omega
        have NB := ST.out.2.1
        have h16 := ST.out.2.2.1.1
        go_wp2_with (first | (refine wpList_load_wk rfl _ rfl gw us NB rfl h16 ?_) | fail)
        refine ((CN us C wr ST.out.2.2.2.2 (ST.out.2.2.1.mono fun v xs hx => hx.base (Nat.zero_le _)) (fun t => by have := LE.out t; omega)).out).mono ?_
        rintro e w2 ⟨vs, rfl, hvs, hb⟩
        have hLV2 := nextF_lev LV.out
        have hLE2 := nextF_le (p := anyR) (rs := rs) LE.out rs.length
        obtain ⟨D, hD⟩ : ∃ D, D = nextF anyR rs C rs.length := ⟨_, rfl⟩
        rw [← hD] at hvs hLV2 hLE2
        have LV2 := Lib.hid hLV2
        have LE2 := Lib.hid hLE2
        have ST2 := Lib.hid (ST.out.below hb)
        have VS := Lib.hid hvs
        have NB2 := ST2.out.2.1
        have hv16 := hvs.1
        clear hD hLV2 hLE2 hvs hb NB LV LE ST s0 sa s2
        go_upto_region 10 with (first | (refine wpList_store_wk rfl _ _ rfl gw us vs NB2 rfl rfl hv16 h16 VS.out.one ?_; intro W3 RB hg3 hs3; clear NB2))
        have ST3 := Lib.hid (ST2.out.store hg3 RB VS.out hwg hgl hgw)
        clear RB hg3 hs3 ST2 VS h16 hv16
        go_upto_region 11 with fail
        have ST4 := Lib.hid (ST3.out.below ((Below.refl _ _).alloc (Nat.le_refl _) (.cells #[] 3)))
        have BO0 := Lib.hid (show NumsOwn (W3.alloc (.cells #[] 3)) w.heap.size (.slice (some ⟨W3.heap.size, 0, none⟩) 0 0) (ints (bestF D (fun t => !liveB m acc rs t) 0)) from (NumsOwn.empty W3).base ST3.out.2.2.2.2.size)
        clear ST3
        generalize W3.alloc _ = y at *
        go_wp2_with fail
        go_loopw [6, 7] (fun bv iv wi => ∃ k : Nat, iv = .int .i64 (k : Nat) ∧ k ≤ m ∧ NumsOwn wi w.heap.size bv (ints (bestF D (fun t => !liveB m acc rs t) k)) ∧ Below y.heap.size y wi) (fun _ iv _ => m - (intOf iv).toNat)
        case atStart => exact ⟨0, rfl, Nat.zero_le _, BO0.out, Below.refl _ _⟩
        case round =>
          obtain ⟨k, rfl, hk, hbo, hb⟩ := hrel
          clear BO0
          generalize wr = wi at *
          obtain ⟨ba, bc, rfl⟩ := hbo.shape
          obtain ⟨Bs, hBs⟩ : ∃ Bs, Bs = bestF D (fun t => !liveB m acc rs t) k := ⟨_, rfl⟩
          rw [← hBs, ints_len] at hbo
          rw [← hBs, ints_len]
          have BO := Lib.hid hbo
          have HB := Lib.hid hb
          have STi := Lib.hid (ST4.out.below hb)
          have HS := Lib.hid (show bestF D (fun t => !liveB m acc rs t) (k + 1) = bestStep D (fun t => !liveB m acc rs t) Bs k by rw [hBs]; exact bestF_succ D _ k)
          have HBs := Lib.hid hBs
          clear hbo hb hBs
          obtain ⟨s0, sa, s2⟩ := STi.out.1.cells
          have k0 : (0 : Int) ≤ (k : Int) := by omega
          by_cases h2 : (k : Int) < (m : Int)
          · have hkm : k < m := by omega
            have k8 : (k : Int) < 8 := by omega
            have ck : wi.cell? ⟨gw, k, none⟩ = some (.bool (D k).isSome) := by rw [STi.out.2.1.cell]; exact STi.out.2.2.1.2.1 k (by omega)
            have cv := STi.out.2.2.1.2.2 k (by omega)
            have lk : wi.cell? ⟨lb, k, none⟩ = some (.bool (liveB m acc rs k)) := by
              have h := STi.out.2.2.2.1.cell k (by simp; omega)
              simpa using h
            cases hd : D k with
            | none =>
              rw [hd] at ck
              have HBN := Lib.hid (show bestF D (fun t => !liveB m acc rs t) (k + 1) = Bs by rw [HS.out, bestStep, hd])
              clear hd cv HS
              go_wp2_with fail
              go_roundw
              case rel => exact ⟨k + 1, by go_num, by omega, by rw [HBN.out]; exact BO.out, HB.out⟩
              case measure => simp [intOf]; omega
            | some l =>
              rw [hd] at ck
              obtain ⟨la, lc, hlv, hlo⟩ := cv
              have hcl : chL D k = l := by unfold chL; rw [hd]; rfl
              rw [hcl] at hlv hlo
              have cl : wi.cell? ⟨gw, 8 + k, none⟩ = some (.slice la l.length lc) := by rw [STi.out.2.1.cell]; exact hlv
              have OL := Lib.hid (show NumsOwn wi w.heap.size (.slice la l.length lc) (ints l) from hlo)
              have hll : l.length ≤ m := by have := LE2.out k; rw [hcl] at this; omega
              have HS1 := Lib.hid (show bestF D (fun t => !liveB m acc rs t) (k + 1) = if (!liveB m acc rs k) = true ∧ (Bs = [] ∨ bfL (ints l) (ints Bs) = true) then l else Bs by rw [HS.out, bestStep, hd])
              clear hd hlv hlo hcl HS
              cases hlk : liveB m acc rs k with
              | true =>
                rw [hlk] at lk
                have HBN := Lib.hid (show bestF D (fun t => !liveB m acc rs t) (k + 1) = Bs by rw [HS1.out, hlk, if_neg (fun h => by simp at h)])
                clear hlk HS1
                go_wp2_with fail
                go_roundw
                case rel => exact ⟨k + 1, by go_num, by omega, by rw [HBN.out]; exact BO.out, HB.out⟩
                case measure => simp [intOf]; omega
              | false =>
                rw [hlk] at lk
                by_cases hbe : Bs = []
                · have HBN := Lib.hid (show bestF D (fun t => !liveB m acc rs t) (k + 1) = l by rw [HS1.out, hlk, if_pos ⟨rfl, Or.inl hbe⟩])
                  have hb0 : (Bs.length : Int) = 0 := by rw [hbe]; rfl
                  clear hlk HS1 hbe
                  go_wp2_with fail
                  go_roundw
                  case rel => exact ⟨k + 1, by go_num, by omega, by rw [HBN.out]; exact OL.out, HB.out⟩
                  case measure => simp [intOf]; omega
                · have hb0 : ((Bs.length : Int) == 0) = false := by simpa using hbe
                  have hbl : Bs.length ≤ 1000 := by
                    obtain ⟨t, ht, -, hw⟩ := (bestF_spec (fun t => !liveB m acc rs t) LV2.out k).1 (by rw [← HBs.out]; exact hbe)
                    have := LE2.out t
                    unfold chL at this
                    rw [hw, ← HBs.out] at this
                    simp at this
                    omega
                  have CB := Lib.hid (RBefore_any (ints l) (ints Bs) la ba lc bc wi (by have := OL.out.at; rwa [ints_len]) (by have := BO.out.at; rwa [ints_len]) (by rw [ints_len]; omega) (by rw [ints_len]; omega))
                  rw [ints_len, ints_len] at CB
                  have HS2 := Lib.hid (show bestF D (fun t => !liveB m acc rs t) (k + 1) = if bfL (ints l) (ints Bs) = true then l else Bs by
                    rw [HS1.out, hlk]
                    by_cases h : bfL (ints l) (ints Bs) = true
                    · rw [if_pos ⟨rfl, Or.inr h⟩, if_pos h]
                    · rw [if_neg (fun e => e.2.elim hbe h), if_neg h])
                  clear hlk HS1 hbe
                  go_wp2_with fail
                  refine CB.out.mono ?_
                  rintro e wj ⟨rfl, hbj⟩
                  have OLj := Lib.hid (OL.out.below hbj)
                  have BOj := Lib.hid (BO.out.below hbj)
                  have HBj := Lib.hid (HB.out.trans (hbj.mono HB.out.size))
                  have cl := (hbj.cell (p := ⟨gw, 8 + k, none⟩) (lt_of_heap STi.out.2.1)).trans cl
                  clear hbj OL BO HB CB ck lk STi s0 sa s2
                  have OL := OLj
                  have BO := BOj
                  have HB := HBj
                  clear OLj BOj HBj
                  cases hbf : bfL (ints l) (ints Bs) with
                  | true =>
                    have HBN := Lib.hid (show bestF D (fun t => !liveB m acc rs t) (k + 1) = l by rw [HS2.out, hbf]; rfl)
                    clear hbf HS2
                    go_wp2_with fail
                    go_roundw
                    case rel => exact ⟨k + 1, by go_num, by omega, by rw [HBN.out]; exact OL.out, HB.out⟩
                    case measure => simp [intOf]; omega
                  | false =>
                    have HBN := Lib.hid (show bestF D (fun t => !liveB m acc rs t) (k + 1) = Bs by rw [HS2.out, hbf]; rfl)
                    clear hbf HS2
                    go_wp2_with fail
                    go_roundw
                    case rel => exact ⟨k + 1, by go_num, by omega, by rw [HBN.out]; exact BO.out, HB.out⟩
                    case measure => simp [intOf]; omega
          · have hke : k = m := by omega
            have HBm := Lib.hid (show Bs = bestF D (fun t => !liveB m acc rs t) m by have h := HBs.out; rw [hke] at h; exact h)
            clear hke
            by_cases hbe : Bs = []
            · have hb0 : ¬ (0 : Int) < (Bs.length : Int) := by rw [hbe]; decide
              have NO2 := Lib.hid (stuck_miss LV2.out NO.out HXX.out HC.out (by rw [← HBm.out]; exact hbe))
              clear hbe
              go_wp2_with fail
              go_roundw
              case rel => exact ⟨n + 1, vs, D, by go_num, by omega, STi.out, LV2.out, LE2.out, NO2.out⟩
              case measure => simp [intOf]; omega
            · have hb0 : (0 : Int) < (Bs.length : Int) := by have := List.length_pos_iff.2 hbe; omega
              have HF := Lib.hid (show Z = Bs by rw [HSF.out, HBm.out]; exact stuck_hit LV2.out NO.out HXX.out HC.out (by rw [← HBm.out]; exact hbe))
              clear hbe
              go_wp2_with fail
              go_ret
              exact ⟨_, rfl, by rw [HF.out]; exact BO.out, STi.out.2.2.2.2⟩
      · have hne : n = m := by omega
        have HF := Lib.hid (show Z = [] by rw [HSF.out]; exact HSN.out _ (fun l t h1 h2 h3 => by have := NO.out l t h1 h2 h3; omega))
        clear hne
        go_wp2_with fail
        go_ret
        exact ⟨_, rfl, by rw [HF.out]; exact NumsOwn.nil _ _, ST.out.2.2.2.2⟩
end Go.Proofs.YtadaijepalhohabDoor

namespace Go.Proofs.YtadaijepalhohabDoor
open Go.RowKit
open Pl

/-- What endless keeps in memory. -/
def EnRel (w : World) (m acc : Nat) (a : Option Addr) (n c : Nat) (rb lb : Nat) (rl ll : List Bool) (W : World) : Prop :=
  SchBlock W w.heap.size (.int .i64 (m : Nat)) (.int .u8 (acc : Nat)) (.slice a n c) ∧ BsBlock W rb rl ∧ BsBlock W lb ll ∧ Below w.heap.size w W
theorem EnRel.below {w W W' : World} {m acc : Nat} {a : Option Addr} {n c rb lb : Nat} {rl ll : List Bool} (h : EnRel w m acc a n c rb lb rl ll W) (hb : Below W.heap.size W W') : EnRel w m acc a n c rb lb rl ll W' :=
  ⟨h.1.below hb, h.2.1.below hb, h.2.2.1.below hb, h.2.2.2.trans (hb.mono h.2.2.2.size)⟩
theorem EnRel.grown {w W W' : World} {m acc : Nat} {a : Option Addr} {n c rb lb gw : Nat} {rl ll : List Bool} (h : EnRel w m acc a n c rb lb rl ll W) (hg : W.grownBy W' (some gw)) (h1 : w.heap.size < gw) (h2 : gw ≠ rb) (h3 : gw ≠ lb) : EnRel w m acc a n c rb lb rl ll W' :=
  ⟨h.1.keptBy hg (fun e => by have := Option.some.inj e; omega), h.2.1.keptBy hg (fun e => h2 (Option.some.inj e)), h.2.2.1.keptBy hg (fun e => h3 (Option.some.inj e)), h.2.2.2.grown hg h.2.2.2.size (fun k hk => by have := Option.some.inj hk; omega)⟩
theorem EnRel.setCell {w W : World} {m acc : Nat} {a : Option Addr} {n c rb lb gw o : Nat} {rl ll : List Bool} {v : Value} (h : EnRel w m acc a n c rb lb rl ll W) (h1 : w.heap.size < gw) (h2 : gw ≠ rb) (h3 : gw ≠ lb) : EnRel w m acc a n c rb lb rl ll (W.setCell ⟨gw, o, none⟩ v) :=
  ⟨by have h0 := h.1
      unfold SchBlock at h0 ⊢
      rw [heap_setCell_other _ _ _ _ (show w.heap.size ≠ gw by omega)]; exact h0, h.2.1.setCell h2, h.2.2.1.setCell h3, h.2.2.2.setCell (by show w.heap.size ≤ gw; omega) _⟩
theorem EndInv.short {u : Nat} {rs : List Rl} {i n m : Nat} {cur : List Nat} (hr : ∀ x ∈ rs, InM m x) (hi : i < m) (h : EndInv u rs i n cur) : cur.length ≤ m := by
  rcases h with ⟨hu, rfl⟩ | ⟨hu, ⟨h2, rfl⟩ | ⟨h2, _⟩⟩
  · exact endC_short hr i (by omega)
  · exact endC_short hr i (by omega)
  · rw [h2]; exact endC_short hr (i + 1) (by omega)
theorem NumsOwn.lt {W : World} {b : Nat} {v : Value} {xs : List Int} (h : NumsOwn W b v xs) : ∀ k, v.ownBlock = some k → k < W.heap.size := by
  intro k hk
  rcases h.2 with ⟨rfl, _⟩ | ⟨g, cap, cur, rfl, _, hh, _⟩
  · cases hk
  · cases hk; exact lt_of_heap hh
/-- A list that is none of the block gw. -/
def CurAt (W : World) (b0 gw : Nat) (v : Value) (cur : List Nat) : Prop := NumsOwn W b0 v (ints cur) ∧ ∀ k, v.ownBlock = some k → k ≠ gw
theorem CurAt.below {W W' : World} {b0 gw : Nat} {v : Value} {cur : List Nat} (h : CurAt W b0 gw v cur) (hb : Below W.heap.size W W') : CurAt W' b0 gw v cur := ⟨h.1.below hb, h.2⟩
theorem CurAt.kept {W W' : World} {b0 gw : Nat} {v : Value} {cur : List Nat} (h : CurAt W b0 gw v cur) (hg : W.grownBy W' (some gw)) : CurAt W' b0 gw v cur := ⟨h.1.keptBy hg h.2, h.2⟩
set_option maxHeartbeats 4000000 in
set_option maxRecDepth 100000 in
theorem REndless_any (m acc : Nat) (a : Option Addr) (c : Nat) (rs : List Rl) (w : World) (hv : validB m acc rs = true) (hacc : acc < 256) (hx : RlsAt w w.heap.size (.slice a rs.length c) rs) (hl : rs.length ≤ 100) :
    Calls Tryd.prog 43 #[.agg #[.int .i64 (m : Nat), .int .u8 (acc : Nat), .slice a rs.length c]] w fun e w' => ∃ v, e = .returned v ∧ NumsOwn w' w.heap.size v (ints (endlessC m acc rs)) ∧ Below w.heap.size w w' := by
  obtain ⟨⟨hm1, hm8⟩, hIM, -, -⟩ := valid_in hv
  obtain ⟨ha, ha0⟩ := valid_acc hv
  obtain ⟨u, hu⟩ : ∃ u, u = rMs m rs &&& lMs m acc rs := ⟨_, rfl⟩
  have HZ := Lib.hid (show endlessC m acc rs = endC u rs m by unfold endlessC; rw [hu])
  have HU := Lib.hid (show ∀ t, t < m → u.testBit t = ((rnds rStep rs m (2 ^ 0)).testBit t && liveB m acc rs t) from fun t ht => by
    rw [hu, Nat.testBit_and, show (rMs m rs).testBit t = _ from kinds_reached hIM hm1 t, show (lMs m acc rs).testBit t = _ from kinds_live hIM hm1 ha ha0 t ht])
  have HSH := Lib.hid (fun (i n : Nat) (cur : List Nat) (hi : i < m) (h : EndInv u rs i n cur) => EndInv.short hIM hi h)
  have HDN := Lib.hid (fun (i : Nat) (cur : List Nat) (hi : i < m) (h : EndInv u rs i m cur) => EndInv.done hIM hi h)
  obtain ⟨Z, hZ⟩ : ∃ Z, Z = endlessC m acc rs := ⟨_, rfl⟩
  rw [← hZ] at HZ
  rw [← hZ]
  clear hZ hu
  have CR := fun W (h : Below w.heap.size w W) => Lib.hid (Reached_any m acc 0 a c rs W hm1 hm8 (by omega) (hx.on h) (by unfold maxLen; omega) hIM)
  have CL := fun W (h : Below w.heap.size w W) => Lib.hid (RLive_any m acc a c rs W hm1 hm8 hacc (hx.on h) (by unfold maxLen; omega) hIM)
  have CN := fun vs C W (h : Below w.heap.size w W) (h1 : WkOf (NumsOwn W 0) vs C) (h2 : WkLe C 100) => Lib.hid (RNext_any noIn true (fun _ => rfl) m acc a c rs vs C W hm8 (hx.on h) hl hIM h1 h2)
  have b1 := (Below.refl w.heap.size w).alloc (Nat.le_refl _) (.cells #[.int .i64 (m : Nat), .int .u8 (acc : Nat), .slice a rs.length c] 28)
  have s1 := SchBlock.new w (.int .i64 (m : Nat)) (.int .u8 (acc : Nat)) (.slice a rs.length c)
  have B1 := Lib.hid b1
  have S1 := Lib.hid s1
  have hz1 : (w.alloc (.cells #[.int .i64 (m : Nat), .int .u8 (acc : Nat), .slice a rs.length c] 28)).heap.size = w.heap.size + 1 := World.size_alloc _ _
  clear hx hIM hv ha ha0 b1 s1 hacc
  have m0' : (0 : Int) < (m : Int) := by omega
  obtain ⟨Rs, hRs⟩ : ∃ Rs, Rs = rnds rStep rs m (2 ^ 0) := ⟨_, rfl⟩
  rw [← hRs] at HU
  simp only [← hRs] at CR
  clear hRs
  go_enter Tryd.func43, Tryd.ntmps43
  go_upto_region 1 with fail
  generalize w.alloc _ = x1 at *
  obtain ⟨s0, sa, s2⟩ := S1.out.cells
  go_wp2_with fail
  refine ((CR x1 B1.out).out).mono ?_
  rintro e x2 ⟨rb, rfl, hrs, hrb, hb⟩
  have S2 := Lib.hid (S1.out.below hb)
  have B2 := Lib.hid (B1.out.trans (hb.mono B1.out.size))
  have RB := Lib.hid hrs
  have rbx : rb < x2.heap.size := lt_of_heap hrs
  have hx21 : x1.heap.size ≤ x2.heap.size := hb.size
  clear hrs hb s0 sa s2 B1 S1 CR
  obtain ⟨s0, sa, s2⟩ := S2.out.cells
  go_wp2_with fail
  refine ((CL x2 B2.out).out).mono ?_
  rintro e x3 ⟨lb, rfl, hls, hlb, hb⟩
  have lbx : lb < x3.heap.size := lt_of_heap hls
  have hx32 : x2.heap.size ≤ x3.heap.size := hb.size
  have ER3 := Lib.hid (show EnRel w m acc a rs.length c rb lb (setL m Rs) ((List.range m).map (liveB m acc rs)) x3 from ⟨S2.out.below hb, RB.out.below hb, hls, B2.out.trans (hb.mono B2.out.size)⟩)
  clear hls hb s0 sa s2 B2 S2 CL RB
  go_upto_region 4 with fail
  have ER4 := Lib.hid (ER3.out.below ((Below.refl _ _).alloc (Nat.le_refl _) (.cells #[] 3)))
  have BO4 := Lib.hid (show NumsOwn (x3.alloc (.cells #[] 3)) w.heap.size (.slice (some ⟨x3.heap.size, 0, none⟩) 0 0) (ints (endC u rs 0)) from (NumsOwn.empty x3).base ER3.out.2.2.2.size)
  have hz4 : x3.heap.size + 1 ≤ (x3.alloc (.cells #[] 3)).heap.size := by simp
  clear ER3
  generalize hgx : x3.alloc _ = x4 at *
  clear hgx
  go_wp2_with fail
  go_loopw [5, 6] (fun bv iv wr => ∃ k : Nat, iv = .int .i64 (k : Nat) ∧ k ≤ m ∧ NumsOwn wr w.heap.size bv (ints (endC u rs k)) ∧ EnRel w m acc a rs.length c rb lb (setL m Rs) ((List.range m).map (liveB m acc rs)) wr ∧ x4.heap.size ≤ wr.heap.size) (fun _ iv _ => m - (intOf iv).toNat)
  case atStart => exact ⟨0, rfl, Nat.zero_le _, BO4.out, ER4.out, Nat.le_refl _⟩
  case round =>
    obtain ⟨k, rfl, hk, hbo, her, hsz⟩ := hrel
    clear BO4 ER4
    generalize wr = wo at *
    obtain ⟨ba, bc, rfl⟩ := hbo.shape
    obtain ⟨Bs, hBs⟩ : ∃ Bs, Bs = endC u rs k := ⟨_, rfl⟩
    rw [← hBs, ints_len] at hbo
    rw [← hBs, ints_len]
    have BO := Lib.hid hbo
    have ER := Lib.hid her
    have HBs := Lib.hid hBs
    obtain ⟨s0, sa, s2⟩ := her.1.cells
    clear hbo her hBs
    have k0 : (0 : Int) ≤ (k : Int) := by omega
    by_cases h1 : (k : Int) < (m : Int)
    · have hkm : k < m := by omega
      have k8 : (k : Int) < 8 := by omega
      have k8' : k < 8 := by omega
      go_upto_region 8 with fail
      clear s0 sa s2
      have WB0 := Lib.hid (WkBlk.new wo z16)
      have AL := Lib.hid ((Below.refl wo.heap.size wo).alloc (Nat.le_refl _) (.cells z16.toArray 77))
      have hgw : wo.heap.size < (wo.alloc (.cells z16.toArray 77)).heap.size := by simp
      simp only [show (wo.alloc (.cells z16.toArray 77)) = wo.alloc (.cells #[.bool false, .bool false, .bool false, .bool false, .bool false, .bool false, .bool false, .bool false, .slice none 0 0, .slice none 0 0, .slice none 0 0, .slice none 0 0, .slice none 0 0, .slice none 0 0, .slice none 0 0, .slice none 0 0] 77) from rfl] at WB0 AL hgw
      have ERa := Lib.hid (ER.out.below AL.out)
      have BOs := Lib.hid (show ∀ v : Bool, CurAt ((wo.alloc (.cells #[.bool false, .bool false, .bool false, .bool false, .bool false, .bool false, .bool false, .bool false, .slice none 0 0, .slice none 0 0, .slice none 0 0, .slice none 0 0, .slice none 0 0, .slice none 0 0, .slice none 0 0, .slice none 0 0] 77)).setCell ⟨wo.heap.size, k, none⟩ (.bool v)) w.heap.size wo.heap.size (.slice ba Bs.length bc) Bs from
        fun v => ⟨BO.out.below (AL.out.setCell (Nat.le_refl _) _), fun q hq => by have := BO.out.lt q hq; omega⟩)
      clear ER BO AL
      generalize wo.alloc _ = y at *
      have hwg : w.heap.size < wo.heap.size := by omega
      have hgr : wo.heap.size ≠ rb := by omega
      have hgl : wo.heap.size ≠ lb := by omega
      generalize wo.heap.size = gw at *
      have crk := ERa.out.2.1.cell k (by rw [setL_len]; exact hkm)
      rw [setL_get m Rs k hkm] at crk
      have clk : y.cell? ⟨lb, k, none⟩ = some (.bool (liveB m acc rs k)) := by
        have h := ERa.out.2.2.1.cell k (by simp; omega)
        simpa using h
      have cz := WB0.out.cell k
      rw [(WkOf.zero (P := fun _ _ => True) trivial).2.1 k k8'] at cz
      have fz := WB0.out.free k
      have hub := HU.out k hkm
      obtain ⟨b, hb⟩ : ∃ b, b = u.testBit k := ⟨_, rfl⟩
      have HUB := Lib.hid hb
      have ES := Lib.hid (show EnRel w m acc a rs.length c rb lb (setL m Rs) ((List.range m).map (liveB m acc rs)) (y.setCell ⟨gw, k, none⟩ (.bool b)) from ERa.out.setCell hwg hgr hgl)
      have WS := Lib.hid (WB0.out.put k (.bool b))
      have BS := Lib.hid (BOs.out b)
      have WO := Lib.hid (show WkOf (NumsOwn (y.setCell ⟨gw, k, none⟩ (.bool b)) (gw + 1)) (z16.set k (.bool b)) (startB k b) from WkOf.start (NumsOwn.nil _ _) k8' b)
      have hrl : (Rs.testBit k = false ∧ b = false) ∨ (Rs.testBit k = true ∧ liveB m acc rs k = b) := by
        rw [hb, hub]
        cases Rs.testBit k <;> simp
      clear hub hb ERa WB0 BOs
      have I0 := Lib.hid (show u.testBit k = false → ∀ t, startB k b t = none from fun h t => by rw [HUB.out, h]; rfl)
      have I1 := Lib.hid (show u.testBit k = true → LevAll (edgeOf noIn rs) (rs.length + 2) k 0 (startB k b) from fun h => by rw [HUB.out, h]; exact startO_lev _ _ k)
      have I2 := Lib.hid (show WkLe (startB k b) 0 from fun t => by rw [chL_startB]; exact Nat.le_refl _)
      have EI0 := Lib.hid (show EndInv u rs k 0 Bs by rw [HBs.out]; exact EndInv.start u rs k)
      clear HUB
      rcases hrl with ⟨h2, rfl⟩ | ⟨h2, rfl⟩
      all_goals rw [h2] at crk
      all_goals clear h2
      all_goals go_upto_region 9 with fail
      all_goals (
        clear crk clk cz fz
        generalize y.setCell _ _ = x5 at *
        go_wp2_with fail
        go_loopw [5, 8] (fun cv iv wi => ∃ (n : Nat) (us : List Value) (C : Nat → Option (List Nat)) (cur : List Nat), iv = .int .i64 (n : Nat) ∧ n ≤ m ∧ CurAt wi w.heap.size gw cv cur ∧ EndInv u rs k n cur ∧ (EnRel w m acc a rs.length c rb lb (setL m Rs) ((List.range m).map (liveB m acc rs)) wi ∧ WkBlk wi gw us ∧ WkOf (NumsOwn wi (gw + 1)) us C) ∧ (u.testBit k = false → ∀ t, C t = none) ∧ (u.testBit k = true → LevAll (edgeOf noIn rs) (rs.length + 2) k n C) ∧ WkLe C n) (fun _ iv _ => m - (intOf iv).toNat)
        case atStart => exact ⟨0, _, _, Bs, rfl, Nat.zero_le _, BS.out, EI0.out, ⟨ES.out, WS.out, WO.out⟩, I0.out, I1.out, I2.out⟩
        case round =>
          obtain ⟨n, us, C, cur, rfl, hn, hcu, hei, hin, hc0, hc1, hle⟩ := hrel
          clear BS EI0 ES WS WO I0 I1 I2
          obtain ⟨ca, cc, rfl⟩ := hcu.1.shape
          rw [ints_len] at hcu ⊢
          have CU := Lib.hid hcu
          have EI := Lib.hid hei
          have IN := Lib.hid hin
          have C0 := Lib.hid hc0
          have C1 := Lib.hid hc1
          have LE := Lib.hid hle
          have NB := hin.2.1
          have h16 := hin.2.2.1
          have hgw2 : gw < wr.heap.size := lt_of_heap hin.2.1
          obtain ⟨s0, sa, s2⟩ := hin.1.1.cells
          have hcul := HSH.out k n cur hkm hei
          have n0 : (0 : Int) ≤ (n : Int) := by omega
          clear hcu hei hin hc0 hc1 hle
          by_cases h2 : (n : Int) < (m : Int)
          · have hnm : n < m := by omega
            go_wp2_with (first | (refine wpList_load_wk rfl _ rfl gw us NB rfl h16 ?_) | fail)
            refine ((CN us C wr IN.out.1.2.2.2 (IN.out.2.2.mono fun v xs hx => hx.base (Nat.zero_le _)) (fun t => by have := LE.out t; omega)).out).mono ?_
            rintro e w2 ⟨vs, rfl, hvs, hb⟩
            have hD0 : u.testBit k = false → ∀ t, nextF noIn rs C rs.length t = none := fun h t => nextF_none (C0.out h) _ t
            have hD1 : u.testBit k = true → LevAll (edgeOf noIn rs) (rs.length + 2) k (n + 1) (nextF noIn rs C rs.length) := fun h => nextF_lev (C1.out h)
            have hLE2 := nextF_le (p := noIn) (rs := rs) LE.out rs.length
            obtain ⟨D, hD⟩ : ∃ D, D = nextF noIn rs C rs.length := ⟨_, rfl⟩
            rw [← hD] at hvs hD0 hD1 hLE2
            have D0 := Lib.hid hD0
            have D1 := Lib.hid hD1
            have LE2 := Lib.hid hLE2
            have ER2 := Lib.hid (IN.out.1.below hb)
            have CU2 := Lib.hid (CU.out.below hb)
            have VS := Lib.hid hvs
            have NB2 := IN.out.2.1.below hb
            have hv16 := hvs.1
            clear hD hD0 hD1 hLE2 hvs hb NB LE IN CU C0 C1 s0 sa s2
            go_upto_region 13 with (first | (refine wpList_store_wk rfl _ _ rfl gw us vs NB2 rfl rfl hv16 h16 VS.out.one ?_; intro W3 RB3 hg3 hs3; clear NB2))
            have ER3 := Lib.hid (ER2.out.grown hg3 hwg hgr hgl)
            have CU3 := Lib.hid (CU2.out.kept hg3)
            have WK3 := Lib.hid (show WkOf (NumsOwn W3 (gw + 1)) vs D from VS.out.mono fun v xs hx => (hx.keptBy hg3 fun q hq e => by have := hx.blk q hq; omega).base (by omega))
            have RB4 := Lib.hid RB3
            clear RB3 hg3 hs3 ER2 CU2 VS h16 hv16
            have ck : W3.cell? ⟨gw, k, none⟩ = some (.bool (D k).isSome) := by rw [RB4.out.cell]; exact WK3.out.2.1 k k8'
            obtain ⟨la, lc, hlv, hlo⟩ := WK3.out.2.2 k k8'
            obtain ⟨l, hlc⟩ : ∃ l, l = chL D k := ⟨_, rfl⟩
            rw [← hlc] at hlv hlo
            have cl : W3.cell? ⟨gw, 8 + k, none⟩ = some (.slice la l.length lc) := by rw [RB4.out.cell]; exact hlv
            have OL := Lib.hid (show CurAt W3 w.heap.size gw (.slice la l.length lc) l from ⟨hlo.base (by omega), fun q hq => by have := hlo.blk q hq; omega⟩)
            have hll : l.length ≤ m := by have := LE2.out k; rw [← hlc] at this; omega
            have EI2 := Lib.hid (EI.out.step D0.out D1.out)
            clear hlv hlo EI
            cases hd : D k with
            | none =>
              rw [hd] at ck
              have HBN := Lib.hid (show EndInv u rs k (n + 1) cur by have h := EI2.out; unfold endOne at h; rw [hd] at h; exact h)
              clear hd hlc EI2
              have CU := CU3
              have ERn := ER3
              have RBn := RB4
              have WKn := WK3
              clear CU3 ER3 RB4 WK3
              go_wp2_with fail
              go_roundw
              case rel => exact ⟨n + 1, vs, D, cur, by go_num, by omega, CU.out, HBN.out, ⟨ERn.out, RBn.out, WKn.out⟩, D0.out, D1.out, LE2.out⟩
              case measure => simp [intOf]; omega
            | some l' =>
              rw [hd] at ck
              obtain rfl : l = l' := by rw [hlc]; unfold chL; rw [hd]; rfl
              have HE := Lib.hid (show EndInv u rs k (n + 1) (if cur = [] ∨ shB l cur = true then l else cur) by have h := EI2.out; unfold endOne at h; rw [hd] at h; exact h)
              clear hd hlc EI2
              by_cases hce : cur = []
              · have HBN := Lib.hid (show EndInv u rs k (n + 1) l by have h := HE.out; rwa [if_pos (Or.inl hce)] at h)
                have hc0 : ((cur.length : Int) == 0) = true := by rw [hce]; rfl
                have CU := CU3
                have ERn := ER3
                have RBn := RB4
                have WKn := WK3
                clear hce HE CU3 ER3 RB4 WK3
                go_wp2_with fail
                go_roundw
                case rel => exact ⟨n + 1, vs, D, l, by go_num, by omega, OL.out, HBN.out, ⟨ERn.out, RBn.out, WKn.out⟩, D0.out, D1.out, LE2.out⟩
                case measure => simp [intOf]; omega
              · have hc0 : ((cur.length : Int) == 0) = false := by simpa using hce
                by_cases hlt : (l.length : Int) < (cur.length : Int)
                · have HBN := Lib.hid (show EndInv u rs k (n + 1) l by
                    have h := HE.out
                    rwa [if_pos (Or.inr (by unfold shB; rw [decide_eq_true (show l.length < cur.length by omega)]; rfl))] at h)
                  have CU := CU3
                  have ERn := ER3
                  have RBn := RB4
                  have WKn := WK3
                  clear hce HE CU3 ER3 RB4 WK3
                  go_wp2_with fail
                  go_roundw
                  case rel => exact ⟨n + 1, vs, D, l, by go_num, by omega, OL.out, HBN.out, ⟨ERn.out, RBn.out, WKn.out⟩, D0.out, D1.out, LE2.out⟩
                  case measure => simp [intOf]; omega
                · by_cases heq : l.length = cur.length
                  · have hq : ((l.length : Int) == (cur.length : Int)) = true := by rw [heq]; simp
                    have HE2 := Lib.hid (show EndInv u rs k (n + 1) (if bfL (ints l) (ints cur) = true then l else cur) by
                      have h := HE.out
                      have e : shB l cur = bfL (ints l) (ints cur) := by
                        unfold shB
                        rw [decide_eq_false (show ¬ l.length < cur.length by omega), decide_eq_true heq]; simp
                      rw [e] at h
                      by_cases hb : bfL (ints l) (ints cur) = true
                      · rw [if_pos (Or.inr hb)] at h; rw [if_pos hb]; exact h
                      · rw [if_neg (fun e => e.elim hce hb)] at h; rw [if_neg hb]; exact h)
                    have CB := Lib.hid (RBefore_any (ints l) (ints cur) la ca lc cc W3 (by have := OL.out.1.at; rwa [ints_len]) (by have := CU3.out.1.at; rwa [ints_len]) (by rw [ints_len]; omega) (by rw [ints_len]; omega))
                    rw [ints_len, ints_len] at CB
                    clear hce HE heq
                    go_wp2_with fail
                    refine CB.out.mono ?_
                    rintro e wj ⟨rfl, hbj⟩
                    have OLj := Lib.hid (OL.out.below hbj)
                    have CU := Lib.hid (CU3.out.below hbj)
                    have ERn := Lib.hid (ER3.out.below hbj)
                    have RBn := Lib.hid (RB4.out.below hbj)
                    have WKn := Lib.hid (show WkOf (NumsOwn wj (gw + 1)) vs D from WK3.out.mono fun v xs hx => hx.below hbj)
                    clear hbj OL CB ck cl CU3 ER3 RB4 WK3
                    have OL := OLj
                    clear OLj
                    cases hbf : bfL (ints l) (ints cur) with
                    | true =>
                      have HBN := Lib.hid (show EndInv u rs k (n + 1) l by have h := HE2.out; rwa [if_pos hbf] at h)
                      clear hbf HE2
                      go_wp2_with fail
                      go_roundw
                      case rel => exact ⟨n + 1, vs, D, l, by go_num, by omega, OL.out, HBN.out, ⟨ERn.out, RBn.out, WKn.out⟩, D0.out, D1.out, LE2.out⟩
                      case measure => simp [intOf]; omega
                    | false =>
                      have HBN := Lib.hid (show EndInv u rs k (n + 1) cur by have h := HE2.out; rwa [if_neg (by rw [hbf]; simp)] at h)
                      clear hbf HE2
                      go_wp2_with fail
                      go_roundw
                      case rel => exact ⟨n + 1, vs, D, cur, by go_num, by omega, CU.out, HBN.out, ⟨ERn.out, RBn.out, WKn.out⟩, D0.out, D1.out, LE2.out⟩
                      case measure => simp [intOf]; omega
                  · have hq : ((l.length : Int) == (cur.length : Int)) = false := by simp; omega
                    have HBN := Lib.hid (show EndInv u rs k (n + 1) cur by
                      have h := HE.out
                      have e : shB l cur = false := by
                        unfold shB
                        rw [decide_eq_false (show ¬ l.length < cur.length by omega), decide_eq_false heq]; rfl
                      rwa [e, if_neg (fun e => e.elim hce (fun h => by cases h))] at h)
                    have CU := CU3
                    have ERn := ER3
                    have RBn := RB4
                    have WKn := WK3
                    clear hce HE heq CU3 ER3 RB4 WK3
                    go_wp2_with fail
                    go_roundw
                    case rel => exact ⟨n + 1, vs, D, cur, by go_num, by omega, CU.out, HBN.out, ⟨ERn.out, RBn.out, WKn.out⟩, D0.out, D1.out, LE2.out⟩
                    case measure => simp [intOf]; omega
          · have hne : n = m := by omega
            have HB2 := Lib.hid (show cur = endC u rs (k + 1) from HDN.out k cur hkm (by have h := EI.out; rw [hne] at h; exact h))
            clear hne EI
            have hyw : x4.heap.size ≤ wr.heap.size := Nat.le_trans hsz (by omega)
            go_wp2_with fail
            go_roundw
            case rel => exact ⟨k + 1, by go_num, by omega, by rw [← HB2.out]; exact CU.out.1, IN.out.1, hyw⟩
            case measure => simp [intOf]; omega)
    · have hke : k = m := by omega
      have HF := Lib.hid (show Z = Bs by rw [HZ.out, HBs.out, hke])
      clear hke
      go_wp2_with fail
      go_ret
      exact ⟨_, rfl, by rw [HF.out]; exact BO.out, ER.out.2.2.2⟩
end Go.Proofs.YtadaijepalhohabDoor
