/-
  The reference's Script; scripts, line by line: what the package reads of a script is what stands in the parts between newlines.
-/
import Derived.Test.YtcbboegjegobeaaDoorRA
namespace Go.Proofs.YtcbboegjegobeaaDoor
open Go.RowKit
open Pl

/-- The events of the lines ahead of the first wrong one, and whether there is none; the last part is what stands behind the last newline. -/
def scrP : List (List UInt8) → List Ev × Bool
  | [] => ([], true)
  | [p] => ([], decide (p = []))
  | p :: q :: r => match parseS p with
    | none => ([], false)
    | some ev => (ev :: (scrP (q :: r)).1, (scrP (q :: r)).2)
theorem scrP_bad {p q : List UInt8} {r : List (List UInt8)} (h : parseS p = none) : scrP (p :: q :: r) = ([], false) := by rw [scrP, h]
theorem scrP_good {p q : List UInt8} {r : List (List UInt8)} {ev : Ev} (h : parseS p = some ev) : scrP (p :: q :: r) = (ev :: (scrP (q :: r)).1, (scrP (q :: r)).2) := by rw [scrP, h]
theorem index_no : ∀ (a : List UInt8), noNl a = true → Lib.index a [10] = -1
  | [], _ => by unfold Lib.index; rfl
  | c :: l, h => by
    unfold noNl at h
    rw [List.all_cons, Bool.and_eq_true] at h
    have ih := index_no l h.2
    have hc : c ≠ 10 := by simpa using h.1
    unfold Lib.index
    have hp : List.isPrefixOf [10] (c :: l) = false := by
      simp [List.isPrefixOf]; exact fun e => hc e.symm
    rw [hp, ih]; rfl
theorem cut_no (a : List UInt8) (h : noNl a = true) : Lib.cut a [10] = (a, [], false) := by
  unfold Lib.cut; rw [index_no a h, if_neg (by decide)]
theorem nl_parts : ∀ (l : List UInt8), noNl l = true ∨ ∃ a r, l = a ++ 10 :: r ∧ noNl a = true
  | [] => Or.inl rfl
  | c :: l => by
    by_cases hc : c = 10
    · subst hc
      exact Or.inr ⟨[], l, rfl, rfl⟩
    · have hb : (c != 10) = true := by simpa using hc
      rcases nl_parts l with h | ⟨a, r, rfl, h⟩
      · refine Or.inl ?_
        unfold noNl at h ⊢; rw [List.all_cons, h, hb]; rfl
      · refine Or.inr ⟨c :: a, r, rfl, ?_⟩
        unfold noNl at h ⊢; rw [List.all_cons, h, hb]; rfl
theorem splitn_none : ∀ (a cur : List UInt8), noNl a = true → splitS 10 cur a = [cur ++ a]
  | [], cur, _ => by simp [splitS]
  | c :: r, cur, h => by
    unfold noNl at h
    rw [List.all_cons, Bool.and_eq_true] at h
    rw [split_step_ne (by simpa using h.1), splitn_none r _ h.2]; simp
theorem splitn_at : ∀ (a cur r : List UInt8), noNl a = true → splitS 10 cur (a ++ 10 :: r) = (cur ++ a) :: splitS 10 [] r
  | [], cur, r, _ => by rw [List.nil_append, split_step_eq]; simp
  | c :: l, cur, r, h => by
    unfold noNl at h
    rw [List.all_cons, Bool.and_eq_true] at h
    rw [List.cons_append, split_step_ne (by simpa using h.1), splitn_at l _ r h.2]; simp
theorem scr_parts : ∀ (f : Nat) (s : List UInt8), s.length < f → scr f s = scrP (splitS 10 [] s)
  | 0, s, h => absurd h (Nat.not_lt_zero _)
  | f + 1, s, h => by
    rcases nl_parts s with hn | ⟨a, r, rfl, ha⟩
    · rw [splitn_none s [] hn]
      by_cases hs : s = []
      · subst hs; rw [scr_nil]; rfl
      · rw [scr_bad hs (Or.inr (by rw [cut_no s hn]))]
        simp [scrP, hs]
    · have hc := cut_nl a r ha
      have ih := scr_parts f r (by simp at h; omega)
      rw [splitn_at a [] r ha, List.nil_append]
      obtain ⟨p, fs, hp⟩ : ∃ p fs, splitS 10 [] r = p :: fs := by
        have := (parts_len 10 r []).1
        cases h : splitS 10 [] r with
        | nil => rw [h] at this; simp at this
        | cons p fs => exact ⟨p, fs, rfl⟩
      cases hq : parseS a with
      | none => rw [scr_bad (by simp) (Or.inl (by rw [hc]; exact hq)), hp, scrP_bad hq]
      | some ev =>
        rw [scr_good (by simp) (by rw [hc]; exact hq) (by rw [hc]), hc]
        rw [ih, hp, scrP_good hq]
theorem parts_noNl : ∀ (s cur : List UInt8), noNl cur = true → ∀ p ∈ splitS 10 cur s, noNl p = true
  | [], cur, hc, p, hp => by
    simp only [splitS, List.mem_singleton] at hp
    subst hp; exact hc
  | x :: r, cur, hc, p, hp => by
    by_cases h : x = 10
    · subst h
      rw [split_step_eq] at hp
      rcases List.mem_cons.1 hp with rfl | hp
      · exact hc
      · exact parts_noNl r [] rfl p hp
    · rw [split_step_ne h] at hp
      refine parts_noNl r _ (noNl_app hc ?_) p hp
      unfold noNl; rw [List.all_cons]; simp; exact h
/-- These lines, each with its newline. -/
def joinN (ps : List (List UInt8)) : List UInt8 := ps.flatMap fun p => p ++ [10]
theorem joinN_cons (p : List UInt8) (ps : List (List UInt8)) : joinN (p :: ps) = p ++ 10 :: joinN ps := by unfold joinN; rw [List.flatMap_cons]; simp
theorem joinN_snoc (ps : List (List UInt8)) (p : List UInt8) : joinN (ps ++ [p]) = joinN ps ++ (p ++ [10]) := by unfold joinN; rw [List.flatMap_append]; simp
theorem split_join : ∀ (ps : List (List UInt8)) (r : List UInt8), (∀ p ∈ ps, noNl p = true) → splitS 10 [] (joinN ps ++ r) = ps ++ splitS 10 [] r
  | [], r, _ => rfl
  | p :: ps, r, h => by
    rw [joinN_cons, List.append_assoc, List.cons_append, splitn_at p [] _ (h p (by simp)), split_join ps r (fun q hq => h q (by simp [hq]))]; rfl
/-- A script with a wrong line: the lines ahead of it, the line itself. -/
theorem scrP_wrong : ∀ (ps : List (List UInt8)) (evs : List Ev), ps ≠ [] → scrP ps = (evs, false) →
    ∃ h : evs.length < ps.length, (∀ r : List (List UInt8), r ≠ [] → scrP (ps.take evs.length ++ r) = (evs ++ (scrP r).1, (scrP r).2)) ∧ (evs.length = ps.length - 1 ∨ parseS (ps[evs.length]'h) = none)
  | [], _, h, _ => absurd rfl h
  | [p], evs, _, h => by
    have h1 : evs = [] := by
      have := congrArg Prod.fst h
      exact this.symm
    subst h1
    exact ⟨by simp, fun r _ => by simp, Or.inl rfl⟩
  | p :: q :: r, evs, _, h => by
    cases hp : parseS p with
    | none =>
      rw [scrP_bad hp] at h
      have h1 : evs = [] := (congrArg Prod.fst h).symm
      subst h1
      exact ⟨by simp, fun r _ => by simp, Or.inr hp⟩
    | some ev =>
      rw [scrP_good hp] at h
      have h1 : evs = ev :: (scrP (q :: r)).1 := (congrArg Prod.fst h).symm
      have h2 : (scrP (q :: r)).2 = false := congrArg Prod.snd h
      obtain ⟨hl, ha, hb⟩ := scrP_wrong (q :: r) (scrP (q :: r)).1 (by simp) (by rw [← h2])
      subst h1
      refine ⟨by simpa using hl, fun t ht => ?_, ?_⟩
      · rw [List.length_cons, List.take_succ_cons, List.cons_append]
        have ih := ha t ht
        have hne : (q :: r).take (scrP (q :: r)).1.length ++ t ≠ [] := by simp [ht]
        obtain ⟨y, ys, hy⟩ := List.exists_cons_of_ne_nil hne
        rw [hy, scrP_good hp, ← hy, ih]; rfl
      · rcases hb with hb | hb
        · left; simp at hb ⊢; omega
        · right; exact hb

/-- What both Script functions hand back. -/
def RsPost (s : List UInt8) (w : World) (e : Ending) (w' : World) : Prop :=
  ∃ (evs : List Ev) (ok : Bool) (a : Option Addr) (n c : Nat), scrP (splitS 10 [] s) = (evs, ok) ∧ e = .returned (.tuple #[.slice a n c, .int .i64 (evs.length : Nat), .int .i64 (if ok then 0 else 3)]) ∧ EvsAt w' (.slice a n c) (if ok then evs else []) ∧ n = (if ok then evs else []).length ∧ Below w.heap.size w w'
theorem RsPost.no {s : List UInt8} {w w' : World} {evs : List Ev} {n : Nat} (h : scrP (splitS 10 [] s) = (evs, false)) (hn : n = evs.length) (hb : Below w.heap.size w w') : RsPost s w (.returned (.tuple #[.slice none 0 0, .int .i64 (n : Int), .int .i64 3])) w' := by
  subst hn
  exact ⟨evs, false, none, 0, 0, h, rfl, (EvsOwn.nil _ 0).at, rfl, hb⟩
theorem RsPost.yes {s : List UInt8} {w w' : World} {evs : List Ev} {its : List (Ev × Value)} {a : Option Addr} {c b : Nat} (h : scrP (splitS 10 [] s) = (evs, true)) (hE : EvsOwn w' b (.slice a its.length c) its) (hi : its.map (·.1) = evs) (hb : Below w.heap.size w w') : RsPost s w (.returned (.tuple #[.slice a its.length c, .int .i64 (its.length : Int), .int .i64 0])) w' := by
  have hl : its.length = evs.length := by rw [← hi, List.length_map]
  exact ⟨evs, true, a, its.length, c, h, by rw [hl]; rfl, by rw [← hi]; exact hE.at, hl, hb⟩
/-- At each round's head. -/
def RsRel (ps : List (List UInt8)) (its : List (Ev × Value)) : Prop := its.length ≤ ps.length ∧ scrP ps = (its.map (·.1) ++ (scrP (ps.drop its.length)).1, (scrP (ps.drop its.length)).2)
theorem RsRel.start (ps : List (List UInt8)) : RsRel ps [] := ⟨Nat.zero_le _, by simp⟩
theorem RsRel.fin {ps : List (List UInt8)} {its : List (Ev × Value)} (h : RsRel ps its) (ok : Bool) (h2 : scrP (ps.drop its.length) = ([], ok)) : scrP ps = (its.map (·.1), ok) := by
  rw [h.2, h2]; simp
theorem RsRel.step {ps : List (List UInt8)} {its : List (Ev × Value)} {ev : Ev} {v : Value} (h : RsRel ps its) (hl : its.length + 1 < ps.length) (hp : parseS (ps[its.length]'(by omega)) = some ev) : RsRel ps (its ++ [(ev, v)]) := by
  refine ⟨by rw [List.length_append]; simp; omega, ?_⟩
  have hd : ps.drop its.length = ps[its.length]'(by omega) :: ps[its.length + 1] :: ps.drop (its.length + 2) := by rw [List.drop_eq_getElem_cons (show its.length < ps.length by omega), List.drop_eq_getElem_cons hl]
  have hd2 : ps.drop (its.length + 1) = ps[its.length + 1] :: ps.drop (its.length + 2) := List.drop_eq_getElem_cons hl
  rw [h.2, hd, scrP_good hp, List.length_append, List.length_singleton, hd2]
  simp

set_option maxHeartbeats 2000000 in
set_option maxRecDepth 100000 in
theorem RScript_any (s : List UInt8) (w : World) (hs : s.length ≤ 100000) :
    Calls Tryd.prog 21 #[.string (B s)] w (RsPost s w) := by
  obtain ⟨i0, hi, hz0, hz1, hz2⟩ := info_parts infoEv
  have CS := fun W => Lib.hid (Split_any (B s) 10 W (by rw [size_B]; omega))
  obtain ⟨ps, hps⟩ : ∃ ps, ps = splitS 10 [] s := ⟨_, rfl⟩
  have Hps := Lib.hid hps
  have hpl : ps.length ≤ 100001 := by have := (parts_len 10 s []).2; rw [← hps] at this; omega
  have Hsm := Lib.hid (show ∀ p ∈ ps, p.length ≤ 100000 from fun p hp => by
    have := parts_small 10 s [] p (by rw [← hps]; exact hp)
    simp at this; omega)
  clear hps
  go_enter Tryd.func21, Tryd.ntmps21
  go_wp2_with fail
  refine ((CS _).out).mono ?_
  rintro e x1 ⟨v, rfl, hO, hne, hb⟩
  rw [toList_B, ← Hps.out] at hO
  obtain ⟨g, c, rfl, hc1, hc2⟩ := hO.ptr hne
  have HF1 := Lib.hid hO.at
  have HB1 := Lib.hid hb
  clear CS hO hne hb
  go_wp2_with fail
  have M0 := Lib.hid (show EvsOwn (x1.alloc (.cells #[] 31)) x1.heap.size (.slice (some ⟨x1.heap.size, 0, none⟩) 0 0) [] from ⟨World.ownsRow_lit x1 #[] 0 (Nat.le_refl _) (by decide) rfl, fun _ h => by cases h⟩)
  have H0 := Lib.hid (below_alloc x1 (.cells #[] 31))
  go_loopw [6, 7] (fun v i wr => ∃ (its : List (Ev × Value)), i = .int .i64 (its.length : Nat) ∧ EvsOwn wr x1.heap.size v its ∧ RsRel ps its ∧ Below x1.heap.size x1 wr) (fun _ i _ => ps.length - (intOf i).toNat)
  case atStart => exact ⟨[], rfl, M0.out, RsRel.start ps, H0.out⟩
  case round =>
    obtain ⟨its, rfl, hE, hR, hb⟩ := hrel
    obtain ⟨va, vc, rfl⟩ := own_shape hE.1
    have HE := Lib.hid hE
    have HR := Lib.hid hR
    have HB := Lib.hid hb
    clear hE hR M0 H0
    by_cases hlt : its.length < ps.length
    · have hk0 : (0 : Int) ≤ (its.length : Int) := by omega
      have hk1 : (its.length : Int) < (ps.length : Int) := by omega
      have q2 : wr.cell? ⟨g, its.length, none⟩ = some (.string (B ps[its.length])) := by
        obtain ⟨a0, c0, hv, hc⟩ := HF1.out.on hb
        obtain ⟨b0, off, ha, _, hc⟩ := hc (by omega)
        obtain ⟨h1, -⟩ : some (⟨g, 0, none⟩ : Addr) = a0 ∧ c = c0 := by simpa using hv
        rw [← h1] at ha
        obtain ⟨rfl, rfl⟩ : g = b0 ∧ 0 = off := by simpa using ha
        have := hc its.length hlt
        rwa [Nat.zero_add] at this
      have Hpz := Lib.hid (Hsm.out _ (List.getElem_mem hlt))
      have CP := fun W => Lib.hid (RParse_any ps[its.length] W Hpz.out)
      unfold RpPost at CP
      clear hb
      by_cases hlast : its.length + 1 = ps.length
      · have hll : ((its.length : Int) == (ps.length : Int) - 1) = true := by rw [beq_iff_eq]; omega
        have hd : ps.drop its.length = [ps[its.length]] := by
          rw [List.drop_eq_getElem_cons hlt, List.drop_eq_nil_of_le (by omega)]
        by_cases hpe : ps[its.length] = []
        · have Hfin := Lib.hid (HR.out.fin true (by rw [hd, hpe]; rfl))
          rw [hpe] at q2 CP
          have hem := isEmpty_nil
          clear hpe hd CP
          go_wp2_with fail
          go_ret3
          have h := Hps.out ▸ Hfin.out
          exact RsPost.yes h HE.out rfl (HB1.out.trans (HB.out.mono HB1.out.size))
        · have hem := isEmpty_cons hpe
          have Hfin := Lib.hid (HR.out.fin false (by rw [hd]; simp [scrP, hpe]))
          clear hpe hd
          go_wp2_with fail
          refine ((CP _).out).mono ?_
          rintro e x3 ⟨a1, c1, rfl, hO, hb3⟩
          have HB3 := Lib.hid ((HB.out.trans (hb3.mono HB.out.size)))
          generalize evOr (parseS ps[its.length]) = ev at *
          generalize (if (parseS ps[its.length]).isSome = true then (0 : Int) else 3) = r at *
          have HB4 := Lib.hid (HB3.out.trans ((below_alloc x3 (.cells #[.int .i64 ev.kind, .string (B ev.keys), .slice a1 ev.p.length c1, .string (B ev.text), .int .i64 ev.n, .int .i64 ev.l] 31)).mono HB3.out.size))
          clear hO hb3 CP
          by_cases hr : r = 0
          · subst hr
            go_wp2_with fail
            go_ret3
            have h := Hps.out ▸ Hfin.out
            exact RsPost.no h (by simp) (HB1.out.trans (HB4.out.mono HB1.out.size))
          · have hrn : (r != 0) = true := by simpa using hr
            clear hr
            go_wp2_with fail
            go_ret3
            have h := Hps.out ▸ Hfin.out
            exact RsPost.no h (by simp) (HB1.out.trans (HB4.out.mono HB1.out.size))
      · have hll : ((its.length : Int) == (ps.length : Int) - 1) = false := by rw [beq_eq_false_iff_ne]; omega
        have hl1 : its.length + 1 < ps.length := by omega
        have hd : ps.drop its.length = ps[its.length] :: ps[its.length + 1] :: ps.drop (its.length + 2) := by rw [List.drop_eq_getElem_cons hlt, List.drop_eq_getElem_cons hl1]
        have Hbad := Lib.hid (fun (h : parseS ps[its.length] = none) => HR.out.fin false (by rw [hd, scrP_bad h]))
        have Hgood := Lib.hid (fun (ev : Ev) (v : Value) (h : parseS ps[its.length] = some ev) => HR.out.step (ev := ev) (v := v) hl1 h)
        clear hd
        go_wp2_with fail
        refine ((CP _).out).mono ?_
        rintro e x3 ⟨a1, c1, rfl, hO, hb3⟩
        generalize hev : evOr (parseS ps[its.length]) = ev at *
        generalize hrr : (if (parseS ps[its.length]).isSome = true then (0 : Int) else 3) = r at *
        have HB3 := Lib.hid ((HB.out.trans (hb3.mono HB.out.size)))
        have HB4 := Lib.hid (HB3.out.trans ((below_alloc x3 (.cells #[.int .i64 ev.kind, .string (B ev.keys), .slice a1 ev.p.length c1, .string (B ev.text), .int .i64 ev.n, .int .i64 ev.l] 31)).mono HB3.out.size))
        by_cases hr : r = 0
        · have hp : parseS ps[its.length] = some ev := by
            cases hq : parseS ps[its.length] with
            | none => rw [hq] at hrr; simp at hrr; omega
            | some x => rw [hq] at hev; exact congrArg some hev
          have HR2 := Lib.hid (Hgood.out ev (.slice a1 ev.p.length c1) hp)
          have hal := below_alloc x3 (.cells #[.int .i64 ev.kind, .string (B ev.keys), .slice a1 ev.p.length c1, .string (B ev.text), .int .i64 ev.n, .int .i64 ev.l] 31)
          have E1 := EvBlock.new x3 (.int .i64 ev.kind) (.string (B ev.keys)) (.slice a1 ev.p.length c1) (.string (B ev.text)) (.int .i64 ev.n) (.int .i64 ev.l)
          have HE4 := Lib.hid ((HE.out.later hb3).later hal)
          have HO4 := Lib.hid ((show OwnsP x3 x1.heap.size (.slice a1 ev.p.length c1) ev.p from World.ownsRow.mono hO HB.out.size).later hal)
          clear hp hev hrr hO hb3 hal Hbad Hgood CP
          subst hr
          obtain ⟨g0, g1, g2, g3, g4, g5⟩ := E1.cells
          clear E1
          generalize hx4 : x3.alloc (.cells #[.int .i64 ev.kind, .string (B ev.keys), .slice a1 ev.p.length c1, .string (B ev.text), .int .i64 ev.n, .int .i64 ev.l] 31) = x4 at *
          have hal := below_alloc x4 (.cells #[.int .i64 ev.kind, .string (B ev.keys), .slice a1 ev.p.length c1, .string (B ev.text), .int .i64 ev.n, .int .i64 ev.l] 31)
          have HE5 := Lib.hid (HE4.out.later hal)
          have HO5 := Lib.hid (HO4.out.later hal)
          have HB5 := Lib.hid (HB4.out.trans (hal.mono HB4.out.size))
          have hown := HE5.out.1
          have hmx : its.length + 1 ≤ maxLen := by unfold maxLen; omega
          have hby : (its.length + 1) * 80 ≤ 140737488355328 := by omega
          have hba : x1.heap.size ≤ (x4.alloc (.cells #[.int .i64 ev.kind, .string (B ev.keys), .slice a1 ev.p.length c1, .string (B ev.text), .int .i64 ev.n, .int .i64 ev.l] 31)).heap.size := HB5.out.size
          have hnews := Lib.hid (World.news_of_block (w := x4.alloc (.cells #[.int .i64 ev.kind, .string (B ev.keys), .slice a1 ev.p.length c1, .string (B ev.text), .int .i64 ev.n, .int .i64 ev.l] 31)) (B := x4.heap.size) (cs := (itCells (ev, .slice a1 ev.p.length c1)).toArray) (t := 31) (fr := (0, 0)) (heap_alloc_new x4 (.cells #[.int .i64 ev.kind, .string (B ev.keys), .slice a1 ev.p.length c1, .string (B ev.text), .int .i64 ev.n, .int .i64 ev.l] 31)))
          have hob := Lib.hid (own_block hown)
          clear hal
          go_wp2_with (first
            | (at_builtin; refine wpList_append_own _ rfl _ _ 48 rfl x1.heap.size 31 i0 (.agg #[.int .i64 0, .string ⟨#[]⟩, .slice none 0 0, .string ⟨#[]⟩, .int .i64 0, .int .i64 0]) 6 80 Tryd.underlying48 hi hz0 hz1 hz2 rfl (by decide) _ _ _ rfl hown ⟨x4.heap.size, 0, none⟩ 1 1 (itCells (ev, .slice a1 ev.p.length c1)) rfl rfl hnews.out (by simp [itCells, Value.oneCell']) hmx hby hba ?_; intro v' w6 hown6 hgrow6 hnn)
            | fail)
          have hE6 := Lib.hid (HE5.out.step (Below.refl _ _) HO5.out hown6 rfl hown hgrow6)
          have hb6 := Lib.hid (HB5.out.grown hgrow6 HB5.out.size (fun k hk => hob.out k hk))
          go_roundw
          case rel => exact ⟨its ++ [(ev, .slice a1 ev.p.length c1)], by rw [List.length_append]; go_num, hE6.out, HR2.out, hb6.out⟩
          case measure => simp [intOf]; omega
        · have hrn : (r != 0) = true := by simpa using hr
          have hp : parseS ps[its.length] = none := by
            cases hq : parseS ps[its.length] with
            | none => rfl
            | some x => rw [hq] at hrr; simp at hrr; exact absurd hrr.symm hr
          have Hfin := Lib.hid (Hbad.out hp)
          clear hr hp hev hrr hO hb3 Hbad Hgood CP
          go_wp2_with fail
          go_ret3
          have h := Hps.out ▸ Hfin.out
          exact RsPost.no h (by simp) (HB1.out.trans (HB4.out.mono HB1.out.size))
    · have hk1 : ¬ (its.length : Int) < (ps.length : Int) := by omega
      have Hfin := Lib.hid (HR.out.fin true (by rw [List.drop_eq_nil_of_le (by omega)]; rfl))
      go_wp2_with fail
      go_ret3
      have h := Hps.out ▸ Hfin.out
      exact RsPost.yes h HE.out rfl (HB1.out.trans (HB.out.mono HB1.out.size))
end Go.Proofs.YtcbboegjegobeaaDoor
