/-
  event.Script: the events of a script.
-/
import Derived.Test.YtmioocmjlbjfpaaDoorV
namespace Go.Proofs.YtmioocmjlbjfpaaDoor
open Go.RowKit
open Pl

theorem infoEv : (Tryd.prog.info? 31).map (fun i => (i.zero, i.size, i.bytes)) = some (some (.agg #[.int .i64 0, .string ⟨#[]⟩, .slice none 0 0, .string ⟨#[]⟩, .int .i64 0, .int .i64 0]), 6, 80) := by kernel_rfl
def MaxVar (w : World) (m : Int) : Prop := w.cell? ⟨0, 0, none⟩ = some (.int .i64 m)
theorem MaxVar.below {w w' : World} {m : Int} {B : Nat} (h : MaxVar w m) (hb : Below B w w') (hB : 0 < B) : MaxVar w' m := (hb.cell (p := ⟨0, 0, none⟩) hB).trans h
theorem cut_any (l : List UInt8) (m : Int) (w : World) (hs : l.length < 4294967281) (hm : MaxVar w m) :
    Calls Tryd.prog 25 #[.string (B l), .string ⟨#[10]⟩] w fun e w' => e = .returned (.tuple #[.string (B (Lib.cut l [10]).1), .string (B (Lib.cut l [10]).2.1), .bool (Lib.cut l [10]).2.2]) ∧ ∃ n, w' = w.drewN n :=
  Tryd.strings_Cut (B l) ⟨#[10]⟩ m w (by rw [size_B]; exact hs) hm
theorem cut_shorter {l : List UInt8} (h : (Lib.cut l [10]).2.2 = true) (hl : l ≠ []) : (Lib.cut l [10]).2.1.length < l.length := by
  unfold Lib.cut at h ⊢
  split at h
  · rename_i h0
    rw [if_pos h0]
    have : 0 < l.length := by cases l with
      | nil => exact absurd rfl hl
      | cons a r => simp
    simp; omega
  · cases h
theorem cut_line (l : List UInt8) : (Lib.cut l [10]).1.length ≤ l.length := by
  unfold Lib.cut
  split
  · simp; omega
  · simp

/-- The events of the lines ahead of the first wrong one, and whether there is none; at most so many lines as the first number says. -/
def scr : Nat → List UInt8 → List Ev × Bool
  | 0, _ => ([], false)
  | f + 1, l => if l = [] then ([], true) else match parseS (Lib.cut l [10]).1 with
    | none => ([], false)
    | some ev => if (Lib.cut l [10]).2.2 then (ev :: (scr f (Lib.cut l [10]).2.1).1, (scr f (Lib.cut l [10]).2.1).2) else ([], false)
theorem scr_nil (f : Nat) : scr (f + 1) [] = ([], true) := by simp [scr]
theorem scr_bad {f : Nat} {l : List UInt8} (hl : l ≠ []) (h : parseS (Lib.cut l [10]).1 = none ∨ (Lib.cut l [10]).2.2 = false) : scr (f + 1) l = ([], false) := by
  rw [scr, if_neg hl]
  cases hp : parseS (Lib.cut l [10]).1 with
  | none => rfl
  | some ev =>
    rcases h with h | h
    · rw [hp] at h; cases h
    · simp [h]
theorem scr_good {f : Nat} {l : List UInt8} {ev : Ev} (hl : l ≠ []) (hp : parseS (Lib.cut l [10]).1 = some ev) (hc : (Lib.cut l [10]).2.2 = true) : scr (f + 1) l = (ev :: (scr f (Lib.cut l [10]).2.1).1, (scr f (Lib.cut l [10]).2.1).2) := by
  rw [scr, if_neg hl, hp]; simp [hc]
/-- At each round's head: what has been read, what is left. -/
def ScRel (F : Nat) (s : List UInt8) (evs : List Ev) (l : List UInt8) : Prop := ∃ f, l.length < f ∧ evs.length + l.length ≤ s.length ∧ scr F s = (evs ++ (scr f l).1, (scr f l).2)
theorem ScRel.start (s : List UInt8) : ScRel (s.length + 1) s [] s := ⟨s.length + 1, by omega, by simp, by simp⟩
theorem ScRel.fin {F : Nat} {s : List UInt8} {evs : List Ev} (h : ScRel F s evs []) : scr F s = (evs, true) := by
  obtain ⟨f, hf, _, h⟩ := h
  obtain ⟨g, rfl⟩ : ∃ g, f = g + 1 := ⟨f - 1, by simp at hf; omega⟩
  rw [h, scr_nil]; simp
theorem ScRel.bad {F : Nat} {s : List UInt8} {evs : List Ev} {l : List UInt8} (h : ScRel F s evs l) (hl : l ≠ []) (hb : parseS (Lib.cut l [10]).1 = none ∨ (Lib.cut l [10]).2.2 = false) : scr F s = (evs, false) := by
  obtain ⟨f, hf, _, h⟩ := h
  obtain ⟨g, rfl⟩ : ∃ g, f = g + 1 := ⟨f - 1, by omega⟩
  rw [h, scr_bad hl hb]; simp
theorem ScRel.step {F : Nat} {s : List UInt8} {evs : List Ev} {l : List UInt8} {ev : Ev} (h : ScRel F s evs l) (hl : l ≠ []) (hp : parseS (Lib.cut l [10]).1 = some ev) (hc : (Lib.cut l [10]).2.2 = true) : ScRel F s (evs ++ [ev]) (Lib.cut l [10]).2.1 := by
  obtain ⟨f, hf, hle, h⟩ := h
  obtain ⟨g, rfl⟩ : ∃ g, f = g + 1 := ⟨f - 1, by omega⟩
  have hs := cut_shorter hc hl
  refine ⟨g, by omega, by simp; omega, ?_⟩
  rw [h, scr_good hl hp hc]; simp

def itCells (it : Ev × Value) : List Value := [.int .i64 it.1.kind, .string (B it.1.keys), it.2, .string (B it.1.text), .int .i64 it.1.n, .int .i64 it.1.l]
/-- The slice v is a list of events in memory from block number base on. -/
def EvsOwn (W : World) (base : Nat) (v : Value) (its : List (Ev × Value)) : Prop :=
  W.ownsRow base 31 6 v its.length (its.flatMap itCells) ∧ ∀ it ∈ its, OwnsP W base it.2 it.1.p
theorem EvsOwn.nil (W : World) (base : Nat) : EvsOwn W base (.slice none 0 0) [] := ⟨⟨rfl, Or.inl ⟨rfl, rfl⟩⟩, fun _ h => by cases h⟩
theorem own_apart {W W' : World} {b b' n : Nat} {v pv : Value} {xs : List Value} {ps : List (Int × Int)} (hv : W.ownsRow b 31 6 v n xs) (hp : OwnsP W b' pv ps) (hg : W.grownBy W' v.ownBlock) : OwnsP W' b' pv ps := by
  refine World.ownsRow.kept hp hg ?_
  rcases hp.2 with ⟨rfl, _⟩ | ⟨g, cap, cur, rfl, _, hh, _⟩
  · exact Or.inl rfl
  · refine Or.inr fun e => ?_
    rcases hv.2 with ⟨rfl, _⟩ | ⟨g2, cap2, cur2, rfl, _, hh2, _⟩
    · cases e
    · have e' : g = g2 := by simpa [Value.ownBlock] using e
      subst e'
      rw [hh] at hh2
      have h3 := congrArg (fun o : Option Obj => match o with | some (.cells _ t _) => t | _ => 0) hh2
      exact absurd (show (40 : Nat) = 31 from h3) (by decide)
theorem EvsOwn.step {W W1 W2 : World} {base n : Nat} {v v' : Value} {its : List (Ev × Value)} {ev : Ev} {pv : Value} (h : EvsOwn W base v its) (h01 : Below W.heap.size W W1) (hp : OwnsP W1 base pv ev.p)
    (hown : W2.ownsRow base 31 6 v' n (its.flatMap itCells ++ itCells (ev, pv))) (hn : n = its.length + 1) (hv1 : W1.ownsRow base 31 6 v its.length (its.flatMap itCells)) (hg : W1.grownBy W2 v.ownBlock) : EvsOwn W2 base v' (its ++ [(ev, pv)]) := by
  subst hn
  refine ⟨by rw [List.length_append, List.flatMap_append]; simpa using hown, fun it hit => ?_⟩
  rw [List.mem_append, List.mem_singleton] at hit
  rcases hit with hit | rfl
  · exact own_apart hv1 ((h.2 it hit).later h01) hg
  · exact own_apart hv1 hp hg
theorem EvsOwn.base {W : World} {b b' : Nat} {v : Value} {its : List (Ev × Value)} (h : EvsOwn W b v its) (hb : b' ≤ b) : EvsOwn W b' v its := by
  refine ⟨⟨h.1.1, ?_⟩, fun it hit => (h.2 it hit).base hb⟩
  rcases h.1.2 with h | ⟨g, cap, cur, hv, hg, r⟩
  · exact Or.inl h
  · exact Or.inr ⟨g, cap, cur, hv, Nat.le_trans hb hg, r⟩
theorem EvsOwn.later {W W' : World} {b : Nat} {v : Value} {its : List (Ev × Value)} (h : EvsOwn W b v its) (hb : Below W.heap.size W W') : EvsOwn W' b v its := by
  refine ⟨⟨h.1.1, ?_⟩, fun it hit => (h.2 it hit).later hb⟩
  rcases h.1.2 with h | ⟨g, cap, cur, hv, hgb, hg, r⟩
  · exact Or.inl h
  · exact Or.inr ⟨g, cap, cur, hv, hgb, by rw [hb.block g (lt_of_heap hg)]; exact hg, r⟩
theorem EvsOwn.drewN {W : World} {b : Nat} {v : Value} {its : List (Ev × Value)} (h : EvsOwn W b v its) (k : Nat) : EvsOwn (W.drewN k) b v its := h
/-- What Script hands back. -/
def ScPost (F : Nat) (s : List UInt8) (w : World) (e : Ending) (w' : World) : Prop :=
  (∃ v its, e = .returned (.tuple #[v, .int .i64 ((scr F s).1.length : Nat), .int .i64 (if (scr F s).2 then 0 else 3)]) ∧ EvsOwn w' w.heap.size v its ∧ its.map (·.1) = (if (scr F s).2 then (scr F s).1 else [])) ∧ Below w.heap.size w w'
theorem ScPost.yes {F : Nat} {s : List UInt8} {w w' : World} {evs : List Ev} {v : Value} {its : List (Ev × Value)} {n : Nat} (h : scr F s = (evs, true)) (hn : n = evs.length) (ho : EvsOwn w' w.heap.size v its) (hi : its.map (·.1) = evs) (hb : Below w.heap.size w w') : ScPost F s w (.returned (.tuple #[v, .int .i64 (n : Int), .int .i64 0])) w' :=
  ⟨⟨v, its, by rw [h, hn]; rfl, ho, by rw [h]; exact hi⟩, hb⟩
theorem ScPost.no {F : Nat} {s : List UInt8} {w w' : World} {evs : List Ev} {n : Nat} (h : scr F s = (evs, false)) (hn : n = evs.length) (hb : Below w.heap.size w w') : ScPost F s w (.returned (.tuple #[.slice none 0 0, .int .i64 (n : Int), .int .i64 3])) w' :=
  ⟨⟨_, [], by rw [h, hn]; rfl, EvsOwn.nil _ _, by rw [h]; rfl⟩, hb⟩
theorem isEmpty_ne {l : List UInt8} (h : l ≠ []) : (!(B l).toList.isEmpty) = true := by rw [isEmpty_cons h]; rfl

set_option maxHeartbeats 1000000 in
set_option maxRecDepth 100000 in
theorem Script_any (s : List UInt8) (m : Int) (w : World) (hs : s.length < 4294967281) (hm : MaxVar w m) (hw0 : 0 < w.heap.size) :
    Calls Tryd.prog 11 #[.string (B s)] w (ScPost (s.length + 1) s w) := by
  obtain ⟨i0, hi, hz0, hz1, hz2⟩ := info_parts infoEv
  have C1 := fun w => Lib.hid (forms_any w)
  have HM := Lib.hid hm
  have Hw0 := Lib.hid hw0
  clear hm hw0
  go_enter Tryd.func11, Tryd.ntmps11
  go_wp2_with fail
  refine ((C1 _).out).mono ?_
  rintro e x1 ⟨rfl, hTab⟩
  have hT1 := Lib.hid hTab.at
  have hb1 := Lib.hid hTab.2.1
  have hl1 : w.heap.size < x1.heap.size := hTab.2.2
  clear C1 hTab
  go_wp2_with fail
  go_loopw [0, 6] (fun r v wr => ∃ (its : List (Ev × Value)) (l : List UInt8), r = .string (B l) ∧ EvsOwn wr (w.heap.size + 1) v its ∧ TabAt wr w.heap.size ∧ Below w.heap.size w wr ∧ ScRel (s.length + 1) s (its.map (·.1)) l) (fun r _ _ => strLen r)
  case atStart => exact ⟨[], s, rfl, EvsOwn.nil _ _, hT1.out, hb1.out, ScRel.start s⟩
  case round =>
    obtain ⟨its, l, rfl, hE, hT, hb, hR⟩ := hrel
    obtain ⟨va, vc, rfl⟩ := own_shape hE.1
    have hRl := Lib.hid (show its.length + l.length ≤ s.length by obtain ⟨f, _, h, _⟩ := hR; simpa using h)
    have HR := Lib.hid hR
    have HE := Lib.hid hE
    have hb' := Lib.hid hb
    have hT' := Lib.hid hT
    clear hR hE
    by_cases hl0 : l = []
    · subst hl0
      have H0 := isEmpty_nil
      have He := Lib.hid HR.out.fin
      go_wp2_with fail
      go_ret3
      exact ScPost.yes He.out (by simp) (HE.out.base (by omega)) rfl hb
    · have H0 := isEmpty_cons hl0
      have hll : l.length < 4294967281 := by have := hRl.out; omega
      have C2 := fun w hm => Lib.hid (cut_any l m w hll hm)
      have hln : (Lib.cut l [10]).1.length ≤ maxLen := by have := cut_line l; unfold maxLen; omega
      have C3 := fun W hT => Lib.hid (parse_any w.heap.size (Lib.cut l [10]).1 W hT hln)
      have HRb := Lib.hid (fun h => HR.out.bad hl0 h)
      have HRg := Lib.hid (fun (ev : Ev) hp hc => HR.out.step (ev := ev) hl0 hp hc)
      have HRs := Lib.hid (fun hc => cut_shorter (l := l) hc hl0)
      have hm2 := Lib.hid ((HM.out.below hb Hw0.out).below (Below.refl wr.heap.size wr) (Nat.lt_of_lt_of_le Hw0.out hb.size))
      clear hl0 hT hb HR
      generalize Lib.cut l [10] = z at *
      obtain ⟨line, rest, found⟩ := z
      dsimp only at C2 C3 HRb HRg HRs
      go_wp2_with fail
      refine ((C2 _ hm2.out).out).mono ?_
      rintro e x2 ⟨rfl, k2, rfl⟩
      have hT2 := Lib.hid (hT'.out.drewN k2)
      have hE2 := Lib.hid (HE.out.drewN k2)
      have hb2 := Lib.hid (below_drewN hb'.out k2)
      clear C2 hm2 HE hb' hT'
      generalize wr.drewN k2 = x2 at *
      cases hp : parseS line with
      | none =>
        have He := Lib.hid (HRb.out (Or.inl hp))
        rw [hp] at C3
        clear hp HRb HRg HRs
        go_wp2_with fail
        refine ((C3 _ hT2.out).out).mono ?_
        rintro e x3 ⟨rfl, hb3⟩
        have hb3' := Lib.hid ((hb2.out.trans (hb3.mono hb2.out.size)).alloc (Nat.le_trans hb2.out.size hb3.size) (.cells #[.int .i64 0, .string ⟨#[]⟩, .slice none 0 0, .string ⟨#[]⟩, .int .i64 0, .int .i64 0] 31))
        have hz : evVal Ev.zero (.slice none 0 0) = .agg #[.int .i64 0, .string ⟨#[]⟩, .slice none 0 0, .string ⟨#[]⟩, .int .i64 0, .int .i64 0] := rfl
        rw [hz]
        clear hz C3 hb3 hb2
        go_wp2_with fail
        go_ret3
        exact ScPost.no He.out (by simp) hb3'.out
      | some ev =>
        rw [hp] at C3
        cases found with
        | false =>
          have He := Lib.hid (HRb.out (Or.inr rfl))
          clear hp HRb HRg HRs
          go_wp2_with fail
          refine ((C3 _ hT2.out).out).mono ?_
          rintro e x3 ⟨⟨pv, rfl, hO⟩, hb3⟩
          obtain ⟨pa, pc, rfl⟩ := own_form hO
          have hb3' := Lib.hid ((hb2.out.trans (hb3.mono hb2.out.size)).alloc (Nat.le_trans hb2.out.size hb3.size) (.cells #[.int .i64 ev.kind, .string (B ev.keys), .slice pa ev.p.length pc, .string (B ev.text), .int .i64 ev.n, .int .i64 ev.l] 31))
          clear C3 hb3 hb2 hO
          unfold evVal
          go_wp2_with fail
          go_ret3
          exact ScPost.no He.out (by simp) hb3'.out
        | true =>
          have He := Lib.hid (HRg.out ev hp rfl)
          have Hsh := Lib.hid (HRs.out rfl)
          clear hp HRb HRg HRs
          go_wp2_with fail
          refine ((C3 _ hT2.out).out).mono ?_
          rintro e x3 ⟨⟨pv, rfl, hO⟩, hb3⟩
          obtain ⟨pa, pc, rfl⟩ := own_form hO
          have hle : w.heap.size + 1 ≤ x2.heap.size := hT2.out.lt
          have hO3 := hO.base hle
          have hL3 := EvBlock.new x3 (.int .i64 ev.kind) (.string (B ev.keys)) (.slice pa ev.p.length pc) (.string (B ev.text)) (.int .i64 ev.n) (.int .i64 ev.l)
          have hb3' := Lib.hid ((hb2.out.trans (hb3.mono hb2.out.size)).alloc (Nat.le_trans hb2.out.size hb3.size) (.cells #[.int .i64 ev.kind, .string (B ev.keys), .slice pa ev.p.length pc, .string (B ev.text), .int .i64 ev.n, .int .i64 ev.l] 31))
          have hE3 := Lib.hid ((hE2.out.later hb3).later ((Below.refl _ _).alloc (Nat.le_refl _) (.cells #[.int .i64 ev.kind, .string (B ev.keys), .slice pa ev.p.length pc, .string (B ev.text), .int .i64 ev.n, .int .i64 ev.l] 31)))
          have hO4 := Lib.hid (hO3.later ((Below.refl _ _).alloc (Nat.le_refl _) (.cells #[.int .i64 ev.kind, .string (B ev.keys), .slice pa ev.p.length pc, .string (B ev.text), .int .i64 ev.n, .int .i64 ev.l] 31)))
          have hT3 := Lib.hid ((hT2.out.below hb3).alloc (.cells #[.int .i64 ev.kind, .string (B ev.keys), .slice pa ev.p.length pc, .string (B ev.text), .int .i64 ev.n, .int .i64 ev.l] 31))
          obtain ⟨g0, g1, g2, g3, g4, g5⟩ := hL3.cells
          clear C3 hb3 hb2 hO hO3 hE2 hL3
          have hbe := Lib.hid ((Below.refl (x3.alloc (.cells #[.int .i64 ev.kind, .string (B ev.keys), .slice pa ev.p.length pc, .string (B ev.text), .int .i64 ev.n, .int .i64 ev.l] 31)).heap.size (x3.alloc (.cells #[.int .i64 ev.kind, .string (B ev.keys), .slice pa ev.p.length pc, .string (B ev.text), .int .i64 ev.n, .int .i64 ev.l] 31))).alloc (Nat.le_refl _) (.cells #[.int .i64 ev.kind, .string (B ev.keys), .slice pa ev.p.length pc, .string (B ev.text), .int .i64 ev.n, .int .i64 ev.l] 31))
          have hE5 := Lib.hid (hE3.out.later hbe.out)
          have hO5 := Lib.hid (hO4.out.later hbe.out)
          have hT5 := Lib.hid (hT3.out.alloc (.cells #[.int .i64 ev.kind, .string (B ev.keys), .slice pa ev.p.length pc, .string (B ev.text), .int .i64 ev.n, .int .i64 ev.l] 31))
          have hb5 := Lib.hid (hb3'.out.alloc hb3'.out.size (.cells #[.int .i64 ev.kind, .string (B ev.keys), .slice pa ev.p.length pc, .string (B ev.text), .int .i64 ev.n, .int .i64 ev.l] 31))
          have hown5 := hE5.out.1
          have hmx : its.length + 1 ≤ maxLen := by have := hRl.out; unfold maxLen; omega
          have hby : (its.length + 1) * 80 ≤ 140737488355328 := by have := hRl.out; omega
          have hba : w.heap.size + 1 ≤ ((x3.alloc (.cells #[.int .i64 ev.kind, .string (B ev.keys), .slice pa ev.p.length pc, .string (B ev.text), .int .i64 ev.n, .int .i64 ev.l] 31)).alloc (.cells #[.int .i64 ev.kind, .string (B ev.keys), .slice pa ev.p.length pc, .string (B ev.text), .int .i64 ev.n, .int .i64 ev.l] 31)).heap.size := hT5.out.lt
          have hnews := Lib.hid (World.news_of_block (w := (x3.alloc (.cells #[.int .i64 ev.kind, .string (B ev.keys), .slice pa ev.p.length pc, .string (B ev.text), .int .i64 ev.n, .int .i64 ev.l] 31)).alloc (.cells #[.int .i64 ev.kind, .string (B ev.keys), .slice pa ev.p.length pc, .string (B ev.text), .int .i64 ev.n, .int .i64 ev.l] 31)) (B := x3.heap.size + 1) (cs := (itCells (ev, .slice pa ev.p.length pc)).toArray) (t := 31) (fr := (0, 0)) (by have := heap_alloc_new (x3.alloc (.cells #[.int .i64 ev.kind, .string (B ev.keys), .slice pa ev.p.length pc, .string (B ev.text), .int .i64 ev.n, .int .i64 ev.l] 31)) (.cells #[.int .i64 ev.kind, .string (B ev.keys), .slice pa ev.p.length pc, .string (B ev.text), .int .i64 ev.n, .int .i64 ev.l] 31); rw [World.size_alloc] at this; exact this))
          have hob := Lib.hid (own_block hown5)
          clear hE3 hO4 hT3 hbe
          unfold evVal
          go_wp2_with (first
            | (at_builtin; refine wpList_append_own _ rfl _ _ 41 rfl (w.heap.size + 1) 31 i0 (.agg #[.int .i64 0, .string ⟨#[]⟩, .slice none 0 0, .string ⟨#[]⟩, .int .i64 0, .int .i64 0]) 6 80 Tryd.underlying41 hi hz0 hz1 hz2 rfl (by decide) _ _ _ rfl hown5 ⟨x3.heap.size + 1, 0, none⟩ 1 1 (itCells (ev, .slice pa ev.p.length pc)) rfl rfl hnews.out (by simp [itCells, Value.oneCell']) hmx hby hba ?_; intro v' w6 hown6 hgrow6 _)
            | fail)
          have hE6 := Lib.hid (hE5.out.step (Below.refl _ _) hO5.out hown6 rfl hown5 hgrow6)
          have hb6 := Lib.hid (hb5.out.grown hgrow6 hb5.out.size (fun k hk => by have := hob.out k hk; omega))
          have hT6 : Hid (TabAt w6 w.heap.size) := by
            have h1 := hT5.out
            have h2 : ((x3.alloc (.cells #[.int .i64 ev.kind, .string (B ev.keys), .slice pa ev.p.length pc, .string (B ev.text), .int .i64 ev.n, .int .i64 ev.l] 31)).alloc (.cells #[.int .i64 ev.kind, .string (B ev.keys), .slice pa ev.p.length pc, .string (B ev.text), .int .i64 ev.n, .int .i64 ev.l] 31)).heap.size ≤ _ := hgrow6.size
            unfold TabAt at h1 ⊢
            rw [hgrow6.block w.heap.size (by omega) (fun e => by have := hob.out _ e.symm; omega)]; exact h1
          go_roundw
          case rel => exact ⟨its ++ [(ev, .slice pa ev.p.length pc)], rest, rfl, hE6.out, hT6.out, hb6.out, by simpa using He.out⟩
          case measure => simp only [strLen, size_B]; exact Hsh.out
end Go.Proofs.YtmioocmjlbjfpaaDoor
