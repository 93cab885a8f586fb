/-
  The readers of event: what each makes of the rest of a line.
-/
import Derived.Test.YtmioocmjlbjfpaaDoorD
import Derived.Handy
import Derived.StillTailTactics
namespace Go.Proofs.YtmioocmjlbjfpaaDoor
open Go.RowKit
open Pl

theorem bcell {W w1 : World} (hb : Below W.heap.size W w1) : (∀ b o, b < W.heap.size → w1.cell? ⟨b, o, none⟩ = W.cell? ⟨b, o, none⟩) ∧ (∀ b o, b < W.heap.size → w1.frozen? ⟨b, o, none⟩ = W.frozen? ⟨b, o, none⟩) :=
  ⟨fun b o h => hb.cell (p := ⟨b, o, none⟩) h, fun b o h => hb.frozen (p := ⟨b, o, none⟩) h⟩

/-- The six cells of an event's own block. -/
def EvBlock (W : World) (b : Nat) (c0 c1 c2 c3 c4 c5 : Value) : Prop := W.heap[b]? = some (.cells #[c0, c1, c2, c3, c4, c5] 31 (0, 0))
theorem EvBlock.new (w : World) (c0 c1 c2 c3 c4 c5 : Value) : EvBlock (w.alloc (.cells #[c0, c1, c2, c3, c4, c5] 31)) w.heap.size c0 c1 c2 c3 c4 c5 := heap_alloc_new w _
theorem EvBlock.lt {W : World} {b : Nat} {c0 c1 c2 c3 c4 c5 : Value} (h : EvBlock W b c0 c1 c2 c3 c4 c5) : b < W.heap.size := by
  rcases Nat.lt_or_ge b W.heap.size with hlt | hge
  · exact hlt
  · rw [EvBlock, Array.getElem?_eq_none hge] at h; cases h
theorem EvBlock.below {W W' : World} {b : Nat} {c0 c1 c2 c3 c4 c5 : Value} (h : EvBlock W b c0 c1 c2 c3 c4 c5) (hb : Below W.heap.size W W') : EvBlock W' b c0 c1 c2 c3 c4 c5 := by
  unfold EvBlock; rw [hb.block b h.lt]; exact h
theorem EvBlock.cells {W : World} {b : Nat} {c0 c1 c2 c3 c4 c5 : Value} (h : EvBlock W b c0 c1 c2 c3 c4 c5) :
    W.cell? ⟨b, 0, none⟩ = some c0 ∧ W.cell? ⟨b, 1, none⟩ = some c1 ∧ W.cell? ⟨b, 2, none⟩ = some c2 ∧ W.cell? ⟨b, 3, none⟩ = some c3 ∧ W.cell? ⟨b, 4, none⟩ = some c4 ∧ W.cell? ⟨b, 5, none⟩ = some c5 := by
  unfold EvBlock at h
  refine ⟨?_, ?_, ?_, ?_, ?_, ?_⟩ <;> simp [World.cell?, h]
theorem EvBlock.free {W : World} {b : Nat} {c0 c1 c2 c3 c4 c5 : Value} (h : EvBlock W b c0 c1 c2 c3 c4 c5) :
    W.frozen? ⟨b, 0, none⟩ = false ∧ W.frozen? ⟨b, 1, none⟩ = false ∧ W.frozen? ⟨b, 2, none⟩ = false ∧ W.frozen? ⟨b, 3, none⟩ = false ∧ W.frozen? ⟨b, 4, none⟩ = false ∧ W.frozen? ⟨b, 5, none⟩ = false := by
  unfold EvBlock at h
  refine ⟨?_, ?_, ?_, ?_, ?_, ?_⟩ <;> simp [World.frozen?, h]

theorem info31 : (Tryd.prog.info? 31).map (·.size) = some 6 := by kernel_rfl
theorem lt_of_heap {W : World} {b : Nat} {o : Obj} (h : W.heap[b]? = some o) : b < W.heap.size := by
  rcases Nat.lt_or_ge b W.heap.size with hlt | hge
  · exact hlt
  · rw [Array.getElem?_eq_none hge] at h; cases h
/-- A store of a whole event: some world in which the block holds the new cells; nothing else has turned. -/
theorem wpList_store_ev {ops : Array Oper} {rest : List Oper} {o : Oper} {a : Act} {W : World} {Q : Exit → Act → World → Prop} (hgd : o.guard = none) (x y : Operand) (ho : o.op = .store 31 x y)
    (b : Nat) (c0 c1 c2 c3 c4 c5 : Value) (hb : EvBlock W b c0 c1 c2 c3 c4 c5) (hx : a.eval x = .pointer (some ⟨b, 0, none⟩)) (k : Int) (s1 : ByteArray) (sa : Option Addr) (sn sc : Nat) (s2 : ByteArray) (n l : Int) (hy : a.eval y = .agg #[.int .i64 k, .string s1, .slice sa sn sc, .string s2, .int .i64 n, .int .i64 l])
    (hK : ∀ W', EvBlock W' b (.int .i64 k) (.string s1) (.slice sa sn sc) (.string s2) (.int .i64 n) (.int .i64 l) → W.grownBy W' (some b) → W'.heap.size = W.heap.size → wpList Tryd.prog ops Q rest (a.put o.dst undef) W') : wpList Tryd.prog ops Q (o :: rest) a W := by
  refine wpList_store_row hgd 31 x y ho b _ hx hy 31 _ hb info31 rfl (by simp [Value.oneCell']) (hK _ ?_ ?_ ?_)
  · unfold EvBlock at hb ⊢
    exact setRow_heap W b _ _ 31 _ hb
  · refine ⟨rfl, rfl, rfl, by simp, fun i hi hne => ?_⟩
    simp only [World.setRow, Array.getElem?_modify]
    rw [if_neg (fun e => hne (by rw [e]))]
  · simp

theorem ret_ev {fn : Func} {p q : Tmp} (h : fn.results = #[.cell p 31, .tmp q]) {R : Ending → World → Prop} {a : Act} {W : World} {b : Nat} {c0 c1 c2 c3 c4 c5 : Value}
    (hp : a.tmps.getD p undef = .pointer (some ⟨b, 0, none⟩)) (hd : a.defers = []) (hb : EvBlock W b c0 c1 c2 c3 c4 c5)
    (hR : R (.returned (.tuple #[.agg #[c0, c1, c2, c3, c4, c5], a.tmps.getD q undef])) W) : bodyPost Tryd.prog fn R .ret a W := by
  refine bodyPost_ret ?_ hd hR
  have hp' : a.tmps[p]?.getD undef = .pointer (some ⟨b, 0, none⟩) := by simpa using hp
  have hl := run_loadVar_row (P := Tryd.prog) W b 31 31 #[c0, c1, c2, c3, c4, c5] (0, 0) _ hb Tryd.underlying31 rfl info31
  simp [results, h, hp', asAddr, hl]

def ptCells (ps : List (Int × Int)) : List Value := ps.flatMap fun p => [Value.int .i64 p.1, Value.int .i64 p.2]
def evVal (ev : Ev) (v : Value) : Value := .agg #[.int .i64 ev.kind, .string (B ev.keys), v, .string (B ev.text), .int .i64 ev.n, .int .i64 ev.l]
/-- The value v is the list of points, in memory that was not there in block numbers below base. -/
def OwnsP (W : World) (base : Nat) (v : Value) (ps : List (Int × Int)) : Prop := W.ownsRow base 40 2 v ps.length (ptCells ps)
theorem OwnsP.nil (W : World) (base : Nat) : OwnsP W base (.slice none 0 0) [] := ⟨rfl, Or.inl ⟨rfl, rfl⟩⟩
/-- What a reader hands back. -/
def RdPost (r : Option Ev) (w : World) (e : Ending) (w' : World) : Prop :=
  (∃ ev a n c, e = .returned (.tuple #[evVal ev (.slice a n c), .bool r.isSome]) ∧ (∀ ev', r = some ev' → ev = ev' ∧ OwnsP w' w.heap.size (.slice a n c) ev.p)) ∧ Below w.heap.size w w'
theorem RdPost.yes {r : Option Ev} {w w' : World} {ev : Ev} {v : Value} {e : Ending} (h : r = some ev) (he : e = .returned (.tuple #[evVal ev v, .bool true])) (ho : OwnsP w' w.heap.size v ev.p) (hb : Below w.heap.size w w') : RdPost r w e w' := by
  obtain ⟨a, c, rfl⟩ := own_shape ho
  exact ⟨⟨ev, a, _, c, by rw [he, h]; rfl, fun ev' h' => by rw [h] at h'; cases h'; exact ⟨rfl, ho⟩⟩, hb⟩
theorem RdPost.no {r : Option Ev} {w w' : World} {ev : Ev} {v : Value} {e : Ending} (h : r = none) (he : e = .returned (.tuple #[evVal ev v, .bool false])) (hb : Below w.heap.size w w') (hv : v = .slice none 0 0 := by rfl) : RdPost r w e w' := by
  subst hv
  exact ⟨⟨ev, none, 0, 0, by rw [he, h]; rfl, fun ev' h' => by rw [h] at h'; cases h'⟩, hb⟩

set_option maxHeartbeats 400000 in
theorem readNothing_any (l : List UInt8) (w : World) :
    Calls Tryd.prog 51 #[.string (B l)] w (RdPost (rdNothing l) w) := by
  by_cases h : l = []
  · subst h
    have H0 := isEmpty_nil
    have E := Lib.hid (show rdNothing [] = some Ev.zero from rfl)
    go_enter Tryd.func51, Tryd.ntmps51
    go_wp2
    go_returns
    exact RdPost.yes E.out rfl (OwnsP.nil _ _) (by go_grown)
  · have H0 := isEmpty_cons h
    have E := Lib.hid (show rdNothing l = none from if_neg h)
    clear h
    go_enter Tryd.func51, Tryd.ntmps51
    go_wp2
    go_returns
    exact RdPost.no (ev := Ev.zero) (v := .slice none 0 0) E.out rfl (by go_grown)

set_option maxHeartbeats 400000 in
theorem readKeys_any (l : List UInt8) (w : World) :
    Calls Tryd.prog 29 #[.string (B l)] w (RdPost (rdKeys l) w) := by
  have C := fun w => Lib.hid (cutPrefix_any (B l) w)
  rw [toList_B] at C
  have E : Hid (rdKeys l = if (cutB l).2 then some { Ev.zero with keys := (cutB l).1 } else none) := rfl
  generalize rdKeys l = r at *
  generalize cutB l = z at *
  obtain ⟨d, z2⟩ := z
  cases z2 with
  | true =>
    have E' : Hid (r = some { Ev.zero with keys := d }) := E
    clear E
    go_enter Tryd.func29, Tryd.ntmps29
    go_wp2_with fail
    refine ((C _).out).mono ?_
    rintro e w' ⟨rfl, rfl⟩
    clear C
    go_wp2_with fail
    go_returns
    exact RdPost.yes E'.out rfl (OwnsP.nil _ _) (by go_grown)
  | false =>
    have E' : Hid (r = none) := E
    clear E
    go_enter Tryd.func29, Tryd.ntmps29
    go_wp2_with fail
    refine ((C _).out).mono ?_
    rintro e w' ⟨rfl, rfl⟩
    clear C
    go_wp2_with fail
    go_returns
    exact RdPost.no (ev := { Ev.zero with keys := d }) (v := .slice none 0 0) E'.out rfl (by go_grown)
set_option maxHeartbeats 400000 in
theorem readText_any (l : List UInt8) (w : World) :
    Calls Tryd.prog 33 #[.string (B l)] w (RdPost (rdText l) w) := by
  have C := fun w => Lib.hid (cutPrefix_any (B l) w)
  rw [toList_B] at C
  have E : Hid (rdText l = if (cutB l).2 then some { Ev.zero with text := (cutB l).1 } else none) := rfl
  generalize rdText l = r at *
  generalize cutB l = z at *
  obtain ⟨d, z2⟩ := z
  cases z2 with
  | true =>
    have E' : Hid (r = some { Ev.zero with text := d }) := E
    clear E
    go_enter Tryd.func33, Tryd.ntmps33
    go_wp2_with fail
    refine ((C _).out).mono ?_
    rintro e w' ⟨rfl, rfl⟩
    clear C
    go_wp2_with fail
    go_returns
    exact RdPost.yes E'.out rfl (OwnsP.nil _ _) (by go_grown)
  | false =>
    have E' : Hid (r = none) := E
    clear E
    go_enter Tryd.func33, Tryd.ntmps33
    go_wp2_with fail
    refine ((C _).out).mono ?_
    rintro e w' ⟨rfl, rfl⟩
    clear C
    go_wp2_with fail
    go_returns
    exact RdPost.no (ev := { Ev.zero with text := d }) (v := .slice none 0 0) E'.out rfl (by go_grown)

theorem nats_getD (xs : List Nat) (i : Nat) (h : i < xs.length) : (nats xs)[i]? = some (.int .i64 ((xs[i] : Nat) : Int)) := by
  simp [nats, List.getElem?_map, List.getElem?_eq_getElem h]
/-- The numbers of a row that is owned, cell by cell. -/
theorem nums_cells {W : World} {base : Nat} {v : Value} {xs : List Nat} (h : W.ownsRow base 3 1 v xs.length (nats xs)) (hpos : 0 < xs.length) :
    ∃ g cap, v = .slice (some ⟨g, 0, none⟩) xs.length cap ∧ base ≤ g ∧ g < W.heap.size ∧ ∀ i (hi : i < xs.length), W.cell? ⟨g, i, none⟩ = some (.int .i64 ((xs[i] : Nat) : Int)) := by
  rcases h.2 with ⟨_, h0⟩ | ⟨g, cap, cur, hv, hb, hg, hn, _, hc, ht⟩
  · omega
  · refine ⟨g, cap, hv, hb, ?_, ?_⟩
    · rcases Nat.lt_or_ge g W.heap.size with hlt | hge
      · exact hlt
      · rw [Array.getElem?_eq_none hge] at hg; cases hg
    · intro i hi
      have e := nats_getD xs i hi
      rw [← ht, Nat.mul_one, List.getElem?_take, if_pos hi] at e
      simp only [World.cell?, hg]
      simpa using e


def rdChooseOf : Option (List Nat) → Option Ev
  | some [a] => some { Ev.zero with n := a }
  | _ => none
theorem rdChooseOf_no {xs : List Nat} (h : xs.length ≠ 1) : rdChooseOf (some xs) = none := by
  rcases xs with _ | ⟨a, _ | ⟨b, r⟩⟩
  · rfl
  · simp at h
  · rfl
def rdHoldOf : Option (List Nat) → Option Ev
  | some [a, b] => some { Ev.zero with n := a, l := b }
  | _ => none
theorem rdHoldOf_no {xs : List Nat} (h : xs.length ≠ 2) : rdHoldOf (some xs) = none := by
  rcases xs with _ | ⟨a, _ | ⟨b, _ | ⟨c, r⟩⟩⟩
  · rfl
  · rfl
  · simp at h
  · rfl

set_option maxHeartbeats 2000000 in
set_option maxRecDepth 100000 in
theorem readChoose_any (l : List UInt8) (w : World) (hm : l.length ≤ maxLen) :
    Calls Tryd.prog 38 #[.string (B l)] w (RdPost (rdChoose l) w) := by
  have C := fun w => Lib.hid (readNumbers_any l 1 w hm (by omega))
  have E : Hid (rdChoose l = rdChooseOf (readNums 1 l)) := rfl
  generalize rdChoose l = r at *
  unfold NumsPost at C
  generalize readNums 1 l = xs at *
  rcases xs with _ | xs
  · have E' : Hid (r = none) := E
    clear E
    go_enter Tryd.func38, Tryd.ntmps38
    go_wp2_with fail
    refine ((C _).out).mono ?_
    rintro e w' ⟨v, rfl, hown, hbel⟩
    clear C
    obtain ⟨va, vc, rfl⟩ := own_shape hown
    have hB := (EvBlock.new w _ _ _ _ _ _).below hbel
    have hbel' := Lib.hid (((Below.refl w.heap.size w).alloc (Nat.le_refl _) _).trans (hbel.mono (by simp)))
    clear hbel hown
    go_wp2_with (first | (refine wpList_store_ev rfl _ _ rfl _ _ _ _ _ _ _ hB rfl _ _ _ _ _ _ _ _ rfl ?_; intro W' hB' hg' hs'; clear hB))
    refine ret_ev rfl rfl rfl hB' ?_
    exact RdPost.no (ev := Ev.zero) (v := .slice none 0 0) E'.out rfl (hbel'.out.grown hg' hbel'.out.size (by simp))
  · have C' : ∀ w, Hid (Calls Tryd.prog 49 #[.string (B l), .int .i64 (1 : Nat)] w fun e w' => ∃ v, e = .returned (.tuple #[v, .bool true]) ∧ w'.ownsRow w.heap.size 3 1 v xs.length (nats xs) ∧ Below w.heap.size w w') := C
    clear C
    by_cases hx : xs.length ≠ 1
    · have hx' : ((xs.length : Int) != 1) = true := by rw [bne_iff_ne]; omega
      have E' := Lib.hid (E.out.trans (rdChooseOf_no hx))
      clear E hx
      go_enter Tryd.func38, Tryd.ntmps38
      go_wp2_with fail
      refine ((C' _).out).mono ?_
      rintro e w' ⟨v, rfl, hown, hbel⟩
      clear C'
      obtain ⟨va, vc, rfl⟩ := own_shape hown
      have hB := (EvBlock.new w _ _ _ _ _ _).below hbel
      have hbel' := Lib.hid (((Below.refl w.heap.size w).alloc (Nat.le_refl _) _).trans (hbel.mono (by simp)))
      clear hbel hown
      go_wp2_with (first | (refine wpList_store_ev rfl _ _ rfl _ _ _ _ _ _ _ hB rfl _ _ _ _ _ _ _ _ rfl ?_; intro W' hB' hg' hs'; clear hB))
      refine ret_ev rfl rfl rfl hB' ?_
      exact RdPost.no (ev := Ev.zero) (v := .slice none 0 0) E'.out rfl (hbel'.out.grown hg' hbel'.out.size (by simp))
    · obtain ⟨a, rfl⟩ : ∃ a, xs = [a] := by
        rcases xs with _ | ⟨a, _ | ⟨b, r⟩⟩
        · simp at hx
        · exact ⟨a, rfl⟩
        · simp at hx
      have E' : Hid (r = some { Ev.zero with n := a }) := E
      clear E hx
      go_enter Tryd.func38, Tryd.ntmps38
      go_wp2_with fail
      refine ((C' _).out).mono ?_
      rintro e w' ⟨v, rfl, hown, hbel⟩
      clear C'
      obtain ⟨g, cap, rfl, hg, hglt, hcs⟩ := nums_cells hown (by simp)
      have hc0 := hcs 0 (by simp)
      have hB := (EvBlock.new w _ _ _ _ _ _).below hbel
      have hbel' := Lib.hid (((Below.refl w.heap.size w).alloc (Nat.le_refl _) _).trans (hbel.mono (by simp)))
      clear hbel hown hcs
      have hc0' : w'.cell? ⟨g, 0, none⟩ = some (.int .i64 (a : Int)) := hc0
      clear hc0
      go_wp2_with (first | (refine wpList_store_ev rfl _ _ rfl _ _ _ _ _ _ _ hB rfl _ _ _ _ _ _ _ _ rfl ?_; intro W' hB' hg' hs'; clear hB))
      refine ret_ev rfl rfl rfl hB' ?_
      exact RdPost.yes E'.out rfl (OwnsP.nil _ _) (hbel'.out.grown hg' hbel'.out.size (by simp))

set_option maxHeartbeats 2000000 in
set_option maxRecDepth 100000 in
theorem readHold_any (l : List UInt8) (w : World) (hm : l.length ≤ maxLen) :
    Calls Tryd.prog 36 #[.string (B l)] w (RdPost (rdHold l) w) := by
  have C := fun w => Lib.hid (readNumbers_any l 2 w hm (by omega))
  have E : Hid (rdHold l = rdHoldOf (readNums 2 l)) := rfl
  generalize rdHold l = r at *
  unfold NumsPost at C
  generalize readNums 2 l = xs at *
  rcases xs with _ | xs
  · have E' : Hid (r = none) := E
    clear E
    go_enter Tryd.func36, Tryd.ntmps36
    go_wp2_with fail
    refine ((C _).out).mono ?_
    rintro e w' ⟨v, rfl, hown, hbel⟩
    clear C
    obtain ⟨va, vc, rfl⟩ := own_shape hown
    have hB := (EvBlock.new w _ _ _ _ _ _).below hbel
    have hbel' := Lib.hid (((Below.refl w.heap.size w).alloc (Nat.le_refl _) _).trans (hbel.mono (by simp)))
    clear hbel hown
    go_wp2_with (first | (refine wpList_store_ev rfl _ _ rfl _ _ _ _ _ _ _ hB rfl _ _ _ _ _ _ _ _ rfl ?_; intro W' hB' hg' hs'; clear hB))
    refine ret_ev rfl rfl rfl hB' ?_
    exact RdPost.no (ev := Ev.zero) (v := .slice none 0 0) E'.out rfl (hbel'.out.grown hg' hbel'.out.size (by simp))
  · have C' : ∀ w, Hid (Calls Tryd.prog 49 #[.string (B l), .int .i64 (2 : Nat)] w fun e w' => ∃ v, e = .returned (.tuple #[v, .bool true]) ∧ w'.ownsRow w.heap.size 3 1 v xs.length (nats xs) ∧ Below w.heap.size w w') := C
    clear C
    by_cases hx : xs.length ≠ 2
    · have hx' : ((xs.length : Int) != 2) = true := by rw [bne_iff_ne]; omega
      have E' := Lib.hid (E.out.trans (rdHoldOf_no hx))
      clear E hx
      go_enter Tryd.func36, Tryd.ntmps36
      go_wp2_with fail
      refine ((C' _).out).mono ?_
      rintro e w' ⟨v, rfl, hown, hbel⟩
      clear C'
      obtain ⟨va, vc, rfl⟩ := own_shape hown
      have hB := (EvBlock.new w _ _ _ _ _ _).below hbel
      have hbel' := Lib.hid (((Below.refl w.heap.size w).alloc (Nat.le_refl _) _).trans (hbel.mono (by simp)))
      clear hbel hown
      go_wp2_with (first | (refine wpList_store_ev rfl _ _ rfl _ _ _ _ _ _ _ hB rfl _ _ _ _ _ _ _ _ rfl ?_; intro W' hB' hg' hs'; clear hB))
      refine ret_ev rfl rfl rfl hB' ?_
      exact RdPost.no (ev := Ev.zero) (v := .slice none 0 0) E'.out rfl (hbel'.out.grown hg' hbel'.out.size (by simp))
    · obtain ⟨a, b, rfl⟩ : ∃ a b, xs = [a, b] := by
        rcases xs with _ | ⟨a, _ | ⟨b, _ | ⟨c, r⟩⟩⟩
        · simp at hx
        · simp at hx
        · exact ⟨a, b, rfl⟩
        · simp at hx
      have E' : Hid (r = some { Ev.zero with n := a, l := b }) := E
      clear E hx
      go_enter Tryd.func36, Tryd.ntmps36
      go_wp2_with fail
      refine ((C' _).out).mono ?_
      rintro e w' ⟨v, rfl, hown, hbel⟩
      clear C'
      obtain ⟨g, cap, rfl, hg, hglt, hcs⟩ := nums_cells hown (by simp)
      have hc0 : w'.cell? ⟨g, 0, none⟩ = some (.int .i64 (a : Int)) := hcs 0 (by simp)
      have hc1 : w'.cell? ⟨g, 1, none⟩ = some (.int .i64 (b : Int)) := hcs 1 (by simp)
      have hB := (EvBlock.new w _ _ _ _ _ _).below hbel
      have hbel' := Lib.hid (((Below.refl w.heap.size w).alloc (Nat.le_refl _) _).trans (hbel.mono (by simp)))
      clear hbel hown hcs
      go_wp2_with fail
      go_still_tail 7, (by kernel_rfl)
      change wpList _ _ _ _ _ w'.drew
      have hB1 : EvBlock w'.drew w.heap.size _ _ _ _ _ _ := hB
      have hbel1 : Hid (Below w.heap.size w w'.drew) := hbel'.out.drew
      clear hB hbel' hc0 hc1
      generalize w'.drew = w2 at *
      go_wp2_with (first | (refine wpList_store_ev rfl _ _ rfl _ _ _ _ _ _ _ hB1 rfl _ _ _ _ _ _ _ _ rfl ?_; intro W' hB' hg' hs'; clear hB1))
      refine ret_ev rfl rfl rfl hB' ?_
      exact RdPost.yes E'.out rfl (OwnsP.nil _ _) (hbel1.out.grown hg' hbel1.out.size (by simp))
end Go.Proofs.YtmioocmjlbjfpaaDoor
