/-
  The first line, and the line of a rule: readFirst, readRule.
-/
import Derived.Test.YtnbiedijofdjhaaDoorSL
import Derived.Handy
import Derived.StillTailTactics
namespace Go.Proofs.YtnbiedijofdjhaaDoor
open Go.RowKit
open Pl

def firstF : Option (List (List UInt8)) → Option (Nat × Nat)
  | some [a, b] => match numW a, maskW b with | some m, some x => some (m, x) | _, _ => none
  | _ => none
/-- What the first line says. -/
def firstW (l : List UInt8) : Option (Nat × Nat) := firstF (fieldsW [115, 99, 104, 101, 109, 101] 2 l)
def firstE : Option (Nat × Nat) → Ending
  | some (m, x) => .returned (.agg #[.int .i64 m, .int .u8 x, .slice none 0 0])
  | none => .panicked pcF
theorem fieldsW_len {name : List UInt8} {n : Nat} {l : List UInt8} {xs : List (List UInt8)} (h : fieldsW name n l = some xs) : xs.length = n := by
  unfold fieldsW at h
  split at h
  · rename_i hh
    have := Option.some.inj h
    rw [← this, List.length_tail, hh.1]; rfl
  · cases h
theorem split_short (sep : List UInt8) : ∀ (k : Nat) (l : List UInt8), ∀ f ∈ Lib.splitK sep 0 k l, f.length ≤ l.length
  | 0, l, f, h => by simp [Lib.splitK] at h; rw [h]; exact Nat.le_refl _
  | k + 1, l, f, h => by
    unfold Lib.splitK at h
    split at h
    · simp at h; rw [h]; exact Nat.le_refl _
    · rcases List.mem_cons.1 h with h | h
      · rw [h, List.length_take]; omega
      · have := split_short sep k _ f h
        rw [List.length_drop] at this; omega
theorem fieldsW_short {name : List UInt8} {n : Nat} {l : List UInt8} {xs : List (List UInt8)} (h : fieldsW name n l = some xs) : ∀ f ∈ xs, f.length ≤ l.length := by
  unfold fieldsW at h
  split at h
  · intro f hf
    rw [← Option.some.inj h] at hf
    exact split_short _ _ _ f (List.mem_of_mem_tail hf)
  · cases h
theorem StrsAt.below {W W' : World} {v : Value} {xs : List (List UInt8)} (h : StrsAt W v xs) (hb : Below W.heap.size W W') : StrsAt W' v xs := by
  obtain ⟨b, o, c, h1, h2, h3, h4⟩ := h
  exact ⟨b, o, c, h1, h2, Nat.lt_of_lt_of_le h3 hb.size, fun j hj => (hb.cell (p := ⟨b, o + j, none⟩) h3).trans (h4 j hj)⟩

theorem info24 : (Tryd.prog.info? 24).map (·.size) = some 3 := by kernel_rfl
theorem info29 : (Tryd.prog.info? 29).map (·.size) = some 5 := by kernel_rfl
/-- A store of a whole scheme: some world in which the block holds the new cells; nothing else has turned. -/
theorem wpList_store_sch {ops : Array Oper} {rest : List Oper} {o : Oper} {a : Act} {W : World} {Q : Exit → Act → World → Prop} (hgd : o.guard = none) (x y : Operand) (ho : o.op = .store 24 x y)
    (b : Nat) (c0 c1 c2 : Value) (hb : SchBlock W b c0 c1 c2) (hx : a.eval x = .pointer (some ⟨b, 0, none⟩)) (m n : Int) (sa : Option Addr) (sn sc : Nat) (hy : a.eval y = .agg #[.int .i64 m, .int .u8 n, .slice sa sn sc])
    (hK : ∀ W', SchBlock W' b (.int .i64 m) (.int .u8 n) (.slice sa sn sc) → W.grownBy W' (some b) → W'.heap.size = W.heap.size → wpList Tryd.prog ops Q rest (a.put o.dst undef) W') : wpList Tryd.prog ops Q (o :: rest) a W := by
  refine wpList_store_row hgd 24 x y ho b _ hx hy 24 _ hb info24 rfl (by simp [Value.oneCell']) (hK _ ?_ ?_ ?_)
  · unfold SchBlock at hb ⊢
    exact setRow_heap W b _ _ 24 _ hb
  · refine ⟨rfl, rfl, rfl, by simp, fun i hi hne => ?_⟩
    simp only [World.setRow, Array.getElem?_modify]
    rw [if_neg (fun e => hne (by rw [e]))]
  · simp
theorem wpList_store_rl {ops : Array Oper} {rest : List Oper} {o : Oper} {a : Act} {W : World} {Q : Exit → Act → World → Prop} (hgd : o.guard = none) (x y : Operand) (ho : o.op = .store 29 x y)
    (b : Nat) (old : Rl) (hb : RlBlock W b old) (hx : a.eval x = .pointer (some ⟨b, 0, none⟩)) (r : Rl) (hy : a.eval y = rlV r)
    (hK : ∀ W', RlBlock W' b r → W.grownBy W' (some b) → W'.heap.size = W.heap.size → wpList Tryd.prog ops Q rest (a.put o.dst undef) W') : wpList Tryd.prog ops Q (o :: rest) a W := by
  refine wpList_store_row hgd 29 x y ho b _ hx hy 29 _ hb info29 rfl (by simp [Value.oneCell']) (hK _ ?_ ?_ ?_)
  · unfold RlBlock at hb ⊢
    exact setRow_heap W b _ _ 29 _ hb
  · refine ⟨rfl, rfl, rfl, by simp, fun i hi hne => ?_⟩
    simp only [World.setRow, Array.getElem?_modify]
    rw [if_neg (fun e => hne (by rw [e]))]
  · simp
theorem ret_sch {fn : Func} {p : Tmp} (h : fn.results = #[.cell p 24]) {R : Ending → World → Prop} {a : Act} {W : World} {b : Nat} {c0 c1 c2 : Value}
    (hp : a.tmps.getD p undef = .pointer (some ⟨b, 0, none⟩)) (hd : a.defers = []) (hb : SchBlock W b c0 c1 c2)
    (hR : R (.returned (.agg #[c0, c1, c2])) W) : bodyPost Tryd.prog fn R .ret a W := by
  refine bodyPost_ret ?_ hd hR
  have hp' : a.tmps[p]?.getD undef = .pointer (some ⟨b, 0, none⟩) := by simpa using hp
  have hl := run_loadVar_row (P := Tryd.prog) W b 24 24 #[c0, c1, c2] (0, 0) _ hb Tryd.underlying24 rfl info24
  simp [results, h, hp', asAddr, hl]
theorem ret_rl {fn : Func} {p : Tmp} (h : fn.results = #[.cell p 29]) {R : Ending → World → Prop} {a : Act} {W : World} {b : Nat} {r : Rl}
    (hp : a.tmps.getD p undef = .pointer (some ⟨b, 0, none⟩)) (hd : a.defers = []) (hb : RlBlock W b r)
    (hR : R (.returned (rlV r)) W) : bodyPost Tryd.prog fn R .ret a W := by
  refine bodyPost_ret ?_ hd hR
  have hp' : a.tmps[p]?.getD undef = .pointer (some ⟨b, 0, none⟩) := by simpa using hp
  have hl := run_loadVar_row (P := Tryd.prog) W b 29 29 _ (0, 0) _ hb Tryd.underlying29 rfl info29
  simp [results, h, hp', asAddr, hl]

set_option maxHeartbeats 1000000 in
set_option maxRecDepth 100000 in
theorem readFirst_any (l : List UInt8) (m : Int) (w : World) (hT : StrTab w) (h0 : 0 < w.heap.size) (hs : l.length < 4294967281) (hm : MaxVar w m) (hg : 2 < w.heap.size) :
    Calls Tryd.prog 89 #[.string (B l)] w fun e w' => e = firstE (firstW l) ∧ Below w.heap.size w w' := by
  have hb : Below w.heap.size w (w.alloc (.cells #[.int .i64 0, .int .u8 0, .slice none 0 0] 24)) := (Below.refl _ _).alloc (Nat.le_refl _) _
  have SB0 := Lib.hid (SchBlock.new w (.int .i64 0) (.int .u8 0) (.slice none 0 0))
  have CC := Lib.hid (cutFields_any [115, 99, 104, 101, 109, 101] 2 (by omega) (by omega) l m _ hs (hm.below hg hb))
  have HB := Lib.hid hb
  have HT := Lib.hid (hT.below hb h0)
  have H0 := Lib.hid (Nat.lt_of_lt_of_le h0 hb.size)
  have FL := fun xs h => Lib.hid (fieldsW_len (name := [115, 99, 104, 101, 109, 101]) (n := 2) (l := l) (xs := xs) h)
  have FS := fun xs h => Lib.hid (fieldsW_short (name := [115, 99, 104, 101, 109, 101]) (n := 2) (l := l) (xs := xs) h)
  have E := Lib.hid (show firstW l = firstF (fieldsW [115, 99, 104, 101, 109, 101] 2 l) from rfl)
  have HS := Lib.hid hs
  generalize firstW l = fw at *
  generalize fieldsW [115, 99, 104, 101, 109, 101] 2 l = xw at *
  clear hT h0 hm hg hb hs
  go_enter Tryd.func89, Tryd.ntmps89
  go_wp2_with fail
  generalize w.alloc _ = w1 at *
  go_wp2_with fail
  refine (CC.out).mono ?_
  rintro e x1 ⟨he, hb⟩
  have HB1 := Lib.hid (HB.out.trans (hb.mono HB.out.size))
  have SB1 := Lib.hid (SB0.out.below hb)
  have HT1 := Lib.hid (HT.out.below hb H0.out)
  have H01 := Lib.hid (Nat.lt_of_lt_of_le H0.out hb.size)
  clear hb CC HB SB0 HT H0
  rcases he with ⟨rfl, rfl⟩ | ⟨xs, v, rfl, rfl, hx⟩
  · have E2 := Lib.hid (show fw = none from E.out)
    exact ⟨rfl, by rw [E2.out]; rfl, HB1.out⟩
  obtain ⟨a, b, rfl⟩ : ∃ a b, xs = [a, b] := by
    have := (FL xs rfl).out
    match xs, this with
    | [a, b], _ => exact ⟨a, b, rfl⟩
  have za := (FS _ rfl).out a (by simp)
  have zb := (FS _ rfl).out b (by simp)
  obtain ⟨bk, o, c, rfl, hc, hbk, hcl⟩ := hx
  have y0 := hcl 0 (by simp)
  have y1 := hcl 1 (by simp)
  simp only [List.getElem_cons_zero, List.getElem_cons_succ, Nat.add_zero] at y0 y1
  clear FL FS
  go_upto_region 2 with fail
  have CJ : ∀ W, Below x1.heap.size x1 W → W.cell? ⟨bk, o, none⟩ = some (.string (B a)) ∧ W.cell? ⟨bk, o + 1, none⟩ = some (.string (B b)) ∧ Below x1.heap.size x1 W := fun W hb => ⟨(hb.cell (p := ⟨bk, o, none⟩) hbk).trans y0, (hb.cell (p := ⟨bk, o + 1, none⟩) hbk).trans y1, hb⟩
  have C1 : ∀ W, (W.cell? ⟨bk, o, none⟩ = some (.string (B a)) ∧ W.cell? ⟨bk, o + 1, none⟩ = some (.string (B b)) ∧ Below x1.heap.size x1 W) → Calls Tryd.prog 112 #[.string (B a)] W fun e w' => ((e = .returned (.int .i64 ((numW a).getD 0 : Nat)) ∧ numW a = some ((numW a).getD 0)) ∨ (firstF (some [a, b]) = none ∧ e = .panicked pcF)) ∧ (w'.cell? ⟨bk, o, none⟩ = some (.string (B a)) ∧ w'.cell? ⟨bk, o + 1, none⟩ = some (.string (B b)) ∧ Below x1.heap.size x1 w') := fun W h => by
    refine (readNumber_any (B a) W (HT1.out.below h.2.2 H01.out) (Nat.lt_of_lt_of_le H01.out h.2.2.size) (by rw [size_B]; have := HS.out; omega)).mono ?_
    rintro e w' ⟨rfl, hb⟩
    refine ⟨?_, CJ w' (h.2.2.trans (hb.mono h.2.2.size))⟩
    rw [toList_B]
    cases hn : numW a with
    | none => exact Or.inr ⟨by simp [firstF, hn], rfl⟩
    | some n => exact Or.inl ⟨rfl, rfl⟩
  have C2 : ∀ W, (W.cell? ⟨bk, o, none⟩ = some (.string (B a)) ∧ W.cell? ⟨bk, o + 1, none⟩ = some (.string (B b)) ∧ Below x1.heap.size x1 W) → Calls Tryd.prog 113 #[.string (B b)] W fun e w' => ((e = .returned (.int .u8 ((maskW b).getD 0 : Nat)) ∧ maskW b = some ((maskW b).getD 0)) ∨ (firstF (some [a, b]) = none ∧ e = .panicked pcF)) ∧ (w'.cell? ⟨bk, o, none⟩ = some (.string (B a)) ∧ w'.cell? ⟨bk, o + 1, none⟩ = some (.string (B b)) ∧ Below x1.heap.size x1 w') := fun W h => by
    refine (readMask_any (B b) W (HT1.out.below h.2.2 H01.out) (Nat.lt_of_lt_of_le H01.out h.2.2.size) (by rw [size_B]; have := HS.out; omega)).mono ?_
    rintro e w' ⟨rfl, hb⟩
    refine ⟨?_, CJ w' (h.2.2.trans (hb.mono h.2.2.size))⟩
    rw [toList_B]
    cases hn : maskW b with
    | none => exact Or.inr ⟨by simp only [firstF, hn]; cases numW a <;> rfl, rfl⟩
    | some n => exact Or.inl ⟨rfl, rfl⟩
  refine wp_region_qp (m := firstF (some [a, b]) = none) (pc := pcF) (C := fun W => W.cell? ⟨bk, o, none⟩ = some (.string (B a)) ∧ W.cell? ⟨bk, o + 1, none⟩ = some (.string (B b)) ∧ Below x1.heap.size x1 W) 8 (by kernel_rfl) (by kernel_rfl) (CJ _ (Below.refl _ _).drew) ?_ ?_
  · rintro hf a' W hd ⟨-, -, hb⟩
    exact ⟨hd, by rw [E.out, hf]; rfl, HB1.out.trans (hb.mono HB1.out.size)⟩
  simp only [List.take_succ_cons, List.take_zero, List.drop_succ_cons, List.drop_zero]
  repeat (first | (refine wpQP_step rfl ?_; intro K hK; refine quiet_value ?_ (fun W h => ?_) ?_; rotate_left; (· obtain ⟨s0, s1, hb2⟩ := h; go_simp; rfl); go_simp; go_big_quiet_on) | (refine wpQP_may _ _ _ _ rfl (fun W => ?_) C1 ?_; (· go_simp; done); intro K hK; go_simp; go_big_quiet_on) | (refine wpQP_may _ _ _ _ rfl (fun W => ?_) C2 ?_; (· go_simp; done); intro K hK; go_simp; go_big_quiet_on))
  refine wpQP_nil ?_
  rintro ⟨⟨-, e1⟩, e2⟩ x2 ⟨-, -, hb⟩
  have E2 := Lib.hid (show fw = some ((numW a).getD 0, (maskW b).getD 0) by rw [E.out]; simp only [firstF]; rw [e1, e2]; rfl)
  generalize (numW a).getD 0 = p at *
  generalize (maskW b).getD 0 = q at *
  have SB2 := SB1.out.below hb
  have HB2 := Lib.hid (HB1.out.trans (hb.mono HB1.out.size))
  clear hb e1 e2 C1 C2 CJ y0 y1 hcl HB1 SB1 E
  go_wp2_with (first | (refine wpList_store_sch rfl _ _ rfl _ _ _ _ SB2 rfl _ _ _ _ _ rfl ?_; intro W' hB' hg' hs'; clear SB2))
  refine ret_sch rfl rfl rfl hB' ?_
  exact ⟨by rw [E2.out]; rfl, HB2.out.grown hg' HB2.out.size (by simp)⟩
end Go.Proofs.YtnbiedijofdjhaaDoor
