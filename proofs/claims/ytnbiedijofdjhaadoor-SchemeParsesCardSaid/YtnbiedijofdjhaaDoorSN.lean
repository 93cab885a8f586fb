/-
  The line of a rule: readRule (written by sn.py).
-/
import Derived.Test.YtnbiedijofdjhaaDoorSM
namespace Go.Proofs.YtnbiedijofdjhaaDoor
open Go.RowKit
open Pl

def ruleF : Option (List (List UInt8)) → Option Rl
  | some [a, b, c, d, e] => match numW a, numW b, textW c, textW d, numW e with
    | some a, some b, some c, some d, some e => some ⟨a, b, c, d, e⟩
    | _, _, _, _, _ => none
  | _ => none
theorem ruleF_none {a b c d e : List UInt8} (h : numW a = none ∨ numW b = none ∨ textW c = none ∨ textW d = none ∨ numW e = none) : ruleF (some [a, b, c, d, e]) = none := by
  simp only [ruleF]
  split
  · rename_i h1 h2 h3 h4 h5
    rw [h1, h2, h3, h4, h5] at h
    simp at h
  · rfl
/-- What the line of a rule says. -/
def ruleW (l : List UInt8) : Option Rl := ruleF (fieldsW [114, 117, 108, 101] 5 l)
def ruleE : Option Rl → Ending
  | some r => .returned (rlV r)
  | none => .panicked pcF

set_option maxHeartbeats 2000000 in
set_option maxRecDepth 100000 in
theorem readRule_any (l : List UInt8) (m : Int) (w : World) (hT : StrTab w) (h0 : 0 < w.heap.size) (hs : l.length < 4294967281) (hm : MaxVar w m) (hg : 2 < w.heap.size) :
    Calls Tryd.prog 90 #[.string (B l)] w fun e w' => e = ruleE (ruleW l) ∧ Below w.heap.size w w' := by
  have hb : Below w.heap.size w (w.alloc (.cells #[.int .i64 0, .int .i64 0, .string ⟨#[]⟩, .string ⟨#[]⟩, .int .i64 0] 29)) := (Below.refl _ _).alloc (Nat.le_refl _) _
  have RB0 := Lib.hid (show RlBlock (w.alloc (.cells #[.int .i64 0, .int .i64 0, .string ⟨#[]⟩, .string ⟨#[]⟩, .int .i64 0] 29)) w.heap.size ⟨0, 0, [], [], 0⟩ from heap_alloc_new w _)
  have CC := Lib.hid (cutFields_any [114, 117, 108, 101] 5 (by omega) (by omega) l m _ hs (hm.below hg hb))
  have HB := Lib.hid hb
  have HT := Lib.hid (hT.below hb h0)
  have H0 := Lib.hid (Nat.lt_of_lt_of_le h0 hb.size)
  have FL := fun xs h => Lib.hid (fieldsW_len (name := [114, 117, 108, 101]) (n := 5) (l := l) (xs := xs) h)
  have FS := fun xs h => Lib.hid (fieldsW_short (name := [114, 117, 108, 101]) (n := 5) (l := l) (xs := xs) h)
  have E := Lib.hid (show ruleW l = ruleF (fieldsW [114, 117, 108, 101] 5 l) from rfl)
  have HS := Lib.hid hs
  generalize ruleW l = fw at *
  generalize fieldsW [114, 117, 108, 101] 5 l = xw at *
  clear hT h0 hm hg hb hs
  go_enter Tryd.func90, Tryd.ntmps90
  go_wp2_with fail
  generalize w.alloc _ = w1 at *
  go_wp2_with fail
  refine (CC.out).mono ?_
  rintro e x1 ⟨he, hb⟩
  have HB1 := Lib.hid (HB.out.trans (hb.mono HB.out.size))
  have RB1 := Lib.hid (RB0.out.below hb)
  have HT1 := Lib.hid (HT.out.below hb H0.out)
  have H01 := Lib.hid (Nat.lt_of_lt_of_le H0.out hb.size)
  clear hb CC HB RB0 HT H0
  rcases he with ⟨rfl, rfl⟩ | ⟨xs, v, rfl, rfl, hx⟩
  · have E2 := Lib.hid (show fw = none from E.out)
    exact ⟨rfl, by rw [E2.out]; rfl, HB1.out⟩
  obtain ⟨a, b, c, d, e, rfl⟩ : ∃ a b c d e, xs = [a, b, c, d, e] := by
    have := (FL xs rfl).out
    match xs, this with
    | [a, b, c, d, e], _ => exact ⟨a, b, c, d, e, rfl⟩
  have za := (FS _ rfl).out a (by simp)
  have zb := (FS _ rfl).out b (by simp)
  have ze := (FS _ rfl).out e (by simp)
  obtain ⟨bk, o, cp, rfl, hc, hbk, hcl⟩ := hx
  have y0 := hcl 0 (by simp)
  have y1 := hcl 1 (by simp)
  have y2 := hcl 2 (by simp)
  have y3 := hcl 3 (by simp)
  have y4 := hcl 4 (by simp)
  simp only [List.getElem_cons_zero, List.getElem_cons_succ, Nat.add_zero] at y0 y1 y2 y3 y4
  clear FL FS
  go_upto_region 2 with fail
  have CJ : ∀ W, Below x1.heap.size x1 W → W.cell? ⟨bk, o, none⟩ = some (.string (B a)) ∧ W.cell? ⟨bk, o + 1, none⟩ = some (.string (B b)) ∧ W.cell? ⟨bk, o + 2, none⟩ = some (.string (B c)) ∧ W.cell? ⟨bk, o + 3, none⟩ = some (.string (B d)) ∧ W.cell? ⟨bk, o + 4, none⟩ = some (.string (B e)) ∧ Below x1.heap.size x1 W := fun W hb => ⟨(hb.cell (p := ⟨bk, o, none⟩) hbk).trans y0, (hb.cell (p := ⟨bk, o + 1, none⟩) hbk).trans y1, (hb.cell (p := ⟨bk, o + 2, none⟩) hbk).trans y2, (hb.cell (p := ⟨bk, o + 3, none⟩) hbk).trans y3, (hb.cell (p := ⟨bk, o + 4, none⟩) hbk).trans y4, hb⟩
  have C1 : ∀ W, (W.cell? ⟨bk, o, none⟩ = some (.string (B a)) ∧ W.cell? ⟨bk, o + 1, none⟩ = some (.string (B b)) ∧ W.cell? ⟨bk, o + 2, none⟩ = some (.string (B c)) ∧ W.cell? ⟨bk, o + 3, none⟩ = some (.string (B d)) ∧ W.cell? ⟨bk, o + 4, none⟩ = some (.string (B e)) ∧ Below x1.heap.size x1 W) → Calls Tryd.prog 112 #[.string (B a)] W fun e' w' => ((e' = .returned (.int .i64 ((numW a).getD 0 : Nat)) ∧ numW a = some ((numW a).getD 0)) ∨ (ruleF (some [a, b, c, d, e]) = none ∧ e' = .panicked pcF)) ∧ (w'.cell? ⟨bk, o, none⟩ = some (.string (B a)) ∧ w'.cell? ⟨bk, o + 1, none⟩ = some (.string (B b)) ∧ w'.cell? ⟨bk, o + 2, none⟩ = some (.string (B c)) ∧ w'.cell? ⟨bk, o + 3, none⟩ = some (.string (B d)) ∧ w'.cell? ⟨bk, o + 4, none⟩ = some (.string (B e)) ∧ Below x1.heap.size x1 w') := fun W h => by
    refine (readNumber_any (B a) W (HT1.out.below h.2.2.2.2.2 H01.out) (Nat.lt_of_lt_of_le H01.out h.2.2.2.2.2.size) (by rw [size_B]; have := HS.out; omega)).mono ?_
    rintro e' w' ⟨rfl, hb⟩
    refine ⟨?_, CJ w' (h.2.2.2.2.2.trans (hb.mono h.2.2.2.2.2.size))⟩
    rw [toList_B]
    cases hn : numW a with
    | none => exact Or.inr ⟨ruleF_none (by simp [hn]), rfl⟩
    | some n => exact Or.inl ⟨rfl, rfl⟩
  have C2 : ∀ W, (W.cell? ⟨bk, o, none⟩ = some (.string (B a)) ∧ W.cell? ⟨bk, o + 1, none⟩ = some (.string (B b)) ∧ W.cell? ⟨bk, o + 2, none⟩ = some (.string (B c)) ∧ W.cell? ⟨bk, o + 3, none⟩ = some (.string (B d)) ∧ W.cell? ⟨bk, o + 4, none⟩ = some (.string (B e)) ∧ Below x1.heap.size x1 W) → Calls Tryd.prog 112 #[.string (B b)] W fun e' w' => ((e' = .returned (.int .i64 ((numW b).getD 0 : Nat)) ∧ numW b = some ((numW b).getD 0)) ∨ (ruleF (some [a, b, c, d, e]) = none ∧ e' = .panicked pcF)) ∧ (w'.cell? ⟨bk, o, none⟩ = some (.string (B a)) ∧ w'.cell? ⟨bk, o + 1, none⟩ = some (.string (B b)) ∧ w'.cell? ⟨bk, o + 2, none⟩ = some (.string (B c)) ∧ w'.cell? ⟨bk, o + 3, none⟩ = some (.string (B d)) ∧ w'.cell? ⟨bk, o + 4, none⟩ = some (.string (B e)) ∧ Below x1.heap.size x1 w') := fun W h => by
    refine (readNumber_any (B b) W (HT1.out.below h.2.2.2.2.2 H01.out) (Nat.lt_of_lt_of_le H01.out h.2.2.2.2.2.size) (by rw [size_B]; have := HS.out; omega)).mono ?_
    rintro e' w' ⟨rfl, hb⟩
    refine ⟨?_, CJ w' (h.2.2.2.2.2.trans (hb.mono h.2.2.2.2.2.size))⟩
    rw [toList_B]
    cases hn : numW b with
    | none => exact Or.inr ⟨ruleF_none (by simp [hn]), rfl⟩
    | some n => exact Or.inl ⟨rfl, rfl⟩
  have C3 : ∀ W, (W.cell? ⟨bk, o, none⟩ = some (.string (B a)) ∧ W.cell? ⟨bk, o + 1, none⟩ = some (.string (B b)) ∧ W.cell? ⟨bk, o + 2, none⟩ = some (.string (B c)) ∧ W.cell? ⟨bk, o + 3, none⟩ = some (.string (B d)) ∧ W.cell? ⟨bk, o + 4, none⟩ = some (.string (B e)) ∧ Below x1.heap.size x1 W) → Calls Tryd.prog 114 #[.string (B c)] W fun e' w' => ((e' = .returned (.string (B ((textW c).getD []))) ∧ textW c = some ((textW c).getD [])) ∨ (ruleF (some [a, b, c, d, e]) = none ∧ e' = .panicked pcF)) ∧ (w'.cell? ⟨bk, o, none⟩ = some (.string (B a)) ∧ w'.cell? ⟨bk, o + 1, none⟩ = some (.string (B b)) ∧ w'.cell? ⟨bk, o + 2, none⟩ = some (.string (B c)) ∧ w'.cell? ⟨bk, o + 3, none⟩ = some (.string (B d)) ∧ w'.cell? ⟨bk, o + 4, none⟩ = some (.string (B e)) ∧ Below x1.heap.size x1 w') := fun W h => by
    refine (readText_any c W).mono ?_
    rintro e' w' ⟨rfl, rfl⟩
    refine ⟨?_, h⟩
    cases hn : textW c with
    | none => exact Or.inr ⟨ruleF_none (by simp [hn]), rfl⟩
    | some n => exact Or.inl ⟨rfl, rfl⟩
  have C4 : ∀ W, (W.cell? ⟨bk, o, none⟩ = some (.string (B a)) ∧ W.cell? ⟨bk, o + 1, none⟩ = some (.string (B b)) ∧ W.cell? ⟨bk, o + 2, none⟩ = some (.string (B c)) ∧ W.cell? ⟨bk, o + 3, none⟩ = some (.string (B d)) ∧ W.cell? ⟨bk, o + 4, none⟩ = some (.string (B e)) ∧ Below x1.heap.size x1 W) → Calls Tryd.prog 114 #[.string (B d)] W fun e' w' => ((e' = .returned (.string (B ((textW d).getD []))) ∧ textW d = some ((textW d).getD [])) ∨ (ruleF (some [a, b, c, d, e]) = none ∧ e' = .panicked pcF)) ∧ (w'.cell? ⟨bk, o, none⟩ = some (.string (B a)) ∧ w'.cell? ⟨bk, o + 1, none⟩ = some (.string (B b)) ∧ w'.cell? ⟨bk, o + 2, none⟩ = some (.string (B c)) ∧ w'.cell? ⟨bk, o + 3, none⟩ = some (.string (B d)) ∧ w'.cell? ⟨bk, o + 4, none⟩ = some (.string (B e)) ∧ Below x1.heap.size x1 w') := fun W h => by
    refine (readText_any d W).mono ?_
    rintro e' w' ⟨rfl, rfl⟩
    refine ⟨?_, h⟩
    cases hn : textW d with
    | none => exact Or.inr ⟨ruleF_none (by simp [hn]), rfl⟩
    | some n => exact Or.inl ⟨rfl, rfl⟩
  have C5 : ∀ W, (W.cell? ⟨bk, o, none⟩ = some (.string (B a)) ∧ W.cell? ⟨bk, o + 1, none⟩ = some (.string (B b)) ∧ W.cell? ⟨bk, o + 2, none⟩ = some (.string (B c)) ∧ W.cell? ⟨bk, o + 3, none⟩ = some (.string (B d)) ∧ W.cell? ⟨bk, o + 4, none⟩ = some (.string (B e)) ∧ Below x1.heap.size x1 W) → Calls Tryd.prog 112 #[.string (B e)] W fun e' w' => ((e' = .returned (.int .i64 ((numW e).getD 0 : Nat)) ∧ numW e = some ((numW e).getD 0)) ∨ (ruleF (some [a, b, c, d, e]) = none ∧ e' = .panicked pcF)) ∧ (w'.cell? ⟨bk, o, none⟩ = some (.string (B a)) ∧ w'.cell? ⟨bk, o + 1, none⟩ = some (.string (B b)) ∧ w'.cell? ⟨bk, o + 2, none⟩ = some (.string (B c)) ∧ w'.cell? ⟨bk, o + 3, none⟩ = some (.string (B d)) ∧ w'.cell? ⟨bk, o + 4, none⟩ = some (.string (B e)) ∧ Below x1.heap.size x1 w') := fun W h => by
    refine (readNumber_any (B e) W (HT1.out.below h.2.2.2.2.2 H01.out) (Nat.lt_of_lt_of_le H01.out h.2.2.2.2.2.size) (by rw [size_B]; have := HS.out; omega)).mono ?_
    rintro e' w' ⟨rfl, hb⟩
    refine ⟨?_, CJ w' (h.2.2.2.2.2.trans (hb.mono h.2.2.2.2.2.size))⟩
    rw [toList_B]
    cases hn : numW e with
    | none => exact Or.inr ⟨ruleF_none (by simp [hn]), rfl⟩
    | some n => exact Or.inl ⟨rfl, rfl⟩
  refine wp_region_qp (m := ruleF (some [a, b, c, d, e]) = none) (pc := pcF) (C := fun W => W.cell? ⟨bk, o, none⟩ = some (.string (B a)) ∧ W.cell? ⟨bk, o + 1, none⟩ = some (.string (B b)) ∧ W.cell? ⟨bk, o + 2, none⟩ = some (.string (B c)) ∧ W.cell? ⟨bk, o + 3, none⟩ = some (.string (B d)) ∧ W.cell? ⟨bk, o + 4, none⟩ = some (.string (B e)) ∧ Below x1.heap.size x1 W) 20 (by kernel_rfl) (by kernel_rfl) (CJ _ (Below.refl _ _).drew) ?_ ?_
  · rintro hf a' W hd ⟨-, -, -, -, -, hb⟩
    exact ⟨hd, by rw [E.out, hf]; rfl, HB1.out.trans (hb.mono HB1.out.size)⟩
  simp only [List.take_succ_cons, List.take_zero, List.drop_succ_cons, List.drop_zero]
  repeat (first | (refine wpQP_step rfl ?_; intro K hK; refine quiet_value ?_ (fun W h => ?_) ?_; rotate_left; (· obtain ⟨s0, s1, s2, s3, s4, hb2⟩ := h; go_simp; rfl); go_simp; go_big_quiet_on) | (refine wpQP_may _ _ _ _ rfl (fun W => ?_) C1 ?_; (· go_simp; done); intro K hK; go_simp; go_big_quiet_on) | (refine wpQP_may _ _ _ _ rfl (fun W => ?_) C2 ?_; (· go_simp; done); intro K hK; go_simp; go_big_quiet_on) | (refine wpQP_may _ _ _ _ rfl (fun W => ?_) C3 ?_; (· go_simp; done); intro K hK; go_simp; go_big_quiet_on) | (refine wpQP_may _ _ _ _ rfl (fun W => ?_) C4 ?_; (· go_simp; done); intro K hK; go_simp; go_big_quiet_on) | (refine wpQP_may _ _ _ _ rfl (fun W => ?_) C5 ?_; (· go_simp; done); intro K hK; go_simp; go_big_quiet_on))
  refine wpQP_nil ?_
  rintro ⟨⟨⟨⟨⟨-, e1⟩, e2⟩, e3⟩, e4⟩, e5⟩ x2 ⟨-, -, -, -, -, hb⟩
  have E2 := Lib.hid (show fw = some ⟨((numW a).getD 0 : Nat), ((numW b).getD 0 : Nat), (textW c).getD [], (textW d).getD [], ((numW e).getD 0 : Nat)⟩ by rw [E.out]; simp only [ruleF]; rw [e1, e2, e3, e4, e5]; rfl)
  generalize (numW a).getD 0 = p1 at *
  generalize (numW b).getD 0 = p2 at *
  generalize (textW c).getD [] = p3 at *
  generalize (textW d).getD [] = p4 at *
  generalize (numW e).getD 0 = p5 at *
  have RB2 := RB1.out.below hb
  have HB2 := Lib.hid (HB1.out.trans (hb.mono HB1.out.size))
  clear hb e1 e2 e3 e4 e5 C1 C2 C3 C4 C5 CJ y0 y1 y2 y3 y4 hcl HB1 RB1 E
  go_wp2_with (first | (refine wpList_store_rl rfl _ _ rfl _ _ RB2 rfl ⟨p1, p2, p3, p4, p5⟩ rfl ?_; intro W' hB' hg' hs'; clear RB2))
  refine ret_rl rfl rfl rfl hB' ?_
  exact ⟨by rw [E2.out]; rfl, HB2.out.grown hg' HB2.out.size (by simp)⟩
end Go.Proofs.YtnbiedijofdjhaaDoor
