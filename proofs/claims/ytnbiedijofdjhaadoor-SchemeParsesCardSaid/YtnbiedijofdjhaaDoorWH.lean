/-
  The reference's Parse.
-/
import Derived.Test.YtnbiedijofdjhaaDoorWU
import Derived.Test.YtnbiedijofdjhaaDoorWC
namespace Go.Proofs.YtnbiedijofdjhaaDoor
open Go.RowKit
open Pl

theorem readR_none {x : List UInt8} {t : List (List UInt8)} (h : firstW x = none ∨ t = []) : readR (x :: t) = none := by
  cases t with
  | nil => rfl
  | cons y r =>
    rcases h with h | h
    · simp only [readR, h]
    · cases h
theorem readR_some {x : List UInt8} {t : List (List UInt8)} {m a : Nat} (h : firstW x = some (m, a)) (ht : t ≠ []) : readR (x :: t) = some (m, a, linesR t) := by
  cases t with
  | nil => exact absurd rfl ht
  | cons y r => simp only [readR, h]
theorem lines_bad {T : List (List UInt8)} {k : Nat} (hk : k + 1 < T.length) (h : ruleW T[k] = none) : linesR (T.drop k) = ([], false) := by
  rw [List.drop_eq_getElem_cons (by omega), List.drop_eq_getElem_cons (by omega), linesR, h]
theorem lines_step {T : List (List UInt8)} {k : Nat} {z : Rl} (hk : k + 1 < T.length) (h : ruleW T[k] = some z) : linesR (T.drop k) = (z :: (linesR (T.drop (k + 1))).1, (linesR (T.drop (k + 1))).2) := by
  rw [List.drop_eq_getElem_cons (i := k) (by omega), List.drop_eq_getElem_cons (i := k + 1) (by omega), linesR, h]
theorem lines_end {T : List (List UInt8)} {k : Nat} (hk : k + 1 = T.length) : linesR (T.drop k) = ([], decide (T[k] = [])) := by
  rw [List.drop_eq_getElem_cons (i := k) (by omega), List.drop_eq_nil_of_le (by omega), linesR]
theorem isEmpty_B (q : List UInt8) : (B q).toList.isEmpty = decide (q = []) := by
  cases q with
  | nil => rw [ByteArray.toList_eq, toList_B]; rfl
  | cons a t => rw [ByteArray.toList_eq, toList_B]; rfl
set_option maxHeartbeats 2000000 in
set_option maxRecDepth 100000 in
theorem RParse_any (s : List UInt8) (w : World) (hs : s.length ≤ 100000) : Calls Tryd.prog 24 #[.string (B s)] w (PsPost s w) := by
  have hb : Below w.heap.size w (w.alloc (.cells #[.int .i64 0, .int .u8 0, .slice none 0 0] 24)) := (Below.refl _ _).alloc (Nat.le_refl _) _
  have SB0 := Lib.hid (SchBlock.new w (.int .i64 0) (.int .u8 0) (.slice none 0 0))
  have CS := fun W => Lib.hid (Split_any (B s) 10 W (by rw [size_B]; omega))
  rw [toList_B] at CS
  obtain ⟨ps, hps⟩ : ∃ ps, ps = splitS 10 [] s := ⟨_, rfl⟩
  have RW := Lib.hid (show readW s = readR ps by rw [hps]; exact readW_lines s)
  have PL := parts_len 10 s []
  have SH := Lib.hid (show ∀ x ∈ ps, x.length ≤ 1000000 from fun x hx => by rw [hps] at hx; have := parts_short 10 s x hx; omega)
  have RI := fun (m x : Nat) (rs : List Rl) (ok : Bool) h => Lib.hid (readW_in (s := s) (m := m) (x := x) (rs := rs) (ok := ok) h)
  rw [← hps] at CS PL
  have HB := Lib.hid hb
  have hw0 := hb.size
  clear hb
  obtain ⟨x0, T, rfl⟩ : ∃ x t, ps = x :: t := by
    cases ps with
    | nil => simp at PL
    | cons x t => exact ⟨x, t, rfl⟩
  rw [List.length_cons] at PL
  clear hps
  go_enter Tryd.func24, Tryd.ntmps24
  go_wp2_with fail
  have hz0 : w.heap.size < (w.alloc (.cells #[.int .i64 0, .int .u8 0, .slice none 0 0] 24)).heap.size := by rw [World.size_alloc]; omega
  generalize w.alloc _ = w1 at *
  refine ((CS w1).out).mono ?_
  rintro e x1 ⟨⟨g, cap, rfl, ho⟩, hb⟩
  rw [List.length_cons]
  have HB1 := Lib.hid (HB.out.trans (hb.mono HB.out.size))
  have SB1 := Lib.hid (SB0.out.below hb)
  have hgl := ho.block.2
  have hz1 := Nat.lt_of_lt_of_le hz0 hb.size
  have c0 := ho.cell 0 (by simp)
  have CL := Lib.hid (show ∀ j (h : j < T.length), x1.cell? ⟨g, j + 1, none⟩ = some (.string (B T[j])) from fun j h => ho.cell (j + 1) (by simp; omega))
  simp only [List.getElem_cons_zero] at c0
  clear hb CS HB SB0 ho hz0
  have hwn : IntKind.i64.wrap ((T.length : Int) + 1 - 1) = (T.length : Int) := by rw [IntWalk.i64_in _ (by omega)]; omega
  have hp0 : (0 : Int) < (T.length : Int) + 1 := by omega
  go_wp2_with fail
  refine (head_any x0 x1 (SH.out x0 (by simp))).mono ?_
  rintro e x2 ⟨⟨hm, hx, bo, rfl, hcase⟩, hb⟩
  have HB2 := Lib.hid (HB1.out.trans (hb.mono HB1.out.size))
  have SB2 := Lib.hid (SB1.out.below hb)
  have HC2 := Lib.hid hb
  have hz2 := Nat.lt_of_lt_of_le hz1 hb.size
  clear hb SB1 c0
  have NB := SchBlock.new x2 (.int .i64 0) (.int .u8 0) (.slice none 0 0)
  have al := (Below.refl x2.heap.size x2).alloc (Nat.le_refl _) (.cells #[.int .i64 0, .int .u8 0, .slice none 0 0] 24)
  have HB3 := Lib.hid (HB2.out.trans (al.mono HB2.out.size))
  have SB3 := Lib.hid (SB2.out.below al)
  have HC3 := Lib.hid (HC2.out.trans (al.mono HC2.out.size))
  have hs3 : (x2.alloc (.cells #[.int .i64 0, .int .u8 0, .slice none 0 0] 24)).heap.size = x2.heap.size + 1 := World.size_alloc _ _
  have hw2 := HB2.out.size
  have hw21 := HC2.out.size
  clear al HB2 SB2 HC2 HB1
  go_upto_region 4 with (first | (refine wpList_store_sch rfl _ _ rfl _ _ _ _ NB rfl _ _ _ _ _ rfl ?_; intro x4 S4 hg' hs'; clear NB))
  have SB4 := Lib.hid (SB3.out.keptBy hg' (by simp; omega))
  have HB4 := Lib.hid (HB3.out.grown hg' HB3.out.size (by simp; omega))
  have HC4 := Lib.hid (HC3.out.grown hg' HC3.out.size (by simp; omega))
  have S4 := Lib.hid S4
  rw [hs3] at hs'
  clear hg' HB3 SB3 HC3 hs3
  rcases hcase with ⟨rfl, hf⟩ | ⟨rfl, m', a', hf, rfl, rfl⟩
  · have RN := Lib.hid (show readW s = none by rw [RW.out]; exact readR_none (Or.inl hf))
    have SBR := SB4.out
    clear hf
    go_wp2_with (first | (refine wpList_store_sch rfl _ _ rfl _ _ _ _ SBR rfl _ _ _ _ _ rfl ?_; intro W' hB' hg' hs''; clear SBR))
    refine ret_sch3 rfl rfl rfl hB' ?_
    refine ⟨HB4.out.grown hg' HB4.out.size (by simp), ?_⟩
    rw [RN.out]; rfl
  by_cases hT : T = []
  · subst hT
    have RN := Lib.hid (show readW s = none by rw [RW.out]; exact readR_none (Or.inr rfl))
    have SBR := SB4.out
    clear hf
    go_wp2_with (first | (refine wpList_store_sch rfl _ _ rfl _ _ _ _ SBR rfl _ _ _ _ _ rfl ?_; intro W' hB' hg' hs''; clear SBR))
    refine ret_sch3 rfl rfl rfl hB' ?_
    refine ⟨HB4.out.grown hg' HB4.out.size (by simp), ?_⟩
    rw [RN.out]; rfl
  have RS := Lib.hid (show readW s = some (m', a', linesR T) by rw [RW.out]; exact readR_some hf hT)
  have hT1 : 1 ≤ T.length := List.length_pos_iff.2 hT
  have hT0 : ((T.length : Int) == 0) = false := by rw [beq_eq_false_iff_ne]; omega
  clear hf RW hT
  generalize hg7 : x2.heap.size = g7 at *
  go_wp2_with fail
  go_loopw [9] (fun iv wr => ∃ (k : Nat) (va : Option Addr) (vc : Nat) (rs : List Rl), iv = .int .i64 ((k + 1 : Nat) : Int) ∧ k + 1 ≤ T.length ∧ rs.length = k ∧ linesR T = (rs ++ (linesR (T.drop k)).1, (linesR (T.drop k)).2) ∧ SchBlock wr g7 (.int .i64 m') (.int .u8 a') (.slice va rs.length vc) ∧ RlsOwn wr (g7 + 1) (.slice va rs.length vc) rs ∧ SchBlock wr w.heap.size (.int .i64 0) (.int .u8 0) (.slice none 0 0) ∧ Below w.heap.size w wr ∧ Below x1.heap.size x1 wr ∧ g7 < wr.heap.size) (fun iv _ => T.length - (intOf iv).toNat)
  case atStart => exact ⟨0, none, 0, [], rfl, hT1, rfl, by simp, S4.out, ⟨rfl, Or.inl ⟨rfl, rfl⟩⟩, SB4.out, HB4.out, HC4.out, by omega⟩
  case round =>
    obtain ⟨k, va, vc, rs, rfl, hk, hkr, hL, s4, ho, sb, hb, hc, hz⟩ := hrel
    have S4' := Lib.hid s4
    have HO := Lib.hid ho
    have SBr := Lib.hid sb
    have HBr := Lib.hid hb
    have HCr := Lib.hid hc
    have HLL := Lib.hid hL
    have HKR := Lib.hid hkr
    have hw3 := hb.size
    have hrl : rs.length ≤ T.length := by omega
    clear s4 ho sb hb hc hL S4 SB4 HB4 HC4 hkr
    by_cases hlt : k + 1 < T.length
    · have hi0 : (0 : Int) ≤ ((k + 1 : Nat) : Int) := by omega
      have hi1 : ((k + 1 : Nat) : Int) < (T.length : Int) := by omega
      have hi2 : ((k + 1 : Nat) : Int) < (T.length : Int) + 1 := by omega
      have cl := (HCr.out.cell (p := ⟨g, k + 1, none⟩) hgl).trans (CL.out k (by omega))
      have TM := SH.out (T[k]'(by omega)) (by simp)
      have LB := fun h => Lib.hid (lines_bad (T := T) (k := k) hlt h)
      have LS := fun z h => Lib.hid (lines_step (T := T) (k := k) (z := z) hlt h)
      generalize T[k]'(by omega) = lk at *
      obtain ⟨p, hp⟩ : ∃ p, p = k + 1 := ⟨_, rfl⟩
      rw [← hp] at hi0 hi1 hi2 cl ⊢
      have HPP := Lib.hid hp
      clear hp
      go_wp2_with fail
      refine (rule_any lk wr TM).mono ?_
      rintro e x5 ⟨⟨r, bo, rfl, hcase⟩, hb⟩
      have HB5 := Lib.hid (HBr.out.trans (hb.mono HBr.out.size))
      have HC5 := Lib.hid (HCr.out.trans (hb.mono HCr.out.size))
      have S5 := Lib.hid (S4'.out.below hb)
      have HO5 := Lib.hid (HO.out.later hb)
      have SB5 := Lib.hid (SBr.out.below hb)
      have hz5 := Nat.lt_of_lt_of_le hz hb.size
      clear hb HBr HCr S4' HO SBr cl
      have NB : RlBlock (x5.alloc (.cells #[.int .i64 0, .int .i64 0, .string ⟨#[]⟩, .string ⟨#[]⟩, .int .i64 0] 29)) x5.heap.size ⟨0, 0, [], [], 0⟩ := heap_alloc_new x5 _
      have al := (Below.refl x5.heap.size x5).alloc (Nat.le_refl _) (.cells #[.int .i64 0, .int .i64 0, .string ⟨#[]⟩, .string ⟨#[]⟩, .int .i64 0] 29)
      have AL := Lib.hid al
      have hs6 : (x5.alloc (.cells #[.int .i64 0, .int .i64 0, .string ⟨#[]⟩, .string ⟨#[]⟩, .int .i64 0] 29)).heap.size = x5.heap.size + 1 := World.size_alloc _ _
      have hw5 := HB5.out.size
      have hw51 := HC5.out.size
      clear al
      go_upto_region 10 with (first | (refine wpList_store_rl rfl _ _ rfl _ _ NB rfl r rfl ?_; intro x7 R7 hg' hs'; clear NB))
      have hbb := AL.out.grown hg' AL.out.size (by simp)
      have HB7 := Lib.hid (HB5.out.trans (hbb.mono HB5.out.size))
      have HC7 := Lib.hid (HC5.out.trans (hbb.mono HC5.out.size))
      have S7 := Lib.hid (S5.out.below hbb)
      have SB7 := Lib.hid (SB5.out.below hbb)
      have HO7 := Lib.hid (HO5.out.later hbb)
      have R7 := Lib.hid R7
      rw [hs6] at hs'
      have HS7 := Lib.hid hs'
      have hz7 : g7 < x7.heap.size := by omega
      clear hg' HB5 HC5 S5 HO5 SB5 hs6 AL hbb hs'
      rcases hcase with ⟨rfl, hrn⟩ | ⟨rfl, hrn⟩
      · have RN := Lib.hid (show readW s = some (m', a', rs, false) by rw [RS.out, HLL.out, (LB hrn).out]; simp)
        have SBR := SB7.out
        have hwk : IntKind.i64.wrap ((p : Int) - 1) = (k : Int) := by rw [IntWalk.i64_in _ (by omega)]; have := HPP.out; omega
        clear hrn LB LS
        go_wp2_with (first | (refine wpList_store_sch rfl _ _ rfl _ _ _ _ SBR rfl _ _ _ _ _ rfl ?_; intro W' hB' hg' hs''; clear SBR))
        refine ret_sch3 rfl rfl rfl hB' ?_
        refine ⟨HB7.out.grown hg' HB7.out.size (by simp), ?_⟩
        rw [RN.out]
        dsimp only
        rw [HKR.out]; rfl
      · have LS2 := Lib.hid (show linesR T = ((rs ++ [r]) ++ (linesR (T.drop (k + 1))).1, (linesR (T.drop (k + 1))).2) by rw [HLL.out, (LS r hrn).out]; simp)
        clear hrn LB LS
        obtain ⟨z0, z1, z2⟩ := S7.out.cells
        obtain ⟨q0, q1, q2, q3, q4⟩ := R7.out.cells
        have al := (Below.refl x7.heap.size x7).alloc (Nat.le_refl _) (.cells #[.int .i64 r.src, .int .i64 r.dst, .string (B r.inp), .string (B r.out), .int .i64 r.cost] 29)
        have S8 := Lib.hid (S7.out.below al)
        have HO8 := Lib.hid (HO7.out.later al)
        have HB8 := Lib.hid (HB7.out.trans (al.mono HB7.out.size))
        have HC8 := Lib.hid (HC7.out.trans (al.mono HC7.out.size))
        have SB8 := Lib.hid (SB7.out.below al)
        have hown : (x7.alloc (.cells #[.int .i64 r.src, .int .i64 r.dst, .string (B r.inp), .string (B r.out), .int .i64 r.cost] 29)).ownsRow (g7 + 1) 29 5 (.slice va rs.length vc) rs.length (rs.flatMap rlCells) := HO8.out
        have hnews := Lib.hid (World.news_of_block (w := x7.alloc (.cells #[.int .i64 r.src, .int .i64 r.dst, .string (B r.inp), .string (B r.out), .int .i64 r.cost] 29)) (B := x7.heap.size) (cs := (rlCells r).toArray) (t := 29) (fr := (0, 0)) (heap_alloc_new x7 _))
        have hne1 := HO8.out.ne (show g7 < g7 + 1 by omega)
        have hne2 := HO8.out.ne (show w.heap.size < g7 + 1 by omega)
        have hob : ∀ q, (Value.slice va rs.length vc).ownBlock = some q → g7 + 1 ≤ q := fun q hq => by
          rcases Nat.lt_or_ge q (g7 + 1) with h | h
          · exact absurd hq (HO8.out.ne h)
          · exact h
        have hn1 : rs.length + 1 ≤ maxLen := by unfold maxLen; omega
        have hby : (rs.length + 1) * 56 ≤ 140737488355328 := by omega
        have hba : g7 + 1 ≤ (x7.alloc (.cells #[.int .i64 r.src, .int .i64 r.dst, .string (B r.inp), .string (B r.out), .int .i64 r.cost] 29)).heap.size := by rw [World.size_alloc]; omega
        obtain ⟨i0, hi0, hz0, hz1', hz2'⟩ := info_parts infoRl
        have hzz8 : g7 < (x7.alloc (.cells #[.int .i64 r.src, .int .i64 r.dst, .string (B r.inp), .string (B r.out), .int .i64 r.cost] 29)).heap.size := by omega
        clear al HO7 S7 HB7 HC7 SB7
        go_wp2_with (first | (refine wpList_append_lies _ rfl _ _ _ rfl (g7 + 1) 29 i0 _ 5 56 Tryd.underlying22 hi0 hz0 hz1' hz2' rfl (by decide) (.slice va rs.length vc) rs.length (rs.flatMap rlCells) (by rfl) hown ⟨x7.heap.size, 0, none⟩ 1 1 (rlCells r) (by rfl) rfl hnews.out (by simp [rlCells, Value.oneCell']) (by decide) hn1 hby hba (x7.heap.size + 1) (by simp) ?_; intro gT cap' w8 hown8 hgrow hat hlt8; obtain ⟨u0, u1, u2⟩ := (S8.out.keptBy hgrow hne1).cells; have uf := (S8.out.keptBy hgrow hne1).free))
        have hgT : g7 + 1 ≤ gT := by
          rcases hat with h | h
          · exact hob gT h
          · omega
        have hlen : (rs ++ [r]).length = rs.length + 1 := by simp
        have HO9 := Lib.hid ((show RlsOwn w8 (g7 + 1) (.slice (some ⟨gT, 0, none⟩) (rs.length + 1) cap') (rs ++ [r]) by
          unfold RlsOwn
          rw [hlen, List.flatMap_append]
          simpa using hown8).keep1 (W' := w8.setCell ⟨g7, 2, none⟩ (.slice (some ⟨gT, 0, none⟩) (rs.length + 1) cap')) (by simp only [World.setCell, Array.getElem?_modify, if_neg (show ¬ g7 = gT by omega)]))
        have S9 := Lib.hid ((S8.out.keptBy hgrow hne1).put2 (v := .slice (some ⟨gT, 0, none⟩) (rs.length + 1) cap'))
        have SB9 := Lib.hid ((SB8.out.keptBy hgrow hne2).setCellAt (b' := g7) (o := 2) (u := .slice (some ⟨gT, 0, none⟩) (rs.length + 1) cap') (by omega))
        have HB9 := Lib.hid ((HB8.out.grown hgrow HB8.out.size (fun q hq => by have := hob q hq; omega)).setCell (p := ⟨g7, 2, none⟩) (by simp; omega) (.slice (some ⟨gT, 0, none⟩) (rs.length + 1) cap'))
        have HC9 := Lib.hid ((HC8.out.grown hgrow HC8.out.size (fun q hq => by have := hob q hq; omega)).setCell (p := ⟨g7, 2, none⟩) (by simp; omega) (.slice (some ⟨gT, 0, none⟩) (rs.length + 1) cap'))
        have hz9 : g7 < (w8.setCell ⟨g7, 2, none⟩ (.slice (some ⟨gT, 0, none⟩) (rs.length + 1) cap')).heap.size := by simp; omega
        go_roundw
        case rel => exact ⟨k + 1, some ⟨gT, 0, none⟩, cap', rs ++ [r], by have := HPP.out; rw [this]; go_num, by omega, by rw [hlen, HKR.out], LS2.out, by rw [hlen]; exact S9.out, by rw [hlen]; exact HO9.out, SB9.out, HB9.out, HC9.out, hz9⟩
        case measure => have := HPP.out; simp [intOf]; omega
    · have hi1 : ¬ ((k + 1 : Nat) : Int) < (T.length : Int) := by omega
      have hke : k + 1 = T.length := by omega
      have cl := (HCr.out.cell (p := ⟨g, k + 1, none⟩) hgl).trans (CL.out k (by omega))
      have LE := Lib.hid (lines_end (T := T) (k := k) hke)
      have HZ := isEmpty_B (T[k]'(by omega))
      generalize T[k]'(by omega) = lk at *
      obtain ⟨p, hp⟩ : ∃ p, p = k + 1 := ⟨_, rfl⟩
      have hpT : (p : Int) = (T.length : Int) := by omega
      have hpT2 : T.length = p := by omega
      rw [← hp] at hi1 cl ⊢
      have hp2 : (p : Int) < (p : Int) + 1 := by omega
      have hp3 : (0 : Int) ≤ (p : Int) := by omega
      have HPP := Lib.hid hp
      have HKE := Lib.hid hke
      have HTP := Lib.hid hpT2
      have hwk : IntKind.i64.wrap ((p : Int) - 1) = (k : Int) := by rw [IntWalk.i64_in _ (by omega)]; omega
      clear hp hke hpT hpT2
      by_cases hlk : lk = []
      rotate_left
      · have RN := Lib.hid (show readW s = some (m', a', rs, false) by rw [RS.out, HLL.out, LE.out, decide_eq_false hlk]; simp)
        rw [decide_eq_false hlk] at HZ
        have SBR := SBr.out
        rw [HTP.out] at hi1 ⊢
        clear hlk
        go_wp2_with (first | (refine wpList_store_sch rfl _ _ rfl _ _ _ _ SBR rfl _ _ _ _ _ rfl ?_; intro W' hB' hg' hs''; clear SBR))
        refine ret_sch3 rfl rfl rfl hB' ?_
        refine ⟨HBr.out.grown hg' HBr.out.size (by simp), ?_⟩
        rw [RN.out]
        dsimp only
        rw [HKR.out]; rfl
      · have RN := Lib.hid (show readW s = some (m', a', rs, true) by rw [RS.out, HLL.out, LE.out, decide_eq_true hlk]; simp)
        rw [decide_eq_true hlk] at HZ
        rw [HTP.out] at hi1 ⊢
        clear hlk
        obtain ⟨hm1, ha1, hrl1, hri⟩ := (RI _ _ _ _ RN.out).out
        obtain ⟨va', vc', hvv, hvc, hXA⟩ := HO.out.at
        obtain ⟨rfl, rfl⟩ : va = va' ∧ vc = vc' := by simpa using hvv
        have CK := Lib.hid (RCheck_any m' a' va vc rs wr hXA (by unfold maxLen; omega) (fun x hx => by
          have := hri x hx
          have h1 := this.i
          have h2 := this.o
          unfold maxLen
          omega) (by omega) (by omega))
        obtain ⟨z0, z1, z2⟩ := S4'.out.cells
        clear hvv hvc hXA hri
        go_wp2_with fail
        refine (CK.out).mono ?_
        rintro e x6 ⟨⟨ci, ce, rfl, hck⟩, hb⟩
        have HB6 := Lib.hid (HBr.out.trans (hb.mono HBr.out.size))
        have S6 := Lib.hid (S4'.out.below hb)
        have HO6 := Lib.hid (HO.out.later hb)
        have SB6 := Lib.hid (SBr.out.below hb)
        have HCK := Lib.hid hck
        clear z0 z1 z2 hb CK hck S4' HO SBr HBr
        have SBR := SB6.out
        rcases HCK.out.valid with ⟨rfl, -, -⟩ | ⟨rfl, -⟩
        · obtain ⟨z0, z1, z2⟩ := S6.out.cells
          go_wp2_with (first | (refine wpList_store_sch rfl _ _ rfl _ _ _ _ SBR rfl _ _ _ _ _ rfl ?_; intro W' hB' hg' hs''; clear SBR))
          refine ret_sch3 rfl rfl rfl hB' ?_
          refine ⟨HB6.out.grown hg' HB6.out.size (by simp), ?_⟩
          rw [RN.out]
          refine ⟨ci, 0, HCK.out, Or.inl ⟨rfl, _, rfl, ?_⟩⟩
          refine RlsOwn.base (b := g7 + 1) (HO6.out.keep fun q hq1 hq2 => hg'.block q hq2 (by simp; omega)) (by omega)
        · go_wp2_with (first | (refine wpList_store_sch rfl _ _ rfl _ _ _ _ SBR rfl _ _ _ _ _ rfl ?_; intro W' hB' hg' hs''; clear SBR))
          refine ret_sch3 rfl rfl rfl hB' ?_
          refine ⟨HB6.out.grown hg' HB6.out.size (by simp), ?_⟩
          rw [RN.out]
          exact ⟨ci, 20, HCK.out, Or.inr ⟨rfl, rfl⟩⟩
end Go.Proofs.YtnbiedijofdjhaaDoor
