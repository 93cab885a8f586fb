/-
  The walk of the law EventScripts: it answers true, whatever its two lists of raw events are.
-/
import Derived.Test.YtcbboegjegobeaaDoorLN
namespace Go.Proofs.YtcbboegjegobeaaDoor
open Go.RowKit
open Pl

theorem flat_one (its : List (Ev × Value)) (h : ∀ it ∈ its, ∃ a n c, it.2 = .slice a n c) : ∀ u ∈ its.flatMap itCells, u.oneCell' = true := by
  intro u hu
  rw [List.mem_flatMap] at hu
  obtain ⟨it, h1, h2⟩ := hu
  obtain ⟨a, n, c, e⟩ := h it h1
  simp only [itCells, e, List.mem_cons, List.mem_nil_iff, or_false] at h2
  rcases h2 with rfl | rfl | rfl | rfl | rfl | rfl <;> rfl
theorem EvsOwn.vals {W : World} {b : Nat} {v : Value} {its : List (Ev × Value)} (h : EvsOwn W b v its) : ∀ it ∈ its, ∃ a n c, it.2 = .slice a n c := by
  intro it hit
  obtain ⟨a, c, e⟩ := own_form (h.2 it hit)
  exact ⟨a, _, c, e⟩
theorem flat_len (its : List (Ev × Value)) : (its.flatMap itCells).length = its.length * 6 := by
  induction its with
  | nil => rfl
  | cons a r ih => rw [List.flatMap_cons, List.length_append, ih]; simp [itCells]; omega
theorem EvsOwn.news {W : World} {b g c n : Nat} {its : List (Ev × Value)} (h : EvsOwn W b (.slice (some ⟨g, 0, none⟩) n c) its) : ∀ j u, (its.flatMap itCells)[j]? = some u → W.cell? ((⟨g, 0, none⟩ : Addr).add j) = some u :=
  World.ownsRow.cells h.1 rfl

set_option maxHeartbeats 800000 in
set_option maxRecDepth 100000 in
theorem scripts_any (mx : Int) (la ma : Option Addr) (ln lc mn mc : Nat) (w : World) (hT : PowTab w) (hm : MaxVar w mx) (hw0 : 0 < w.heap.size)
    (hx : RawsAt w w.heap.size (.slice la ln lc) ln) (hy : RawsAt w w.heap.size (.slice ma mn mc) mn) (hln : ln ≤ maxLen) (hmn : mn ≤ maxLen) :
    Calls Tryd.prog 7 #[.slice la ln lc, .slice ma mn mc] w fun e w' => e = .returned (.bool true) ∧ Below w.heap.size w w' := by
  obtain ⟨i0, hi, hz0, hz1, hz2⟩ := info_parts infoEv
  have C0 := Lib.hid (sanity_any mx w hT hm hw0)
  have HM := Lib.hid hm
  have HX := Lib.hid hx
  have HY := Lib.hid hy
  have Hw0 := Lib.hid hw0
  have HLN := Lib.hid hln
  have HMN := Lib.hid hmn
  clear hT hm hx hy hw0 hln hmn
  go_enter Tryd.func7, Tryd.ntmps7
  go_wp2_with fail
  refine (C0.out).mono ?_
  rintro e x0 ⟨rfl, hb⟩
  have HB0 := Lib.hid hb
  have HX0 := Lib.hid (HX.out.on hb)
  have HY0 := Lib.hid (HY.out.on hb)
  clear hb C0 HX HY
  go_wp2_with fail
  refine (lines_evs la ln lc 8 _ HX0.out HLN.out (Nat.le_refl _)).mono ?_
  rintro e x1 ⟨A, ga, ca, rfl, hA, hAl, hAv, hb⟩
  have HA1 := Lib.hid hA
  have HAv := Lib.hid hAv
  have HB1 := Lib.hid (HB0.out.trans (hb.mono HB0.out.size))
  have HY1 := Lib.hid (HY0.out.on hb)
  clear hb HX0 HY0 HB0 hA hAv HLN
  go_wp2_with fail
  refine (lines_evs ma mn mc 8 _ HY1.out HMN.out (Nat.le_refl _)).mono ?_
  rintro e x2 ⟨C, gc, cc, rfl, hC, hCl, hCv, hb⟩
  have HC2 := Lib.hid hC
  have HCv := Lib.hid hCv
  have HA2 := Lib.hid (show ∃ its : List (Ev × Value), its.map (·.1) = A ∧ EvsOwn x2 0 (.slice (some ⟨ga, 0, none⟩) A.length ca) its by
    obtain ⟨its, h1, h2⟩ := HA1.out
    exact ⟨its, h1, (h2.base (Nat.zero_le _)).later hb⟩)
  have HB2 := Lib.hid (HB1.out.trans (hb.mono HB1.out.size))
  clear hb HY1 HB1 HA1 hC hCv HMN
  go_wp2_with fail
  refine (script_lines A HAv.out (by omega) mx _ (HM.out.below HB2.out Hw0.out) (Nat.lt_of_lt_of_le Hw0.out HB2.out.size)).mono ?_
  rintro e x3 ⟨sa, sc, rfl, hS, hb⟩
  have HS3 := Lib.hid hS
  have HB3 := Lib.hid (HB2.out.trans (hb.mono HB2.out.size))
  have HA3 := Lib.hid (show ∃ its : List (Ev × Value), its.map (·.1) = A ∧ EvsOwn x3 0 (.slice (some ⟨ga, 0, none⟩) A.length ca) its by
    obtain ⟨its, h1, h2⟩ := HA2.out
    exact ⟨its, h1, h2.later hb⟩)
  have HC3 := Lib.hid (show ∃ its : List (Ev × Value), its.map (·.1) = C ∧ EvsOwn x3 0 (.slice (some ⟨gc, 0, none⟩) C.length cc) its by
    obtain ⟨its, h1, h2⟩ := HC2.out
    exact ⟨its, h1, (h2.base (Nat.zero_le _)).later hb⟩)
  clear hb hS HB2 HA2 HC2
  have HS1 := Lib.hid (show (B (linesS A)).size + (B (linesS C)).size ≤ 9223372036854775807 by
    have h1 := linesS_len A HAv.out
    have h2 := linesS_len C HCv.out
    rw [size_B, size_B]; omega)
  go_wp2_with (first
    | (refine cat_step rfl _ _ _ rfl (B (linesS A)) (B (linesS C)) rfl rfl HS1.out ?_)
    | fail)
  obtain ⟨D, hDe⟩ : ∃ D, D = A ++ C := ⟨_, rfl⟩
  have hDlen := Lib.hid (show D.length = A.length + C.length by rw [hDe, List.length_append])
  rw [B_app, ← linesS_app, ← hDe]
  have hDe' := Lib.hid hDe
  clear hDe
  refine (script_lines D (fun ev h => by rw [hDe'.out] at h; rcases List.mem_append.1 h with h | h; exact HAv.out ev h; exact HCv.out ev h) (by have := hDlen.out; omega) mx _ (HM.out.below HB3.out Hw0.out) (Nat.lt_of_lt_of_le Hw0.out HB3.out.size)).mono ?_
  rintro e x4 ⟨da, dc, rfl, hD, hb⟩
  have HD4 := Lib.hid hD
  have HS4 := Lib.hid (HS3.out.below hb)
  have HB4 := Lib.hid (HB3.out.trans (hb.mono HB3.out.size))
  obtain ⟨itA, hA1, hA2⟩ := HA3.out
  obtain ⟨itC, hC1, hC2⟩ := HC3.out
  have HA4 := Lib.hid (hA2.later hb)
  have HC4 := Lib.hid (hC2.later hb)
  have hAl' : itA.length = A.length := by rw [← hA1, List.length_map]
  have hCl' : itC.length = C.length := by rw [← hC1, List.length_map]
  have HEq := Lib.hid (show (itA ++ itC).map (·.1) = D by rw [hDe'.out, List.map_append, hA1, hC1])
  have HPl := Lib.hid (show (∀ ev ∈ A, ev.p.length ≤ maxLen) ∧ ∀ ev ∈ D, ev.p.length ≤ maxLen from ⟨fun ev h => by have := valid_pts (HAv.out ev h); unfold maxLen; omega, fun ev h => by rw [hDe'.out] at h; rcases List.mem_append.1 h with h | h; (have := valid_pts (HAv.out ev h); unfold maxLen; omega); (have := valid_pts (HCv.out ev h); unfold maxLen; omega)⟩)
  clear hb hD HS3 HB3 HA3 HC3 HAv HCv HM Hw0 HS1 hA1 hA2 hC1 hC2
  have hal := below_alloc x4 (.cells #[] 31)
  have HA5 := Lib.hid (HA4.out.later hal)
  have hown0 : (x4.alloc (.cells #[] 31)).ownsRow x4.heap.size 31 6 (.slice (some ⟨x4.heap.size, 0, none⟩) 0 0) 0 [] := World.ownsRow_lit x4 #[] 0 (Nat.le_refl _) (by decide) rfl
  have hmx : 0 + A.length ≤ maxLen := by unfold maxLen; omega
  have hby : (0 + A.length) * 80 ≤ 140737488355328 := by omega
  have hba : x4.heap.size ≤ (x4.alloc (.cells #[] 31)).heap.size := hal.size
  have hfl : (itA.flatMap itCells).length = A.length * 6 := by rw [flat_len, hAl']
  have hfc : (itC.flatMap itCells).length = C.length * 6 := by rw [flat_len, hCl']
  have HAL := Lib.hid hal
  clear hal
  go_upto_region 7 with (first
    | (at_builtin; refine wpList_append_own _ rfl _ _ 48 rfl x4.heap.size 31 i0 (.agg #[.int .i64 0, .string ⟨#[]⟩, .slice none 0 0, .string ⟨#[]⟩, .int .i64 0, .int .i64 0]) 6 80 Tryd.underlying48 hi hz0 hz1 hz2 rfl (by decide) _ _ _ rfl hown0 ⟨ga, 0, none⟩ A.length ca (itA.flatMap itCells) rfl hfl HA5.out.news (flat_one itA HA5.out.vals) hmx hby hba ?_; intro v5 x5 hown5 hgrow5 hnn5)
    | fail)
  have HB5 := Lib.hid (show Below x4.heap.size x4 x5 from HAL.out.grown hgrow5 HAL.out.size (fun k hk => own_block hown0 k hk))
  have HA6 := Lib.hid (HA4.out.later HB5.out)
  have HC6 := Lib.hid (HC4.out.later HB5.out)
  rw [List.nil_append] at hown5
  have hmx2 : (0 + A.length) + C.length ≤ maxLen := by unfold maxLen; omega
  have hby2 : ((0 + A.length) + C.length) * 80 ≤ 140737488355328 := by omega
  have hba2 : x4.heap.size ≤ x5.heap.size := HB5.out.size
  have hob5 := Lib.hid (own_block hown5)
  obtain ⟨va5, vc5, rfl⟩ := own_shape hown5
  clear hown0 hmx hby hba hgrow5 hnn5 HAL HA5
  go_upto_region 8 with (first
    | (at_builtin; refine wpList_append_own _ rfl _ _ 48 rfl x4.heap.size 31 i0 (.agg #[.int .i64 0, .string ⟨#[]⟩, .slice none 0 0, .string ⟨#[]⟩, .int .i64 0, .int .i64 0]) 6 80 Tryd.underlying48 hi hz0 hz1 hz2 rfl (by decide) _ _ _ rfl hown5 ⟨gc, 0, none⟩ C.length cc (itC.flatMap itCells) rfl hfc HC6.out.news (flat_one itC HC6.out.vals) hmx2 hby2 hba2 ?_; intro v6 x6 hown6 hgrow6 hnn6)
    | fail)
  have HB6 := Lib.hid (show Below x4.heap.size x4 x6 from HB5.out.grown hgrow6 HB5.out.size (fun k hk => hob5.out k hk))
  have HAll := Lib.hid (show EvsAt x6 v6 D by
    have h : EvsOwn x6 0 v6 (itA ++ itC) := by
      refine ⟨?_, fun it hit => ?_⟩
      · rw [List.length_append, hAl', hCl', List.flatMap_append]
        rw [Nat.zero_add] at hown6
        exact World.ownsRow.mono hown6 (Nat.zero_le _)
      · rcases List.mem_append.1 hit with h | h
        · exact (HA4.out.2 it h).later HB6.out
        · exact (HC4.out.2 it h).later HB6.out
    have h' := h.at
    rw [HEq.out] at h'
    exact h')
  have HA7 := Lib.hid (show EvsAt x6 (.slice (some ⟨ga, 0, none⟩) A.length ca) A by
    have h' := (HA4.out.later HB6.out).at
    have e : itA.map (·.1) = A := by
      have := congrArg (List.take itA.length) HEq.out
      rw [hDe'.out, List.map_append, List.take_left' (List.length_map _), hAl', List.take_left] at this
      exact this
    rw [e] at h'
    exact h')
  have HS7 := Lib.hid (HS4.out.below HB6.out)
  have HD7 := Lib.hid (HD4.out.below HB6.out)
  have HF := Lib.hid (HB4.out.trans (HB6.out.mono HB4.out.size))
  obtain ⟨va6, vc6, rfl⟩ := own_shape hown6
  have eLen : 0 + A.length + C.length = D.length := by have := hDlen.out; omega
  have hDl : D.length ≤ maxLen := by have := hDlen.out; unfold maxLen; omega
  have hAm : A.length ≤ maxLen := by unfold maxLen; omega
  rw [eLen] at HAll ⊢
  clear eLen hown6 hgrow6 hnn6 HEq hown5 hob5 hmx2 hby2 hba2 HA6 HC6 HB5 HB6 HA4 HC4 HS4 HD4 HB4 hfl hfc hAl hCl hAl' hCl' hDe' hDlen
  have hAA : (((A.length : Nat) : Int) == (A.length : Int)) = true := by simp
  have hDD : (((D.length : Nat) : Int) == (D.length : Int)) = true := by simp
  go_wp2_with fail
  refine (SameAll_eq _ _ A _ HS7.out HA7.out hAm HPl.out.1).mono ?_
  rintro e x7 ⟨rfl, hb⟩
  have HD8 := Lib.hid (HD7.out.below hb)
  have HAll8 := Lib.hid (HAll.out.below hb)
  have HF8 := Lib.hid (HF.out.trans (hb.mono HF.out.size))
  clear hb HD7 HAll HF HS7 HA7
  go_wp2_with fail
  refine (SameAll_eq _ _ D _ HD8.out HAll8.out hDl HPl.out.2).mono ?_
  rintro e x8 ⟨rfl, hb⟩
  have HF9 := Lib.hid (HF8.out.trans (hb.mono HF8.out.size))
  clear hb HD8 HAll8 HF8
  go_wp2_with fail
  go_ret
  exact ⟨rfl, HF9.out⟩
end Go.Proofs.YtcbboegjegobeaaDoor
