/-
  The reference's Made: the walk.
-/
import Derived.Test.YtcbboegjegobeaaDoorGG
import Derived.Deep.CutBlock
import Derived.Deep.Onto
namespace Go.Proofs.YtcbboegjegobeaaDoor
open Go.RowKit
open Pl

theorem BytesAt.up {W : World} {B0 B1 : Nat} {v : Value} {n : Nat} (h : BytesAt W B0 v n) (hb : B0 ≤ B1) : BytesAt W B1 v n := by
  obtain ⟨a, c, rfl, h⟩ := h
  refine ⟨a, c, rfl, fun hp => ?_⟩
  obtain ⟨b, off, rfl, hlt, hc⟩ := h hp
  exact ⟨b, off, rfl, by omega, hc⟩
theorem pos_of_ne {t : List UInt8} (h : (B t).toList.isEmpty = false) : 1 ≤ t.length := by
  rcases t with _ | ⟨c, r⟩
  · rw [isEmpty_nil] at h; cases h
  · simp
theorem ret_ev1 {fn : Func} {p : Tmp} (h : fn.results = #[.cell p 31]) {R : Ending → World → Prop} {a : Act} {W : World} {b : Nat} {c0 c1 c2 c3 c4 c5 : Value}
    (hp : a.tmps.getD p undef = .pointer (some ⟨b, 0, none⟩)) (hd : a.defers = []) (hb : EvBlock W b c0 c1 c2 c3 c4 c5)
    (hR : R (.returned (.agg #[c0, c1, c2, c3, c4, c5])) W) : bodyPost Tryd.prog fn R .ret a W := by
  refine bodyPost_ret ?_ hd hR
  have hp' : a.tmps[p]?.getD undef = .pointer (some ⟨b, 0, none⟩) := by simpa using hp
  have hl := run_loadVar_row (P := Tryd.prog) W b 31 31 #[c0, c1, c2, c3, c4, c5] (0, 0) _ hb Tryd.underlying31 rfl info31
  simp [results, h, hp', asAddr, hl]
theorem pts_nil (W : World) (b : Nat) : PtsAt W b (.slice none 0 0) [] := ⟨none, 0, rfl, fun h => by simp at h⟩
theorem own_open {W : World} {b : Nat} {a : Option Addr} {c : Nat} {ps : List (Int × Int)} (h : OwnsP W b (.slice a ps.length c) ps) (hp : 0 < ps.length) : ∃ g, a = some ⟨g, 0, none⟩ ∧ ps.length ≤ c ∧ c ≤ maxLen := by
  rcases h.2 with ⟨_, h0⟩ | ⟨g, cap, cur, hv, hb, hg, hn, hm, _⟩
  · omega
  · obtain ⟨rfl, rfl⟩ : a = some ⟨g, 0, none⟩ ∧ c = cap := by simpa using hv
    exact ⟨g, rfl, hn, hm⟩
theorem pts_first {W : World} {b : Nat} {a : Option Addr} {c c' : Nat} {ps : List (Int × Int)} (h : PtsAt W b (.slice a ps.length c) ps) (hp : 0 < ps.length) : PtsAt W b (.slice a 1 c') [ps[0]] := by
  obtain ⟨a', c'', hv, h1⟩ := h
  obtain ⟨rfl, -⟩ : a = a' ∧ c = c'' := by simpa using hv
  obtain ⟨g, off, rfl, hlt, hc⟩ := h1 hp
  refine ⟨_, _, rfl, fun _ => ⟨g, off, rfl, hlt, fun i hi => ?_⟩⟩
  obtain rfl : i = 0 := by simpa using hi
  exact hc 0 hp
theorem ptCells_one {ps : List (Int × Int)} (hp : 0 < ps.length) : ptCells [ps[0]] = (ptCells ps).take 2 := by
  cases ps with
  | nil => simp at hp
  | cons q r => rfl
theorem own_first {W : World} {b g c : Nat} {ps : List (Int × Int)} (h : OwnsP W b (.slice (some ⟨g, 0, none⟩) ps.length c) ps) (hp : 0 < ps.length) : OwnsP W b (.slice (some ⟨g, 0, none⟩) 1 c) [ps[0]] := by
  obtain ⟨h1, h2⟩ := h
  refine ⟨rfl, ?_⟩
  rcases h2 with ⟨h0, -⟩ | ⟨g', cap, cur, hv, hb, hg, hn, hm, hc, ht⟩
  · cases h0
  · obtain ⟨hgg, -, hcc⟩ : (some (⟨g, 0, none⟩ : Addr) = some ⟨g', 0, none⟩) ∧ ps.length = ps.length ∧ c = cap := by simpa using hv
    obtain rfl : g = g' := by simpa using hgg
    subst hcc
    refine Or.inr ⟨g, c, cur, rfl, hb, hg, ?_, hm, hc, ?_⟩
    · show [ps[0]].length ≤ c
      simp; omega
    · rw [ptCells_one hp, ← ht, List.take_take]
      congr 1
      simp; omega
theorem inside_one {ps : List (Int × Int)} (h : insideB ps = true) (hp : 0 < ps.length) : insideB [ps[0]] = true := by
  unfold insideB at h ⊢
  rw [List.all_eq_true] at h ⊢
  intro q hq
  obtain rfl : q = ps[0] := by simpa using hq
  exact h _ (List.getElem_mem _)
theorem letters_take {t : List UInt8} (h : lettersB t = true) (i : Nat) : lettersB (t.take i) = true := by
  unfold lettersB at h ⊢
  rw [List.all_eq_true] at h ⊢
  exact fun x hx => h x (List.mem_of_mem_take hx)
/-- A coordinate, as the program reckons it. -/
abbrev crd (x : Nat) : Int := (IntKind.i64.wrap (4 * IntKind.i64.wrap (x : Int))).tmod 1001
theorem crd_in (x : Nat) (h : x ≤ 255) : 0 ≤ crd x ∧ crd x ≤ 1000 := by
  unfold crd
  rw [IntWalk.i64_in (x : Int) (by omega), IntWalk.i64_in (4 * (x : Int)) (by omega), Int.tmod_eq_emod_of_nonneg (by omega)]
  omega
/-- The three blocks that Made lays first. -/
theorem md_start (w : World) (k n m kd : Int) (lv pv : Value) :
    (RwBlock (((w.alloc (.cells #[.int .u8 k, lv, pv, .int .u8 n, .int .u8 m] 25)).alloc (.cells #[.int .i64 0, .string ⟨#[]⟩, .slice none 0 0, .string ⟨#[]⟩, .int .i64 0, .int .i64 0] 31)).alloc (.cells #[.int .i64 kd, .string ⟨#[]⟩, .slice none 0 0, .string ⟨#[]⟩, .int .i64 0, .int .i64 0] 31)) w.heap.size k lv pv n m ∧
    EvBlock (((w.alloc (.cells #[.int .u8 k, lv, pv, .int .u8 n, .int .u8 m] 25)).alloc (.cells #[.int .i64 0, .string ⟨#[]⟩, .slice none 0 0, .string ⟨#[]⟩, .int .i64 0, .int .i64 0] 31)).alloc (.cells #[.int .i64 kd, .string ⟨#[]⟩, .slice none 0 0, .string ⟨#[]⟩, .int .i64 0, .int .i64 0] 31)) (w.heap.size + 1) (.int .i64 0) (.string ⟨#[]⟩) (.slice none 0 0) (.string ⟨#[]⟩) (.int .i64 0) (.int .i64 0) ∧
    EvBlock (((w.alloc (.cells #[.int .u8 k, lv, pv, .int .u8 n, .int .u8 m] 25)).alloc (.cells #[.int .i64 0, .string ⟨#[]⟩, .slice none 0 0, .string ⟨#[]⟩, .int .i64 0, .int .i64 0] 31)).alloc (.cells #[.int .i64 kd, .string ⟨#[]⟩, .slice none 0 0, .string ⟨#[]⟩, .int .i64 0, .int .i64 0] 31)) (w.heap.size + 1 + 1) (.int .i64 kd) (.string ⟨#[]⟩) (.slice none 0 0) (.string ⟨#[]⟩) (.int .i64 0) (.int .i64 0)) ∧
    Below w.heap.size w (((w.alloc (.cells #[.int .u8 k, lv, pv, .int .u8 n, .int .u8 m] 25)).alloc (.cells #[.int .i64 0, .string ⟨#[]⟩, .slice none 0 0, .string ⟨#[]⟩, .int .i64 0, .int .i64 0] 31)).alloc (.cells #[.int .i64 kd, .string ⟨#[]⟩, .slice none 0 0, .string ⟨#[]⟩, .int .i64 0, .int .i64 0] 31)) := by
  have e1 : (w.alloc (.cells #[.int .u8 k, lv, pv, .int .u8 n, .int .u8 m] 25)).heap.size = w.heap.size + 1 := World.size_alloc _ _
  have e2 : ((w.alloc (.cells #[.int .u8 k, lv, pv, .int .u8 n, .int .u8 m] 25)).alloc (.cells #[.int .i64 0, .string ⟨#[]⟩, .slice none 0 0, .string ⟨#[]⟩, .int .i64 0, .int .i64 0] 31)).heap.size = w.heap.size + 1 + 1 := by rw [World.size_alloc, e1]
  refine ⟨⟨((RwBlock.new w k lv pv n m).alloc _).alloc _, ?_, ?_⟩, (((Below.refl _ _).alloc (Nat.le_refl _) _).alloc (by omega) _).alloc (by omega) _⟩
  · rw [← e1]; exact (EvBlock.new _ _ _ _ _ _ _).alloc _
  · rw [← e2]; exact EvBlock.new _ _ _ _ _ _ _

set_option maxHeartbeats 8000000 in
set_option maxRecDepth 100000 in
theorem Made_any (k n m : Int) (lv pv : Value) (ln pn : Nat) (w : World) (hk0 : 0 ≤ k) (hk1 : k ≤ 255) (hn0 : 0 ≤ n) (hn1 : n ≤ 255) (hm0 : 0 ≤ m) (hm1 : m ≤ 255)
    (hL : BytesAt w w.heap.size lv ln) (hln : ln ≤ maxLen) (hP : PairsAt w w.heap.size pv pn) (hpn : pn ≤ maxLen) :
    Calls Tryd.prog 11 #[.agg #[.int .u8 k, lv, pv, .int .u8 n, .int .u8 m], .int .i64 26] w (MadePost w) := by
  obtain ⟨i0, hi0, hz0, hz1, hz2⟩ := info_parts info42
  obtain ⟨kn, hkn⟩ : ∃ kn : Nat, k % 12 = (kn : Int) := ⟨(k % 12).toNat, by omega⟩
  have hkn12 : (kn : Int) < 12 := by omega
  unfold maxLen at hpn
  obtain ⟨la, lc, rfl, hL'⟩ := id hL
  obtain ⟨pa, pc, rfl, hP'⟩ := id hP
  have S := Lib.hid (md_start w k n m (1 + kn) (.slice la ln lc) (.slice pa pn pc))
  have HL := Lib.hid ((hL.below S.out.2).up S.out.2.size)
  have HP := Lib.hid hP
  have CT := fun W h => Lib.hid (Text_any (.slice la ln lc) ln W h hln)
  clear hL hP hL' hP'
  go_enter Tryd.func11, Tryd.ntmps11
  go_wp2_with fail
  refine ((CT _ HL.out).out).mono ?_
  rintro e x1 ⟨t, rfl, hlt, htl, rfl⟩
  obtain ⟨⟨hR, hE, hF⟩, hB⟩ := S.out
  have MD := Lib.hid (show _ ∧ _ ∧ _ ∧ _ from ⟨hR, hE, hF, hB⟩)
  clear S HL CT hR hE hF hB
  generalize ((w.alloc _).alloc _).alloc _ = w1 at *
  have Hlt := Lib.hid hlt
  clear hlt
  go_upto_if 20 with fail
  go_cut [6] (fun s6 wx => ∃ u : List UInt8, s6 = .string (B u) ∧ lettersB u = true ∧ 1 ≤ u.length ∧ u.length ≤ 5 ∧ wx = w1)
  case first =>
    go_wp2_with fail
    · go_meet
      exact ⟨[97], rfl, by decide, by decide, by decide, rfl⟩
    · rename_i hne
      have hpos := Lib.hid (pos_of_ne hne)
      clear hne
      go_meet
      exact ⟨t, rfl, Hlt.out, hpos.out, htl, rfl⟩
  case rest =>
    obtain ⟨u, rfl, hu, hu1, hu5, rfl⟩ := hcut
    have Hu := Lib.hid hu
    clear hu Hlt htl
    obtain ⟨⟨hR, hE, hF⟩, hB⟩ := (show (_ ∧ _ ∧ _) ∧ _ from ⟨⟨MD.out.1, MD.out.2.1, MD.out.2.2.1⟩, MD.out.2.2.2⟩)
    have hs3 := hF.lt
    have M0 := Lib.hid (show MdRel w k (.slice la ln lc) (.slice pa pn pc) n m (1 + kn) [] (.slice (some ⟨wc.heap.size, 0, none⟩) 0 0) (wc.alloc (.cells #[] 42)) from
      ⟨rfl, World.ownsRow_lit wc #[] 0 (by omega) (by decide) rfl, hR.alloc _, hE.alloc _, hF.alloc _, hB.alloc hB.size _⟩)
    clear hR hE hF hB MD hs3
    go_upto_block 0 with fail
    go_cut [7, 8] (fun p i wx => ∃ (ps : List (Int × Int)) (oa : Option Addr) (oc : Nat), p = .slice oa ps.length oc ∧ ps.length ≤ 6 ∧ MdRel w k (.slice la ln lc) (.slice pa pn pc) n m (1 + kn) ps p wx)
    case first =>
      go_wp2_with fail
      go_loopw [7, 8] (fun p i wr => ∃ (ps : List (Int × Int)) (oa : Option Addr) (oc : Nat), i = .int .i64 (ps.length : Nat) ∧ p = .slice oa ps.length oc ∧ ps.length ≤ pn ∧ ps.length ≤ 6 ∧ MdRel w k (.slice la ln lc) (.slice pa pn pc) n m (1 + kn) ps p wr) (fun _ i _ => 6 - (intOf i).toNat)
      case atStart => exact ⟨[], _, _, rfl, rfl, Nat.zero_le _, Nat.zero_le _, M0.out⟩
      case round =>
        obtain ⟨ps, oa, oc, rfl, rfl, hjp, hj6, hMD⟩ := hrel
        obtain ⟨r0, r1, r2, r3, r4⟩ := hMD.2.2.1.cells
        have hO := hMD.2.1
        have hB := hMD.2.2.2.2.2
        have hsz := hMD.size
        have HM := Lib.hid hMD
        have hj0 : (0 : Int) ≤ (ps.length : Int) := by omega
        by_cases h1 : (ps.length : Int) < (pn : Int)
        · by_cases h2 : (ps.length : Int) < 6
          · obtain ⟨a', c', hv, hP1⟩ := HP.out
            obtain ⟨rfl, -⟩ : pa = a' ∧ pc = c' := by simpa using hv
            obtain ⟨b, off, hpa, hb, hc⟩ := hP1 (by omega)
            subst hpa
            obtain ⟨x, y, hx, hy, hx1, hy1⟩ := hc ps.length (by omega)
            have hx' : wr.cell? ⟨b, off + ps.length * 2, none⟩ = some (.int .u8 (x : Int)) := ((bcell hB).1 b _ hb).trans hx
            have hy' : wr.cell? ⟨b, off + ps.length * 2 + 1, none⟩ = some (.int .u8 (y : Int)) := ((bcell hB).1 b _ hb).trans hy
            have hX := crd_in x hx1
            have hY := crd_in y hy1
            have hn' : ps.length + 1 ≤ maxLen := by unfold maxLen; omega
            have hby : (ps.length + 1) * 16 ≤ 140737488355328 := by omega
            have hag := Lib.hid (hO.ne (show w.heap.size < w.heap.size + 3 by omega))
            have hak := Lib.hid (hO.ne (show b < w.heap.size + 3 by omega))
            clear hc hP1 hx hy hv hMD
            go_wp2_with fail
            go_region_held3 (fun w' => w'.cell? ⟨w.heap.size, 2, none⟩ = some (.slice (some ⟨b, off, none⟩) pn pc) ∧ w'.cell? ⟨b, off + ps.length * 2, none⟩ = some (.int .u8 (x : Int)) ∧ w'.cell? ⟨b, off + ps.length * 2 + 1, none⟩ = some (.int .u8 (y : Int)))
              (first
                | go_keep
                | (go_split_ands
                   refine ⟨?_, ?_, ?_⟩
                   · (rw [hgrow.cell_far _ (by simp; omega) (Ne.symm hag.out)]; assumption)
                   · (rw [hgrow.cell_far _ (by simp; omega) (Ne.symm hak.out)]; assumption)
                   · (rw [hgrow.cell_far _ (by simp; omega) (Ne.symm hak.out)]; assumption)))
              ((refine step_append_lies _ (by rfl) _ _ _ (by rfl) (w.heap.size + 3) 42 i0 _ 2 16 Tryd.underlying29 hi0 hz0 hz1 hz2 rfl (by omega) (.slice oa ps.length oc) ps.length (ptCells ps) (by rfl) ((World.ownsRow.alloc hO _).drew)
                  ⟨wr.heap.size, 0, none⟩ 1 1 [.int .i64 (crd x), .int .i64 (crd y)] (by rfl) (by rfl) (World.news_of_block (cs := #[.int .i64 (crd x), .int .i64 (crd y)]) (t := 42) (fr := (0, 0)) (heap_alloc_new wr _)) (by simp [Value.oneCell'])
                  (by omega) hn' hby (by simp; omega) (wr.heap.size + 1) (by simp) ?_; intro gg cap' w2 hown2 hgrow hat hlt2))
            have HS := Lib.hid (MdRel.step (HM.out.alloc _).drew hX hY hown2 hgrow)
            clear hown2 hgrow hat hlt2 hX hY hx' hy' hO hB r0 r1 r2 r3 r4
            go_wp2_with fail
            go_roundw
            case rel => exact ⟨ps ++ [(crd x, crd y)], _, _, by rw [len_snoc]; go_num, by rw [len_snoc], by rw [len_snoc]; omega, by rw [len_snoc]; omega, HS.out⟩
            case measure => simp [intOf]; omega
          · go_wp2_with fail
            go_meet
            exact ⟨ps, _, _, rfl, hj6, HM.out⟩
        · go_wp2_with fail
          go_meet
          exact ⟨ps, _, _, rfl, hj6, HM.out⟩
    case rest =>
      obtain ⟨qs, qa, qc, rfl, hq6, hQ⟩ := hcut
      have HQ := Lib.hid hQ
      clear hQ HP M0
      go_upto_block 2 with fail
      go_cut [7] (fun p wx => ∃ (ps : List (Int × Int)) (oa : Option Addr) (oc : Nat), p = .slice oa ps.length oc ∧ 2 ≤ ps.length ∧ ps.length ≤ 6 ∧ MdRel w k (.slice la ln lc) (.slice pa pn pc) n m (1 + kn) ps p wx)
      case first =>
        go_wp2_with fail
        go_loopw [7] (fun p wr => ∃ (ps : List (Int × Int)) (oa : Option Addr) (oc : Nat), p = .slice oa ps.length oc ∧ ps.length ≤ 6 ∧ MdRel w k (.slice la ln lc) (.slice pa pn pc) n m (1 + kn) ps p wr) (fun p _ => 2 - lenV p)
        case atStart => exact ⟨qs, _, _, rfl, hq6, HQ.out⟩
        case round =>
          obtain ⟨ps, oa, oc, rfl, hj6, hMD⟩ := hrel
          obtain ⟨r0, r1, r2, r3, r4⟩ := hMD.2.2.1.cells
          have hO := hMD.2.1
          have hsz := hMD.size
          have HM := Lib.hid hMD
          clear hMD HQ hq6
          have hj0 : (0 : Int) ≤ (ps.length : Int) := by omega
          by_cases h1 : (ps.length : Int) < 2
          · have hn' : ps.length + 1 ≤ maxLen := by unfold maxLen; omega
            have hby : (ps.length + 1) * 16 ≤ 140737488355328 := by omega
            have hX : 0 ≤ 30 * (ps.length : Int) ∧ 30 * (ps.length : Int) ≤ 1000 := by omega
            have hY : 0 ≤ n ∧ n ≤ 1000 := by omega
            go_wp2_with (at_builtin; refine wpList_append_lies _ rfl _ _ _ rfl (w.heap.size + 3) 42 i0 _ 2 16 Tryd.underlying29 hi0 hz0 hz1 hz2 rfl (by omega) (.slice oa ps.length oc) ps.length (ptCells ps) (by rfl) (World.ownsRow.alloc hO _) ⟨wr.heap.size, 0, none⟩ 1 1 [.int .i64 (30 * (ps.length : Int)), .int .i64 n] (by rfl) (by rfl) (World.news_of_block (cs := #[.int .i64 (30 * (ps.length : Int)), .int .i64 n]) (t := 42) (fr := (0, 0)) (heap_alloc_new wr _)) (by simp [Value.oneCell']) (by omega) hn' hby (by simp; omega) (wr.heap.size + 1) (by simp) ?_; intro gg cap' w2 hown2 hgrow hat hlt2)
            have HS := Lib.hid (MdRel.step (HM.out.alloc _) hX hY hown2 hgrow)
            clear hown2 hgrow hat hlt2 hX hY hO r0 r1 r2 r3 r4
            go_roundw
            case rel => exact ⟨ps ++ [(30 * (ps.length : Int), n)], _, _, by rw [len_snoc], by rw [len_snoc]; omega, HS.out⟩
            case measure => simp [lenV]; omega
          · go_wp2_with fail
            go_meet
            exact ⟨ps, _, _, rfl, by omega, hj6, HM.out⟩
      case rest =>
        obtain ⟨ps, oa, oc, rfl, hq2, hj6, hMD⟩ := hcut
        obtain ⟨r0, r1, r2, r3, r4⟩ := hMD.2.2.1.cells
        have hsz := hMD.size
        obtain ⟨g, rfl, hc1, hc2⟩ := own_open hMD.2.1 (by omega)
        have hin := Lib.hid hMD.1
        have HO := Lib.hid hMD.2.1
        have hE := Lib.hid hMD.2.2.2.1
        have hF0 := hMD.2.2.2.2.1
        have hB := Lib.hid hMD.2.2.2.2.2
        clear hMD HQ hq6
        obtain ⟨kd, hkd⟩ : ∃ kd : Int, kd = 1 + (kn : Int) := ⟨_, rfl⟩
        rw [← hkd] at hF0
        have hF := Lib.hid hF0
        clear hF0
        have hkc : kd = 1 ∨ kd = 2 ∨ kd = 3 ∨ kd = 4 ∨ kd = 5 ∨ kd = 6 ∨ kd = 7 ∨ kd = 8 ∨ kd = 9 ∨ kd = 10 ∨ kd = 11 ∨ kd = 12 := by omega
        clear hkd hkn hkn12 hi0 hz0 hz1 hz2
        unfold maxLen at hc2
        rcases hkc with rfl | rfl | rfl | rfl | rfl | rfl | rfl | rfl | rfl | rfl | rfl | rfl
        · obtain ⟨f0, f1, f2, f3, f4, f5⟩ := hF.out.cells
          obtain ⟨z0, z1, z2, z3, z4, z5⟩ := hF.out.free
          have hF1 := Lib.hid (hF.out.set1 (.string ((B u).extract 0 1)))
          have hE1 := Lib.hid (hE.out.setCell (b' := w.heap.size + 1 + 1) (o := 1) (.string ((B u).extract 0 1)) (by omega))
          have hB1 := Lib.hid (show Below w.heap.size w (wc.setCell ⟨w.heap.size + 1 + 1, 1, none⟩ (.string ((B u).extract 0 1))) from hB.out.setCell (by show w.heap.size ≤ w.heap.size + 1 + 1; omega) _)
          obtain ⟨y0, y1, y2, y3, y4, y5⟩ := hF1.out.cells
          have hus : 1 ≤ (B u).size := by rw [size_B]; exact hu1
          go_wp2_with (first | (refine wpList_store_ev rfl _ _ rfl _ _ _ _ _ _ _ hE1.out rfl _ _ _ _ _ _ _ _ rfl ?_; intro W' hB' hg' hs'))
          refine ret_ev1 rfl rfl rfl hB' ?_
          exact ⟨⟨⟨1, u.take 1, [], [], 0, 0⟩, none, 0, by rw [ext_from_0]; rfl, val_key (letters_take Hu.out 1) (by simp; omega), OwnsP.nil _ _⟩, hB1.out.grown hg' hB1.out.size (by simp)⟩
        · have CC := Lib.hid (chord_any n m wc hn0 hn1 hm0 hm1)
          obtain ⟨f0, f1, f2, f3, f4, f5⟩ := hF.out.cells
          obtain ⟨z0, z1, z2, z3, z4, z5⟩ := hF.out.free
          go_wp2_with fail
          refine (CC.out).mono ?_
          rintro e x1 ⟨t, rfl, ht1, ht2, ht3, ht4, rfl⟩
          have T1 := Lib.hid ht1
          have T2 := Lib.hid ht2
          clear ht1 ht2 CC
          have hF1 := Lib.hid (hF.out.set1 (.string (B t)))
          have hE1 := Lib.hid (hE.out.setCell (b' := w.heap.size + 1 + 1) (o := 1) (.string (B t)) (by omega))
          have hB1 := Lib.hid (show Below w.heap.size w (wc.setCell ⟨w.heap.size + 1 + 1, 1, none⟩ (.string (B t))) from hB.out.setCell (by show w.heap.size ≤ w.heap.size + 1 + 1; omega) _)
          obtain ⟨y0, y1, y2, y3, y4, y5⟩ := hF1.out.cells
          go_wp2_with (first | (refine wpList_store_ev rfl _ _ rfl _ _ _ _ _ _ _ hE1.out rfl _ _ _ _ _ _ _ _ rfl ?_; intro W' hB' hg' hs'))
          refine ret_ev1 rfl rfl rfl hB' ?_
          exact ⟨⟨⟨2, t, [], [], 0, 0⟩, none, 0, rfl, val_chord T1.out T2.out ht3 ht4, OwnsP.nil _ _⟩, hB1.out.grown hg' hB1.out.size (by simp)⟩
        · have hoc1 : (1 : Int) ≤ (oc : Int) := by omega
          obtain ⟨f0, f1, f2, f3, f4, f5⟩ := hF.out.cells
          obtain ⟨z0, z1, z2, z3, z4, z5⟩ := hF.out.free
          have hF1 := Lib.hid (hF.out.setP (.slice (some ⟨g, 0, none⟩) 1 oc))
          have hE1 := Lib.hid (hE.out.setCell (b' := w.heap.size + 1 + 1) (o := 2) (.slice (some ⟨g, 0, none⟩) 1 oc) (by omega))
          have hB1 := Lib.hid (show Below w.heap.size w (wc.setCell ⟨w.heap.size + 1 + 1, 2, none⟩ (.slice (some ⟨g, 0, none⟩) 1 oc)) from hB.out.setCell (by show w.heap.size ≤ w.heap.size + 1 + 1; omega) _)
          have hO1 := Lib.hid (show OwnsP (wc.setCell ⟨w.heap.size + 1 + 1, 2, none⟩ (.slice (some ⟨g, 0, none⟩) 1 oc)) (w.heap.size + 3) (.slice (some ⟨g, 0, none⟩) ps.length oc) ps from ownsRow_setCell_below HO.out (by show w.heap.size + 1 + 1 < w.heap.size + 3; omega) _)
          obtain ⟨y0, y1, y2, y3, y4, y5⟩ := hF1.out.cells
          go_wp2_with (first | (refine wpList_store_ev rfl _ _ rfl _ _ _ _ _ _ _ hE1.out rfl _ _ _ _ _ _ _ _ rfl ?_; intro W' hB' hg' hs'))
          refine ret_ev1 rfl rfl rfl hB' ?_
          exact ⟨⟨⟨3, [], [ps[0]], [], 0, 0⟩, some ⟨g, 0, none⟩, oc, rfl, val_touch (inside_one hin.out (by omega)) rfl, World.ownsRow.mono (own_first (hO1.out.grown hg' (by omega)) (by omega)) (by omega)⟩, hB1.out.grown hg' hB1.out.size (by simp)⟩
        · obtain ⟨f0, f1, f2, f3, f4, f5⟩ := hF.out.cells
          obtain ⟨z0, z1, z2, z3, z4, z5⟩ := hF.out.free
          have hF1 := Lib.hid (hF.out.setP (.slice (some ⟨g, 0, none⟩) ps.length oc))
          have hE1 := Lib.hid (hE.out.setCell (b' := w.heap.size + 1 + 1) (o := 2) (.slice (some ⟨g, 0, none⟩) ps.length oc) (by omega))
          have hB1 := Lib.hid (show Below w.heap.size w (wc.setCell ⟨w.heap.size + 1 + 1, 2, none⟩ (.slice (some ⟨g, 0, none⟩) ps.length oc)) from hB.out.setCell (by show w.heap.size ≤ w.heap.size + 1 + 1; omega) _)
          have hO1 := Lib.hid (show OwnsP (wc.setCell ⟨w.heap.size + 1 + 1, 2, none⟩ (.slice (some ⟨g, 0, none⟩) ps.length oc)) (w.heap.size + 3) (.slice (some ⟨g, 0, none⟩) ps.length oc) ps from ownsRow_setCell_below HO.out (by show w.heap.size + 1 + 1 < w.heap.size + 3; omega) _)
          obtain ⟨y0, y1, y2, y3, y4, y5⟩ := hF1.out.cells
          go_wp2_with (first | (refine wpList_store_ev rfl _ _ rfl _ _ _ _ _ _ _ hE1.out rfl _ _ _ _ _ _ _ _ rfl ?_; intro W' hB' hg' hs'))
          refine ret_ev1 rfl rfl rfl hB' ?_
          exact ⟨⟨⟨4, [], ps, [], 0, 0⟩, some ⟨g, 0, none⟩, oc, rfl, val_stroke hin.out hq2 (by omega), World.ownsRow.mono (hO1.out.grown hg' (by omega)) (by omega)⟩, hB1.out.grown hg' hB1.out.size (by simp)⟩
        · obtain ⟨f0, f1, f2, f3, f4, f5⟩ := hF.out.cells
          obtain ⟨z0, z1, z2, z3, z4, z5⟩ := hF.out.free
          have hF1 := Lib.hid (hF.out.set3 (.string (B u)))
          have hE1 := Lib.hid (hE.out.setCell (b' := w.heap.size + 1 + 1) (o := 3) (.string (B u)) (by omega))
          have hB1 := Lib.hid (show Below w.heap.size w (wc.setCell ⟨w.heap.size + 1 + 1, 3, none⟩ (.string (B u))) from hB.out.setCell (by show w.heap.size ≤ w.heap.size + 1 + 1; omega) _)
          obtain ⟨y0, y1, y2, y3, y4, y5⟩ := hF1.out.cells
          go_wp2_with (first | (refine wpList_store_ev rfl _ _ rfl _ _ _ _ _ _ _ hE1.out rfl _ _ _ _ _ _ _ _ rfl ?_; intro W' hB' hg' hs'))
          refine ret_ev1 rfl rfl rfl hB' ?_
          exact ⟨⟨⟨5, [], [], u, 0, 0⟩, none, 0, rfl, val_paste Hu.out hu1 (by omega), OwnsP.nil _ _⟩, hB1.out.grown hg' hB1.out.size (by simp)⟩
        · obtain ⟨f0, f1, f2, f3, f4, f5⟩ := hF.out.cells
          go_wp2_with (first | (refine wpList_store_ev rfl _ _ rfl _ _ _ _ _ _ _ hE.out rfl _ _ _ _ _ _ _ _ rfl ?_; intro W' hB' hg' hs'))
          refine ret_ev1 rfl rfl rfl hB' ?_
          exact ⟨⟨⟨6, [], [], [], 0, 0⟩, none, 0, rfl, val_bare (by decide), OwnsP.nil _ _⟩, hB.out.grown hg' hB.out.size (by simp)⟩
        · obtain ⟨f0, f1, f2, f3, f4, f5⟩ := hF.out.cells
          go_wp2_with (first | (refine wpList_store_ev rfl _ _ rfl _ _ _ _ _ _ _ hE.out rfl _ _ _ _ _ _ _ _ rfl ?_; intro W' hB' hg' hs'))
          refine ret_ev1 rfl rfl rfl hB' ?_
          exact ⟨⟨⟨7, [], [], [], 0, 0⟩, none, 0, rfl, val_bare (by decide), OwnsP.nil _ _⟩, hB.out.grown hg' hB.out.size (by simp)⟩
        · obtain ⟨f0, f1, f2, f3, f4, f5⟩ := hF.out.cells
          go_wp2_with (first | (refine wpList_store_ev rfl _ _ rfl _ _ _ _ _ _ _ hE.out rfl _ _ _ _ _ _ _ _ rfl ?_; intro W' hB' hg' hs'))
          refine ret_ev1 rfl rfl rfl hB' ?_
          exact ⟨⟨⟨8, [], [], [], 0, 0⟩, none, 0, rfl, val_bare (by decide), OwnsP.nil _ _⟩, hB.out.grown hg' hB.out.size (by simp)⟩
        · obtain ⟨f0, f1, f2, f3, f4, f5⟩ := hF.out.cells
          obtain ⟨z0, z1, z2, z3, z4, z5⟩ := hF.out.free
          have hF0 := Lib.hid (hF.out.set4 (.int .i64 (n % 40)))
          have hE0 := Lib.hid (hE.out.setCell (b' := w.heap.size + 1 + 1) (o := 4) (.int .i64 (n % 40)) (by omega))
          have hB0 := Lib.hid (show Below w.heap.size w (wc.setCell ⟨w.heap.size + 1 + 1, 4, none⟩ (.int .i64 (n % 40))) from hB.out.setCell (by show w.heap.size ≤ w.heap.size + 1 + 1; omega) _)
          obtain ⟨v0, v1, v2, v3, v4, v5⟩ := hF0.out.free
          have hF1 := Lib.hid (hF0.out.set5 (.int .i64 (1 + m % 40)))
          have hE1 := Lib.hid (hE0.out.setCell (b' := w.heap.size + 1 + 1) (o := 5) (.int .i64 (1 + m % 40)) (by omega))
          have hB1 := Lib.hid (show Below w.heap.size w ((wc.setCell ⟨w.heap.size + 1 + 1, 4, none⟩ (.int .i64 (n % 40))).setCell ⟨w.heap.size + 1 + 1, 5, none⟩ (.int .i64 (1 + m % 40))) from hB0.out.setCell (by show w.heap.size ≤ w.heap.size + 1 + 1; omega) _)
          obtain ⟨y0, y1, y2, y3, y4, y5⟩ := hF1.out.cells
          go_wp2_with (first | (refine wpList_store_ev rfl _ _ rfl _ _ _ _ _ _ _ hE1.out rfl _ _ _ _ _ _ _ _ rfl ?_; intro W' hB' hg' hs'))
          refine ret_ev1 rfl rfl rfl hB' ?_
          exact ⟨⟨⟨9, [], [], [], n % 40, 1 + m % 40⟩, none, 0, rfl, val_hold ⟨by omega, by omega⟩ ⟨by omega, by omega⟩, OwnsP.nil _ _⟩, hB1.out.grown hg' hB1.out.size (by simp)⟩
        · obtain ⟨f0, f1, f2, f3, f4, f5⟩ := hF.out.cells
          obtain ⟨z0, z1, z2, z3, z4, z5⟩ := hF.out.free
          have hF1 := Lib.hid (hF.out.set4 (.int .i64 (n % 50)))
          have hE1 := Lib.hid (hE.out.setCell (b' := w.heap.size + 1 + 1) (o := 4) (.int .i64 (n % 50)) (by omega))
          have hB1 := Lib.hid (show Below w.heap.size w (wc.setCell ⟨w.heap.size + 1 + 1, 4, none⟩ (.int .i64 (n % 50))) from hB.out.setCell (by show w.heap.size ≤ w.heap.size + 1 + 1; omega) _)
          obtain ⟨y0, y1, y2, y3, y4, y5⟩ := hF1.out.cells
          go_wp2_with (first | (refine wpList_store_ev rfl _ _ rfl _ _ _ _ _ _ _ hE1.out rfl _ _ _ _ _ _ _ _ rfl ?_; intro W' hB' hg' hs'))
          refine ret_ev1 rfl rfl rfl hB' ?_
          exact ⟨⟨⟨10, [], [], [], n % 50, 0⟩, none, 0, rfl, val_choose ⟨by omega, by omega⟩, OwnsP.nil _ _⟩, hB1.out.grown hg' hB1.out.size (by simp)⟩
        · obtain ⟨f0, f1, f2, f3, f4, f5⟩ := hF.out.cells
          go_wp2_with (first | (refine wpList_store_ev rfl _ _ rfl _ _ _ _ _ _ _ hE.out rfl _ _ _ _ _ _ _ _ rfl ?_; intro W' hB' hg' hs'))
          refine ret_ev1 rfl rfl rfl hB' ?_
          exact ⟨⟨⟨11, [], [], [], 0, 0⟩, none, 0, rfl, val_bare (by decide), OwnsP.nil _ _⟩, hB.out.grown hg' hB.out.size (by simp)⟩
        · obtain ⟨f0, f1, f2, f3, f4, f5⟩ := hF.out.cells
          go_wp2_with (first | (refine wpList_store_ev rfl _ _ rfl _ _ _ _ _ _ _ hE.out rfl _ _ _ _ _ _ _ _ rfl ?_; intro W' hB' hg' hs'))
          refine ret_ev1 rfl rfl rfl hB' ?_
          exact ⟨⟨⟨12, [], [], [], 0, 0⟩, none, 0, rfl, val_bare (by decide), OwnsP.nil _ _⟩, hB.out.grown hg' hB.out.size (by simp)⟩
end Go.Proofs.YtcbboegjegobeaaDoor
