/-
  The reference's Made: the walk.
-/
import Derived.Test.YtmioocmjlbjfpaaDoorH0
import Derived.Deep.CutBlock
import Derived.Deep.Onto
namespace Go.Proofs.YtmioocmjlbjfpaaDoor
open Go.RowKit
open Pl

set_option maxHeartbeats 8000000 in
set_option maxRecDepth 100000 in
theorem Made_is (k n m : Int) (lv pv : Value) (ln pn : Nat) (X XP YP : Nat → Nat) (kd : Int) (U : List UInt8) (PS : List (Int × Int)) (hkd0 : Hid (kd = 1 + k % 12)) (hU0 : Hid (U = letsOf (textL X (min ln 5)))) (hP0 : Hid (PS = padR n (ptsL XP YP (min pn 6)))) (w : World) (hk0 : 0 ≤ k) (hk1 : k ≤ 255) (hn0 : 0 ≤ n) (hn1 : n ≤ 255) (hm0 : 0 ≤ m) (hm1 : m ≤ 255)
    (hL : BytesFn w w.heap.size lv ln X) (hln : ln ≤ maxLen) (hP : PairsFn w w.heap.size pv pn XP YP) (hpn : pn ≤ maxLen) :
    Calls Tryd.prog 6 #[.agg #[.int .u8 k, lv, pv, .int .u8 n, .int .u8 m], .int .i64 26] w (MadeIs w (madeEv kd U PS n m)) := by
  obtain ⟨i0, hi0, hz0, hz1, hz2⟩ := info_parts info40
  obtain ⟨kn, hkn⟩ : ∃ kn : Nat, k % 12 = (kn : Int) := ⟨(k % 12).toNat, by omega⟩
  have hkn12 : (kn : Int) < 12 := by omega
  unfold maxLen at hpn
  obtain ⟨la, lc, rfl, hL'⟩ := id hL
  obtain ⟨pa, pc, rfl, hP'⟩ := id hP
  have S := Lib.hid (md_start w k n m (1 + kn) (.slice la ln lc) (.slice pa pn pc))
  have HL := Lib.hid ((hL.below S.out.2).up S.out.2.size)
  have HP := Lib.hid hP
  have CT := fun W h => Lib.hid (Text_any (.slice la ln lc) ln X W h hln)
  clear hL hP hL' hP'
  go_enter Tryd.func6, Tryd.ntmps6
  go_wp2_with fail
  refine ((CT _ HL.out).out).mono ?_
  rintro e x1 ⟨t, rfl, hlt, htl, rfl, hte⟩
  have HTE := Lib.hid hte
  clear hte
  obtain ⟨⟨hR, hE, hF⟩, hB⟩ := S.out
  have MD := Lib.hid (show _ ∧ _ ∧ _ ∧ _ from ⟨hR, hE, hF, hB⟩)
  clear S HL CT hR hE hF hB
  generalize ((w.alloc _).alloc _).alloc _ = w1 at *
  have Hlt := Lib.hid hlt
  clear hlt
  go_upto_if 20 with fail
  go_cut [6] (fun s6 wx => ∃ u : List UInt8, s6 = .string (B u) ∧ lettersB u = true ∧ 1 ≤ u.length ∧ u.length ≤ 5 ∧ u = letsOf t ∧ wx = w1)
  case first =>
    go_wp2_with fail
    · rename_i hie
      have HI := Lib.hid (letsOf_nil hie)
      clear hie
      go_meet
      exact ⟨[97], rfl, by decide, by decide, by decide, HI.out.symm, rfl⟩
    · rename_i hne
      have hpos := Lib.hid (pos_of_ne hne)
      have HI := Lib.hid (letsOf_ne hne)
      clear hne
      go_meet
      exact ⟨t, rfl, Hlt.out, hpos.out, htl, HI.out.symm, rfl⟩
  case rest =>
    obtain ⟨u, rfl, hu, hu1, hu5, hue, rfl⟩ := hcut
    have HU := Lib.hid (show u = U by rw [hU0.out, ← HTE.out, hue])
    clear hue HTE hU0
    have Hu := Lib.hid hu
    clear hu Hlt htl
    obtain ⟨⟨hR, hE, hF⟩, hB⟩ := (show (_ ∧ _ ∧ _) ∧ _ from ⟨⟨MD.out.1, MD.out.2.1, MD.out.2.2.1⟩, MD.out.2.2.2⟩)
    have hs3 := hF.lt
    have M0 := Lib.hid (show MdRel w k (.slice la ln lc) (.slice pa pn pc) n m (1 + kn) [] (.slice (some ⟨wc.heap.size, 0, none⟩) 0 0) (wc.alloc (.cells #[] 40)) from
      ⟨rfl, World.ownsRow_lit wc #[] 0 (by omega) (by decide) rfl, hR.alloc _, hE.alloc _, hF.alloc _, hB.alloc hB.size _⟩)
    clear hR hE hF hB MD hs3
    go_upto_block 0 with fail
    go_cut [7, 8] (fun p i wx => ∃ (ps : List (Int × Int)) (oa : Option Addr) (oc : Nat), p = .slice oa ps.length oc ∧ ps.length ≤ 6 ∧ ps = ptsL XP YP (min pn 6) ∧ MdRel w k (.slice la ln lc) (.slice pa pn pc) n m (1 + kn) ps p wx)
    case first =>
      go_wp2_with fail
      go_loopw [7, 8] (fun p i wr => ∃ (ps : List (Int × Int)) (oa : Option Addr) (oc : Nat), i = .int .i64 (ps.length : Nat) ∧ p = .slice oa ps.length oc ∧ ps.length ≤ pn ∧ ps.length ≤ 6 ∧ ps = ptsL XP YP ps.length ∧ MdRel w k (.slice la ln lc) (.slice pa pn pc) n m (1 + kn) ps p wr) (fun _ i _ => 6 - (intOf i).toNat)
      case atStart => exact ⟨[], _, _, rfl, rfl, Nat.zero_le _, Nat.zero_le _, rfl, M0.out⟩
      case round =>
        obtain ⟨ps, oa, oc, rfl, rfl, hjp, hj6, hpe, hMD⟩ := hrel
        have HPE := Lib.hid hpe
        clear hpe
        obtain ⟨r0, r1, r2, r3, r4⟩ := hMD.2.2.1.cells
        have hO := hMD.2.1
        have hB := hMD.2.2.2.2.2
        have hsz := hMD.size
        have HM := Lib.hid hMD
        have hj0 : (0 : Int) ≤ (ps.length : Int) := by omega
        by_cases h1 : (ps.length : Int) < (pn : Int)
        · by_cases h2 : (ps.length : Int) < 6
          · obtain ⟨a', c', hv, hP1⟩ := HP.out
            obtain ⟨rfl, -⟩ : pa = a' ∧ pc = c' := by simpa using hv
            obtain ⟨b, off, hpa, hb, hc⟩ := hP1 (by omega)
            subst hpa
            have HXY : ∃ x y : Nat, x = XP ps.length ∧ y = YP ps.length := ⟨_, _, rfl, rfl⟩
            obtain ⟨x, y, hxe, hye⟩ := HXY
            obtain ⟨hx, hy, hx1, hy1⟩ := hc ps.length (by omega)
            rw [← hxe] at hx hx1
            rw [← hye] at hy hy1
            have HSN := Lib.hid (show ps ++ [(crd x, crd y)] = ptsL XP YP (ps ++ [(crd x, crd y)]).length by rw [len_snoc, ptsL_succ, ← HPE.out, hxe, hye])
            clear hxe hye
            have hx' : wr.cell? ⟨b, off + ps.length * 2, none⟩ = some (.int .u8 (x : Int)) := ((bcell hB).1 b _ hb).trans hx
            have hy' : wr.cell? ⟨b, off + ps.length * 2 + 1, none⟩ = some (.int .u8 (y : Int)) := ((bcell hB).1 b _ hb).trans hy
            have hX := crd_in x hx1
            have hY := crd_in y hy1
            have hn' : ps.length + 1 ≤ maxLen := by unfold maxLen; omega
            have hby : (ps.length + 1) * 16 ≤ 140737488355328 := by omega
            have hag := Lib.hid (hO.ne (show w.heap.size < w.heap.size + 3 by omega))
            have hak := Lib.hid (hO.ne (show b < w.heap.size + 3 by omega))
            clear hc hP1 hx hy hv hMD
            go_wp2_with fail
            go_region_held3 (fun w' => w'.cell? ⟨w.heap.size, 2, none⟩ = some (.slice (some ⟨b, off, none⟩) pn pc) ∧ w'.cell? ⟨b, off + ps.length * 2, none⟩ = some (.int .u8 (x : Int)) ∧ w'.cell? ⟨b, off + ps.length * 2 + 1, none⟩ = some (.int .u8 (y : Int)))
              (first
                | go_keep
                | (go_split_ands
                   refine ⟨?_, ?_, ?_⟩
                   · (rw [hgrow.cell_far _ (by simp; omega) (Ne.symm hag.out)]; assumption)
                   · (rw [hgrow.cell_far _ (by simp; omega) (Ne.symm hak.out)]; assumption)
                   · (rw [hgrow.cell_far _ (by simp; omega) (Ne.symm hak.out)]; assumption)))
              ((refine step_append_lies _ (by rfl) _ _ _ (by rfl) (w.heap.size + 3) 40 i0 _ 2 16 Tryd.underlying29 hi0 hz0 hz1 hz2 rfl (by omega) (.slice oa ps.length oc) ps.length (ptCells ps) (by rfl) ((World.ownsRow.alloc hO _).drew)
                  ⟨wr.heap.size, 0, none⟩ 1 1 [.int .i64 (crd x), .int .i64 (crd y)] (by rfl) (by rfl) (World.news_of_block (cs := #[.int .i64 (crd x), .int .i64 (crd y)]) (t := 40) (fr := (0, 0)) (heap_alloc_new wr _)) (by simp [Value.oneCell'])
                  (by omega) hn' hby (by simp; omega) (wr.heap.size + 1) (by simp) ?_; intro gg cap' w2 hown2 hgrow hat hlt2))
            have HS := Lib.hid (MdRel.step (HM.out.alloc _).drew hX hY hown2 hgrow)
            clear hown2 hgrow hat hlt2 hX hY hx' hy' hO hB r0 r1 r2 r3 r4
            go_wp2_with fail
            go_roundw
            case rel => exact ⟨ps ++ [(crd x, crd y)], _, _, by rw [len_snoc]; go_num, by rw [len_snoc], by rw [len_snoc]; omega, by rw [len_snoc]; omega, HSN.out, HS.out⟩
            case measure => simp [intOf]; omega
          · have hm6 := Lib.hid (show min pn 6 = ps.length by omega)
            go_wp2_with fail
            go_meet
            exact ⟨ps, _, _, rfl, hj6, by rw [hm6.out]; exact HPE.out, HM.out⟩
        · have hm6 := Lib.hid (show min pn 6 = ps.length by omega)
          go_wp2_with fail
          go_meet
          exact ⟨ps, _, _, rfl, hj6, by rw [hm6.out]; exact HPE.out, HM.out⟩
    case rest =>
      obtain ⟨qs, qa, qc, rfl, hq6, hqe, hQ⟩ := hcut
      have HQE := Lib.hid (show padR n qs = PS by rw [hP0.out, hqe])
      clear hqe hP0
      have HQ := Lib.hid hQ
      clear hQ HP M0
      go_upto_block 2 with fail
      go_cut [7] (fun p wx => ∃ (ps : List (Int × Int)) (oa : Option Addr) (oc : Nat), p = .slice oa ps.length oc ∧ 2 ≤ ps.length ∧ ps.length ≤ 6 ∧ ps = PS ∧ MdRel w k (.slice la ln lc) (.slice pa pn pc) n m (1 + kn) ps p wx)
      case first =>
        go_wp2_with fail
        go_loopw [7] (fun p wr => ∃ (ps : List (Int × Int)) (oa : Option Addr) (oc : Nat), p = .slice oa ps.length oc ∧ ps.length ≤ 6 ∧ padR n ps = PS ∧ MdRel w k (.slice la ln lc) (.slice pa pn pc) n m (1 + kn) ps p wr) (fun p _ => 2 - lenV p)
        case atStart => exact ⟨qs, _, _, rfl, hq6, HQE.out, HQ.out⟩
        case round =>
          obtain ⟨ps, oa, oc, rfl, hj6, hpe, hMD⟩ := hrel
          have HPE := Lib.hid hpe
          clear hpe
          obtain ⟨r0, r1, r2, r3, r4⟩ := hMD.2.2.1.cells
          have hO := hMD.2.1
          have hsz := hMD.size
          have HM := Lib.hid hMD
          clear hMD HQ hq6
          have hj0 : (0 : Int) ≤ (ps.length : Int) := by omega
          by_cases h1 : (ps.length : Int) < 2
          · have HSN := Lib.hid ((padR_more (n := n) (ps := ps) (by omega)).trans HPE.out)
            have hn' : ps.length + 1 ≤ maxLen := by unfold maxLen; omega
            have hby : (ps.length + 1) * 16 ≤ 140737488355328 := by omega
            have hX : 0 ≤ 30 * (ps.length : Int) ∧ 30 * (ps.length : Int) ≤ 1000 := by omega
            have hY : 0 ≤ n ∧ n ≤ 1000 := by omega
            go_wp2_with (at_builtin; refine wpList_append_lies _ rfl _ _ _ rfl (w.heap.size + 3) 40 i0 _ 2 16 Tryd.underlying29 hi0 hz0 hz1 hz2 rfl (by omega) (.slice oa ps.length oc) ps.length (ptCells ps) (by rfl) (World.ownsRow.alloc hO _) ⟨wr.heap.size, 0, none⟩ 1 1 [.int .i64 (30 * (ps.length : Int)), .int .i64 n] (by rfl) (by rfl) (World.news_of_block (cs := #[.int .i64 (30 * (ps.length : Int)), .int .i64 n]) (t := 40) (fr := (0, 0)) (heap_alloc_new wr _)) (by simp [Value.oneCell']) (by omega) hn' hby (by simp; omega) (wr.heap.size + 1) (by simp) ?_; intro gg cap' w2 hown2 hgrow hat hlt2)
            have HS := Lib.hid (MdRel.step (HM.out.alloc _) hX hY hown2 hgrow)
            clear hown2 hgrow hat hlt2 hX hY hO r0 r1 r2 r3 r4
            go_roundw
            case rel => exact ⟨ps ++ [(30 * (ps.length : Int), n)], _, _, by rw [len_snoc], by rw [len_snoc]; omega, HSN.out, HS.out⟩
            case measure => simp [lenV]; omega
          · go_wp2_with fail
            go_meet
            exact ⟨ps, _, _, rfl, by omega, hj6, (padR_full (by omega)).symm.trans HPE.out, HM.out⟩
      case rest =>
        obtain ⟨ps, oa, oc, rfl, hq2, hj6, hpe, hMD⟩ := hcut
        have HPE := Lib.hid hpe
        clear hpe HQE
        obtain ⟨r0, r1, r2, r3, r4⟩ := hMD.2.2.1.cells
        have hsz := hMD.size
        obtain ⟨g, rfl, hc1, hc2⟩ := own_open hMD.2.1 (by omega)
        have hin := Lib.hid hMD.1
        have HO := Lib.hid hMD.2.1
        have hE := Lib.hid hMD.2.2.2.1
        have hF0 := hMD.2.2.2.2.1
        have hB := Lib.hid hMD.2.2.2.2.2
        clear hMD HQ hq6
        have hkd : kd = 1 + (kn : Int) := by rw [hkd0.out, hkn]
        rw [← hkd] at hF0
        have hF := Lib.hid hF0
        clear hF0
        have hkc : kd = 1 ∨ kd = 2 ∨ kd = 3 ∨ kd = 4 ∨ kd = 5 ∨ kd = 6 ∨ kd = 7 ∨ kd = 8 ∨ kd = 9 ∨ kd = 10 ∨ kd = 11 ∨ kd = 12 := by omega
        clear hkd hkd0 hkn hkn12 hi0 hz0 hz1 hz2
        unfold maxLen at hc2
        rcases hkc with rfl | rfl | rfl | rfl | rfl | rfl | rfl | rfl | rfl | rfl | rfl | rfl
        · obtain ⟨f0, f1, f2, f3, f4, f5⟩ := hF.out.cells
          obtain ⟨z0, z1, z2, z3, z4, z5⟩ := hF.out.free
          have hF1 := Lib.hid (hF.out.set1 (.string ((B u).extract 0 1)))
          have hE1 := Lib.hid (hE.out.setCell (b' := w.heap.size + 1 + 1) (o := 1) (.string ((B u).extract 0 1)) (by omega))
          have hB1 := Lib.hid (show Below w.heap.size w (wc.setCell ⟨w.heap.size + 1 + 1, 1, none⟩ (.string ((B u).extract 0 1))) from hB.out.setCell (by show w.heap.size ≤ w.heap.size + 1 + 1; omega) _)
          obtain ⟨y0, y1, y2, y3, y4, y5⟩ := hF1.out.cells
          have hus : 1 ≤ (B u).size := by rw [size_B]; exact hu1
          go_wp2_with (first | (refine wpList_store_ev rfl _ _ rfl _ _ _ _ _ _ _ hE1.out rfl _ _ _ _ _ _ _ _ rfl ?_; intro W' hB' hg' hs'))
          refine ret_ev1 rfl rfl rfl hB' ?_
          exact ⟨⟨⟨1, u.take 1, [], [], 0, 0⟩, none, 0, by rw [ext_from_0]; rfl, val_key (letters_take Hu.out 1) (by simp; omega), OwnsP.nil _ _, by rw [← HU.out]; rfl⟩, hB1.out.grown hg' hB1.out.size (by simp)⟩
        · have CC := Lib.hid (chord_any n m wc hn0 hn1 hm0 hm1)
          obtain ⟨f0, f1, f2, f3, f4, f5⟩ := hF.out.cells
          obtain ⟨z0, z1, z2, z3, z4, z5⟩ := hF.out.free
          go_wp2_with fail
          refine (CC.out).mono ?_
          rintro e x1 ⟨t, rfl, ht1, ht2, ht3, ht4, rfl, ht5⟩
          have T5 := Lib.hid ht5
          clear ht5
          have T1 := Lib.hid ht1
          have T2 := Lib.hid ht2
          clear ht1 ht2 CC
          have hF1 := Lib.hid (hF.out.set1 (.string (B t)))
          have hE1 := Lib.hid (hE.out.setCell (b' := w.heap.size + 1 + 1) (o := 1) (.string (B t)) (by omega))
          have hB1 := Lib.hid (show Below w.heap.size w (wc.setCell ⟨w.heap.size + 1 + 1, 1, none⟩ (.string (B t))) from hB.out.setCell (by show w.heap.size ≤ w.heap.size + 1 + 1; omega) _)
          obtain ⟨y0, y1, y2, y3, y4, y5⟩ := hF1.out.cells
          go_wp2_with (first | (refine wpList_store_ev rfl _ _ rfl _ _ _ _ _ _ _ hE1.out rfl _ _ _ _ _ _ _ _ rfl ?_; intro W' hB' hg' hs'))
          refine ret_ev1 rfl rfl rfl hB' ?_
          exact ⟨⟨⟨2, t, [], [], 0, 0⟩, none, 0, rfl, val_chord T1.out T2.out ht3 ht4, OwnsP.nil _ _, by rw [T5.out]; rfl⟩, hB1.out.grown hg' hB1.out.size (by simp)⟩
        · have hoc1 : (1 : Int) ≤ (oc : Int) := by omega
          obtain ⟨f0, f1, f2, f3, f4, f5⟩ := hF.out.cells
          obtain ⟨z0, z1, z2, z3, z4, z5⟩ := hF.out.free
          have hF1 := Lib.hid (hF.out.setP (.slice (some ⟨g, 0, none⟩) 1 oc))
          have hE1 := Lib.hid (hE.out.setCell (b' := w.heap.size + 1 + 1) (o := 2) (.slice (some ⟨g, 0, none⟩) 1 oc) (by omega))
          have hB1 := Lib.hid (show Below w.heap.size w (wc.setCell ⟨w.heap.size + 1 + 1, 2, none⟩ (.slice (some ⟨g, 0, none⟩) 1 oc)) from hB.out.setCell (by show w.heap.size ≤ w.heap.size + 1 + 1; omega) _)
          have hO1 := Lib.hid (show OwnsP (wc.setCell ⟨w.heap.size + 1 + 1, 2, none⟩ (.slice (some ⟨g, 0, none⟩) 1 oc)) (w.heap.size + 3) (.slice (some ⟨g, 0, none⟩) ps.length oc) ps from ownsRow_setCell_below HO.out (by show w.heap.size + 1 + 1 < w.heap.size + 3; omega) _)
          obtain ⟨y0, y1, y2, y3, y4, y5⟩ := hF1.out.cells
          go_wp2_with (first | (refine wpList_store_ev rfl _ _ rfl _ _ _ _ _ _ _ hE1.out rfl _ _ _ _ _ _ _ _ rfl ?_; intro W' hB' hg' hs'))
          refine ret_ev1 rfl rfl rfl hB' ?_
          exact ⟨⟨⟨3, [], [ps[0]], [], 0, 0⟩, some ⟨g, 0, none⟩, oc, rfl, val_touch (inside_one hin.out (by omega)) rfl, World.ownsRow.mono (own_first (hO1.out.grown hg' (by omega)) (by omega)) (by omega), by rw [take_first (by omega), ← HPE.out]; rfl⟩, hB1.out.grown hg' hB1.out.size (by simp)⟩
        · obtain ⟨f0, f1, f2, f3, f4, f5⟩ := hF.out.cells
          obtain ⟨z0, z1, z2, z3, z4, z5⟩ := hF.out.free
          have hF1 := Lib.hid (hF.out.setP (.slice (some ⟨g, 0, none⟩) ps.length oc))
          have hE1 := Lib.hid (hE.out.setCell (b' := w.heap.size + 1 + 1) (o := 2) (.slice (some ⟨g, 0, none⟩) ps.length oc) (by omega))
          have hB1 := Lib.hid (show Below w.heap.size w (wc.setCell ⟨w.heap.size + 1 + 1, 2, none⟩ (.slice (some ⟨g, 0, none⟩) ps.length oc)) from hB.out.setCell (by show w.heap.size ≤ w.heap.size + 1 + 1; omega) _)
          have hO1 := Lib.hid (show OwnsP (wc.setCell ⟨w.heap.size + 1 + 1, 2, none⟩ (.slice (some ⟨g, 0, none⟩) ps.length oc)) (w.heap.size + 3) (.slice (some ⟨g, 0, none⟩) ps.length oc) ps from ownsRow_setCell_below HO.out (by show w.heap.size + 1 + 1 < w.heap.size + 3; omega) _)
          obtain ⟨y0, y1, y2, y3, y4, y5⟩ := hF1.out.cells
          go_wp2_with (first | (refine wpList_store_ev rfl _ _ rfl _ _ _ _ _ _ _ hE1.out rfl _ _ _ _ _ _ _ _ rfl ?_; intro W' hB' hg' hs'))
          refine ret_ev1 rfl rfl rfl hB' ?_
          exact ⟨⟨⟨4, [], ps, [], 0, 0⟩, some ⟨g, 0, none⟩, oc, rfl, val_stroke hin.out hq2 (by omega), World.ownsRow.mono (hO1.out.grown hg' (by omega)) (by omega), by rw [← HPE.out]; rfl⟩, hB1.out.grown hg' hB1.out.size (by simp)⟩
        · obtain ⟨f0, f1, f2, f3, f4, f5⟩ := hF.out.cells
          obtain ⟨z0, z1, z2, z3, z4, z5⟩ := hF.out.free
          have hF1 := Lib.hid (hF.out.set3 (.string (B u)))
          have hE1 := Lib.hid (hE.out.setCell (b' := w.heap.size + 1 + 1) (o := 3) (.string (B u)) (by omega))
          have hB1 := Lib.hid (show Below w.heap.size w (wc.setCell ⟨w.heap.size + 1 + 1, 3, none⟩ (.string (B u))) from hB.out.setCell (by show w.heap.size ≤ w.heap.size + 1 + 1; omega) _)
          obtain ⟨y0, y1, y2, y3, y4, y5⟩ := hF1.out.cells
          go_wp2_with (first | (refine wpList_store_ev rfl _ _ rfl _ _ _ _ _ _ _ hE1.out rfl _ _ _ _ _ _ _ _ rfl ?_; intro W' hB' hg' hs'))
          refine ret_ev1 rfl rfl rfl hB' ?_
          exact ⟨⟨⟨5, [], [], u, 0, 0⟩, none, 0, rfl, val_paste Hu.out hu1 (by omega), OwnsP.nil _ _, by rw [← HU.out]; rfl⟩, hB1.out.grown hg' hB1.out.size (by simp)⟩
        · obtain ⟨f0, f1, f2, f3, f4, f5⟩ := hF.out.cells
          go_wp2_with (first | (refine wpList_store_ev rfl _ _ rfl _ _ _ _ _ _ _ hE.out rfl _ _ _ _ _ _ _ _ rfl ?_; intro W' hB' hg' hs'))
          refine ret_ev1 rfl rfl rfl hB' ?_
          exact ⟨⟨⟨6, [], [], [], 0, 0⟩, none, 0, rfl, val_bare (by decide), OwnsP.nil _ _, rfl⟩, hB.out.grown hg' hB.out.size (by simp)⟩
        · obtain ⟨f0, f1, f2, f3, f4, f5⟩ := hF.out.cells
          go_wp2_with (first | (refine wpList_store_ev rfl _ _ rfl _ _ _ _ _ _ _ hE.out rfl _ _ _ _ _ _ _ _ rfl ?_; intro W' hB' hg' hs'))
          refine ret_ev1 rfl rfl rfl hB' ?_
          exact ⟨⟨⟨7, [], [], [], 0, 0⟩, none, 0, rfl, val_bare (by decide), OwnsP.nil _ _, rfl⟩, hB.out.grown hg' hB.out.size (by simp)⟩
        · obtain ⟨f0, f1, f2, f3, f4, f5⟩ := hF.out.cells
          go_wp2_with (first | (refine wpList_store_ev rfl _ _ rfl _ _ _ _ _ _ _ hE.out rfl _ _ _ _ _ _ _ _ rfl ?_; intro W' hB' hg' hs'))
          refine ret_ev1 rfl rfl rfl hB' ?_
          exact ⟨⟨⟨8, [], [], [], 0, 0⟩, none, 0, rfl, val_bare (by decide), OwnsP.nil _ _, rfl⟩, hB.out.grown hg' hB.out.size (by simp)⟩
        · obtain ⟨f0, f1, f2, f3, f4, f5⟩ := hF.out.cells
          obtain ⟨z0, z1, z2, z3, z4, z5⟩ := hF.out.free
          have hF0 := Lib.hid (hF.out.set4 (.int .i64 (n % 40)))
          have hE0 := Lib.hid (hE.out.setCell (b' := w.heap.size + 1 + 1) (o := 4) (.int .i64 (n % 40)) (by omega))
          have hB0 := Lib.hid (show Below w.heap.size w (wc.setCell ⟨w.heap.size + 1 + 1, 4, none⟩ (.int .i64 (n % 40))) from hB.out.setCell (by show w.heap.size ≤ w.heap.size + 1 + 1; omega) _)
          obtain ⟨v0, v1, v2, v3, v4, v5⟩ := hF0.out.free
          have hF1 := Lib.hid (hF0.out.set5 (.int .i64 (1 + m % 40)))
          have hE1 := Lib.hid (hE0.out.setCell (b' := w.heap.size + 1 + 1) (o := 5) (.int .i64 (1 + m % 40)) (by omega))
          have hB1 := Lib.hid (show Below w.heap.size w ((wc.setCell ⟨w.heap.size + 1 + 1, 4, none⟩ (.int .i64 (n % 40))).setCell ⟨w.heap.size + 1 + 1, 5, none⟩ (.int .i64 (1 + m % 40))) from hB0.out.setCell (by show w.heap.size ≤ w.heap.size + 1 + 1; omega) _)
          obtain ⟨y0, y1, y2, y3, y4, y5⟩ := hF1.out.cells
          go_wp2_with (first | (refine wpList_store_ev rfl _ _ rfl _ _ _ _ _ _ _ hE1.out rfl _ _ _ _ _ _ _ _ rfl ?_; intro W' hB' hg' hs'))
          refine ret_ev1 rfl rfl rfl hB' ?_
          exact ⟨⟨⟨9, [], [], [], n % 40, 1 + m % 40⟩, none, 0, rfl, val_hold ⟨by omega, by omega⟩ ⟨by omega, by omega⟩, OwnsP.nil _ _, rfl⟩, hB1.out.grown hg' hB1.out.size (by simp)⟩
        · obtain ⟨f0, f1, f2, f3, f4, f5⟩ := hF.out.cells
          obtain ⟨z0, z1, z2, z3, z4, z5⟩ := hF.out.free
          have hF1 := Lib.hid (hF.out.set4 (.int .i64 (n % 50)))
          have hE1 := Lib.hid (hE.out.setCell (b' := w.heap.size + 1 + 1) (o := 4) (.int .i64 (n % 50)) (by omega))
          have hB1 := Lib.hid (show Below w.heap.size w (wc.setCell ⟨w.heap.size + 1 + 1, 4, none⟩ (.int .i64 (n % 50))) from hB.out.setCell (by show w.heap.size ≤ w.heap.size + 1 + 1; omega) _)
          obtain ⟨y0, y1, y2, y3, y4, y5⟩ := hF1.out.cells
          go_wp2_with (first | (refine wpList_store_ev rfl _ _ rfl _ _ _ _ _ _ _ hE1.out rfl _ _ _ _ _ _ _ _ rfl ?_; intro W' hB' hg' hs'))
          refine ret_ev1 rfl rfl rfl hB' ?_
          exact ⟨⟨⟨10, [], [], [], n % 50, 0⟩, none, 0, rfl, val_choose ⟨by omega, by omega⟩, OwnsP.nil _ _, rfl⟩, hB1.out.grown hg' hB1.out.size (by simp)⟩
        · obtain ⟨f0, f1, f2, f3, f4, f5⟩ := hF.out.cells
          go_wp2_with (first | (refine wpList_store_ev rfl _ _ rfl _ _ _ _ _ _ _ hE.out rfl _ _ _ _ _ _ _ _ rfl ?_; intro W' hB' hg' hs'))
          refine ret_ev1 rfl rfl rfl hB' ?_
          exact ⟨⟨⟨11, [], [], [], 0, 0⟩, none, 0, rfl, val_bare (by decide), OwnsP.nil _ _, rfl⟩, hB.out.grown hg' hB.out.size (by simp)⟩
        · obtain ⟨f0, f1, f2, f3, f4, f5⟩ := hF.out.cells
          go_wp2_with (first | (refine wpList_store_ev rfl _ _ rfl _ _ _ _ _ _ _ hE.out rfl _ _ _ _ _ _ _ _ rfl ?_; intro W' hB' hg' hs'))
          refine ret_ev1 rfl rfl rfl hB' ?_
          exact ⟨⟨⟨12, [], [], [], 0, 0⟩, none, 0, rfl, val_bare (by decide), OwnsP.nil _ _, rfl⟩, hB.out.grown hg' hB.out.size (by simp)⟩
theorem Made_any (k n m : Int) (lv pv : Value) (ln pn : Nat) (w : World) (hk0 : 0 ≤ k) (hk1 : k ≤ 255) (hn0 : 0 ≤ n) (hn1 : n ≤ 255) (hm0 : 0 ≤ m) (hm1 : m ≤ 255)
    (hL : BytesAt w w.heap.size lv ln) (hln : ln ≤ maxLen) (hP : PairsAt w w.heap.size pv pn) (hpn : pn ≤ maxLen) :
    Calls Tryd.prog 6 #[.agg #[.int .u8 k, lv, pv, .int .u8 n, .int .u8 m], .int .i64 26] w (MadePost w) := by
  obtain ⟨X, hX⟩ := hL.fn
  obtain ⟨XP, YP, hXY⟩ := hP.fn
  refine (Made_is k n m lv pv ln pn X XP YP _ _ _ (Lib.hid rfl) (Lib.hid rfl) (Lib.hid rfl) w hk0 hk1 hn0 hn1 hm0 hm1 hX hln hXY hpn).mono ?_
  rintro e w' ⟨⟨ev, a, c, rfl, hv, ho, -⟩, hb⟩
  exact ⟨⟨ev, a, c, rfl, hv, ho⟩, hb⟩
/-- The value is a raw event of which Made makes this event. -/
def RawIs (W : World) (B0 : Nat) (v : Value) (ev : Ev) : Prop := ∃ k n m lv pv ln pn X XP YP, v = .agg #[.int .u8 k, lv, pv, .int .u8 n, .int .u8 m] ∧ (0 ≤ k ∧ k ≤ 255) ∧ (0 ≤ n ∧ n ≤ 255) ∧ (0 ≤ m ∧ m ≤ 255) ∧ (BytesFn W B0 lv ln X ∧ ln ≤ maxLen) ∧ PairsFn W B0 pv pn XP YP ∧ pn ≤ maxLen ∧ ev = madeEv (1 + k % 12) (letsOf (textL X (min ln 5))) (padR n (ptsL XP YP (min pn 6))) n m
theorem RawIs.into {W W' : World} {v : Value} {ev : Ev} (h : RawIs W W.heap.size v ev) (hb : Below W.heap.size W W') : RawIs W' W'.heap.size v ev := by
  obtain ⟨k, n, m, lv, pv, ln, pn, X, XP, YP, rfl, h1, h2, h3, ⟨h4, h5⟩, h6, h7, h8⟩ := h
  exact ⟨k, n, m, lv, pv, ln, pn, X, XP, YP, rfl, h1, h2, h3, ⟨(h4.below hb).up hb.size, h5⟩, (h6.below hb).up hb.size, h7, h8⟩
theorem made_is (v : Value) (ev : Ev) (w : World) (h : RawIs w w.heap.size v ev) : Calls Tryd.prog 6 #[v, .int .i64 26] w (MadeIs w ev) := by
  obtain ⟨k, n, m, lv, pv, ln, pn, X, XP, YP, rfl, h1, h2, h3, ⟨h4, h5⟩, h6, h7, h8⟩ := h
  rw [h8]
  exact Made_is k n m lv pv ln pn X XP YP _ _ _ (Lib.hid rfl) (Lib.hid rfl) (Lib.hid rfl) w h1.1 h1.2 h2.1 h2.2 h3.1 h3.2 h4 h5 h6 h7
end Go.Proofs.YtmioocmjlbjfpaaDoor
