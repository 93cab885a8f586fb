/-
  The distance by the table.
-/
import Derived.Test.YtadaijepalhohaaAJ
namespace Go.Proofs.Ytadaijepalhohaa
open Go.RowKit
open Pl

theorem info75 : (Try.prog.info? 75).map (·.size) = some 3 := by kernel_rfl
/-- What a table answers. -/
def TdPost (W1 w : World) (T x y z : Nat) (s : Sl) (a : Option Addr) (c bp bl : Nat) (t m : List UInt8) (e : Ending) (w' : World) : Prop :=
  ∃ x' y' z' : Nat, e = .returned (.int .i64 (D s m t)) ∧ TabInv W1 w' T x' y' z' s a c bp bl (B t) ∧ But [T, x, y, z] w w' ∧ x' ∈ [x, y, z] ∧ y' ∈ [x, y, z] ∧ z' ∈ [x, y, z]
/-- What the rounds over meant keep. -/
def TdRel (W1 w : World) (T x y z : Nat) (s : Sl) (a : Option Addr) (c bp bl : Nat) (t m : List UInt8) (i : Nat) (W : World) : Prop :=
  ∃ (x' y' z' : Nat) (Y Z : List Int), TabInv W1 W T x' y' z' s a c bp bl (B t) ∧ But [T, x, y, z] w W ∧ (x' ∈ [x, y, z] ∧ y' ∈ [x, y, z] ∧ z' ∈ [x, y, z]) ∧ (Row W y' Y ∧ Y.length = t.length + 1 ∧ (1 ≤ i → ∀ k, k ≤ t.length → Y[k]? = some (E s m t (i - 1) k))) ∧ (Row W z' Z ∧ Z.length = t.length + 1 ∧ ∀ k, k ≤ t.length → Z[k]? = some (E s m t i k))
theorem HasRow.but {W W' : World} {b n : Nat} {ex : List Nat} (h : HasRow W b n) (hb : But ex W W') (hx : b ∉ ex) : HasRow W' b n := by
  obtain ⟨R, h1, h2⟩ := h
  exact ⟨R, h1, Blk.but h2 hb hx⟩
set_option maxHeartbeats 2000000 in
set_option maxRecDepth 100000 in
theorem tdist_any (s : Sl) (hs : Bd s) (a : Option Addr) (c bp bl : Nat) (t m : List UInt8) (W1 w : World) (T x y z : Nat) (hT : TabInv W1 w T x y z s a c bp bl (B t)) (hl : s.alike.length ≤ 1000000) (ht : t.length ≤ 1000) (hm : m.length ≤ 1000) :
    Calls Try.prog 24 #[.pointer (some ⟨T, 0, none⟩), .string (B m)] w (TdPost W1 w T x y z s a c bp bl t m) := by
  have hn := size_B t
  have hBm := size_B m
  have HT := Lib.hid hT
  have ha0 := hs.pos.add
  have ha1 := hs.add
  have HS := Lib.hid hs
  have HBK := hT.blk
  obtain ⟨n, hnn⟩ : ∃ n, n = t.length + 1 := ⟨_, rfl⟩
  rw [hn, ← hnn] at HBK
  have HN := Lib.hid hnn
  obtain ⟨Z0, hZ0, hZr⟩ := hT.rz
  rw [hn, ← hnn] at hZ0
  have HSZ := Lib.hid hn
  have HK := Lib.hid HBK
  have ZL := Lib.hid hZ0
  have ZR := Lib.hid hZr
  obtain ⟨⟨q0, q1, q2, q3, q4⟩, ⟨q5, q6⟩, q7, q8, q9⟩ := tab_get HBK
  have nle : n ≤ 1001 := by omega
  clear hT hs hnn hn hZ0 hZr HBK
  go_enter Try.func24, Try.ntmps24
  go_wp2_with fail
  clear q0 q1 q2 q3 q4 q5 q6 q7 q8 q9
  go_loopw [15] (fun jv wr => ∃ (j : Nat) (Z : List Int), jv = .int .i64 (j : Nat) ∧ j ≤ n ∧ Z.length = n ∧ Row wr z Z ∧ (∀ k, k < j → Z[k]? = some ((k : Int) * s.add)) ∧ But [z] w wr) (fun jv _ => n - (intOf jv).toNat)
  case atStart => exact ⟨0, Z0, rfl, Nat.zero_le _, ZL.out, ZR.out, fun k h => absurd h (Nat.not_lt_zero _), But.refl _ _⟩
  case round =>
    obtain ⟨j, Z, rfl, hj, hZl, hZr, hZe, hbt⟩ := hrel
    have ZL2 := Lib.hid hZl
    have ZE2 := Lib.hid hZe
    have ZR2 := Lib.hid hZr
    have BT := Lib.hid hbt
    have j0 : (0 : Int) ≤ (j : Int) := by omega
    clear hZl hZr hZe hbt ZL ZR
    by_cases h1 : (j : Int) < (n : Int)
    · have jn : j < n := by omega
      have hTB := Blk.but HK.out BT.out (by have := HT.out.ne; simpa using this.2.2.1)
      obtain ⟨⟨q0, q1, q2, q3, q4⟩, ⟨q5, q6⟩, q7, q8, q9⟩ := tab_get hTB
      have pm : (j : Int) * s.add ≤ 1001 * 4000 := Int.mul_le_mul (by omega) ha1 (by omega) (by omega)
      have pm0 : 0 ≤ (j : Int) * s.add := Int.mul_nonneg (by omega) (by omega)
      have pw : IntKind.i64.wrap ((j : Int) * s.add) = (j : Int) * s.add := IntWalk.i64_in _ (by omega)
      have zc := ZR2.out.cell j
      rw [List.getElem?_map, List.getElem?_eq_getElem (by rw [ZL2.out]; exact jn), Option.map_some] at zc
      have zf := ZR2.out.free j
      have RN := Lib.hid (show ∃ Z', Z'.length = n ∧ Row (wr.setCell ⟨z, j, none⟩ (.int .i64 ((j : Int) * s.add))) z Z' ∧ (∀ k, k < j + 1 → Z'[k]? = some ((k : Int) * s.add)) ∧ But [z] w (wr.setCell ⟨z, j, none⟩ (.int .i64 ((j : Int) * s.add))) from
        ⟨Z.set j ((j : Int) * s.add), by rw [List.length_set]; exact ZL2.out, Row.set ZR2.out _ _, fun k hk => by
          rcases Nat.lt_or_ge k j with q | q
          · rw [List.getElem?_set_ne (by omega)]; exact ZE2.out k q
          · obtain rfl : k = j := by omega
            rw [List.getElem?_set_self (by rw [ZL2.out]; exact jn)], BT.out.setCell (by simp) _⟩)
      clear hTB q0 q1 q3 q4 q5 q6 q7 q8 q9 ZR2 BT
      go_wp2_with fail
      go_roundw
      case rel =>
        obtain ⟨Z', r1, r2, r3, r4⟩ := RN.out
        exact ⟨j + 1, Z', by go_num, by omega, r1, r2, r3, r4⟩
      case measure => simp [intOf]; omega
    · have hje : j = n := by omega
      have RR := Lib.hid (show TdRel W1 w T x y z s a c bp bl t m 0 wr from by
        obtain ⟨d1, d2, d3, d4, d5, d6⟩ := HT.out.ne
        obtain ⟨g1, g2, g3, g4⟩ := HT.out.ge
        obtain ⟨Y0, hY0, hYr⟩ := HT.out.ry
        rw [HSZ.out] at hY0
        refine ⟨x, y, z, Y0, Z, ⟨Blk.but HT.out.blk BT.out (by simpa using d3), HT.out.rx.but BT.out (by simpa using d5), HT.out.ry.but BT.out (by simpa using d6), ⟨Z, by rw [HSZ.out, ZL2.out, HN.out], ZR2.out⟩, HT.out.ne, HT.out.ok, HT.out.low.trans (BT.out.low HT.out.low.size (fun k hk => by
          obtain rfl : k = z := by simpa using hk
          exact g4)), HT.out.ge⟩, BT.out.more (fun k hk => by simp at hk ⊢; exact Or.inr (Or.inr (Or.inr hk))), ⟨by simp, by simp, by simp⟩, ⟨Blk.but hYr BT.out (by simpa using d6), hY0, fun h => absurd h (by omega)⟩, ZR2.out, by rw [ZL2.out, HN.out], fun k hk => ?_⟩
        rw [ZE2.out k (by have := HN.out; omega), E_top _ _ _ _ hk])
      clear hje ZL2 ZE2 ZR2 BT
      go_wp2_with fail
      go_loopw [31] (fun iv wr => ∃ i : Nat, iv = .int .i64 (i : Nat) ∧ i ≤ m.length ∧ TdRel W1 w T x y z s a c bp bl t m i wr) (fun iv _ => m.length - (intOf iv).toNat)
      case atStart => exact ⟨0, rfl, Nat.zero_le _, RR.out⟩
      case round =>
        obtain ⟨i, rfl, hi, hr⟩ := hrel
        clear RR
        obtain ⟨x', y', z', Y, Z', hti, hbt, hin, ⟨hyr, hyl, hye⟩, hzr, hzl, hze⟩ := hr
        have TI := Lib.hid hti
        have BT := Lib.hid hbt
        have IN := Lib.hid hin
        have YR := Lib.hid hyr
        have YL := Lib.hid hyl
        have YE := Lib.hid hye
        have ZR := Lib.hid hzr
        have ZL := Lib.hid hzl
        have ZE := Lib.hid hze
        have HBK := hti.blk
        rw [HSZ.out, ← HN.out] at HBK
        have HK2 := Lib.hid HBK
        have i0 : (0 : Int) ≤ (i : Int) := by omega
        clear hti hbt hin hyr hyl hye hzr hzl hze HBK
        by_cases h2 : (i : Int) < (m.length : Int)
        · go_upto_region 10 with fail
          have him : i < m.length := by omega
          have FW := Lib.hid (show ∀ W, Below wr.heap.size wr W → W.cell? ⟨T, 7, none⟩ = some (rowV x' n) ∧ W.cell? ⟨T, 8, none⟩ = some (rowV y' n) ∧ W.cell? ⟨T, 9, none⟩ = some (rowV z' n) from fun W h => (tab_get (HK2.out.below h)).2.2)
          refine wp_normal ?_
          refine wp_region_pick (C := fun W => Below wr.heap.size wr W) [0, 1, 2, 3, 4, 5, 6, 7, 8, 9, 10, 11, 12, 13, 14, 15, 16, 17, 18] [19] (fun j => decide (19 ≤ j)) (by kernel_rfl) (by kernel_rfl) (by kernel_rfl) rfl (by kernel_rfl) (Below.refl _ _).drew (fun c d v a w h => by cases h.1) ?_
          refine hoistI_step (.pointer (some ⟨T, 0, none⟩)) rfl (fun W hW => by obtain ⟨f0, f1, f2⟩ := FW.out W hW; go_simp) ?_
          refine hoistI_step (.pointer (some ⟨T, 0, none⟩)) rfl (fun W hW => by obtain ⟨f0, f1, f2⟩ := FW.out W hW; go_simp) ?_
          refine hoistI_step (.pointer (some ⟨T, 0, none⟩)) rfl (fun W hW => by obtain ⟨f0, f1, f2⟩ := FW.out W hW; go_simp) ?_
          refine hoistI_step (.pointer (some ⟨T, 7, none⟩)) rfl (fun W hW => by obtain ⟨f0, f1, f2⟩ := FW.out W hW; go_simp) ?_
          refine hoistI_step (.pointer (some ⟨T, 8, none⟩)) rfl (fun W hW => by obtain ⟨f0, f1, f2⟩ := FW.out W hW; go_simp) ?_
          refine hoistI_step (rowV y' n) rfl (fun W hW => by obtain ⟨f0, f1, f2⟩ := FW.out W hW; go_simp) ?_
          refine hoistI_step (.pointer (some ⟨T, 0, none⟩)) rfl (fun W hW => by obtain ⟨f0, f1, f2⟩ := FW.out W hW; go_simp) ?_
          refine hoistI_step (.pointer (some ⟨T, 0, none⟩)) rfl (fun W hW => by obtain ⟨f0, f1, f2⟩ := FW.out W hW; go_simp) ?_
          refine hoistI_step (.pointer (some ⟨T, 7, none⟩)) rfl (fun W hW => by obtain ⟨f0, f1, f2⟩ := FW.out W hW; go_simp) ?_
          refine hoistI_step (.pointer (some ⟨T, 9, none⟩)) rfl (fun W hW => by obtain ⟨f0, f1, f2⟩ := FW.out W hW; go_simp) ?_
          refine hoistI_step (rowV z' n) rfl (fun W hW => by obtain ⟨f0, f1, f2⟩ := FW.out W hW; go_simp) ?_
          refine hoistI_step (.pointer (some ⟨T, 0, none⟩)) rfl (fun W hW => by obtain ⟨f0, f1, f2⟩ := FW.out W hW; go_simp) ?_
          refine hoistI_step (.pointer (some ⟨T, 0, none⟩)) rfl (fun W hW => by obtain ⟨f0, f1, f2⟩ := FW.out W hW; go_simp) ?_
          refine hoistI_step (.pointer (some ⟨T, 7, none⟩)) rfl (fun W hW => by obtain ⟨f0, f1, f2⟩ := FW.out W hW; go_simp) ?_
          refine hoistI_step (.pointer (some ⟨T, 7, none⟩)) rfl (fun W hW => by obtain ⟨f0, f1, f2⟩ := FW.out W hW; go_simp) ?_
          refine hoistI_step (rowV x' n) rfl (fun W hW => by obtain ⟨f0, f1, f2⟩ := FW.out W hW; go_simp) ?_
          refine hoistI_step ((.agg #[rowV y' n, rowV z' n, rowV x' n])) rfl (fun W hW => by obtain ⟨f0, f1, f2⟩ := FW.out W hW; go_simp) ?_
          refine hoistI_step (.pointer (some ⟨T, 0, none⟩)) rfl (fun W hW => by obtain ⟨f0, f1, f2⟩ := FW.out W hW; go_simp) ?_
          refine hoistI_step (.pointer (some ⟨T, 7, none⟩)) rfl (fun W hW => by obtain ⟨f0, f1, f2⟩ := FW.out W hW; go_simp) ?_
          refine hoistI_done ?_
          refine seqI_tail 19 _ (by rfl) (by kernel_rfl) (by decide) ?_
          simp only [List.drop_succ_cons, List.drop_zero]
          have hbd : Blk wr.drew T 77 (tabC s a c bp bl (B t) (rowV x' n) (rowV y' n) (rowV z' n)) := HK2.out
          have th : wr.drew.there T 7 3 := fun j hj => ⟨by
            rw [hbd.cell]
            rcases (show j = 0 ∨ j = 1 ∨ j = 2 by omega) with rfl | rfl | rfl <;> rfl, hbd.free _⟩
          have hk2 : Blk (wr.drew.setCells T 7 [rowV y' n, rowV z' n, rowV x' n]) T 77 (tabC s a c bp bl (B t) (rowV y' n) (rowV z' n) (rowV x' n)) := ((hbd.put 7 (rowV y' n)).put 8 (rowV z' n)).put 9 (rowV x' n)
          have hb2 : But [T] wr (wr.drew.setCells T 7 [rowV y' n, rowV z' n, rowV x' n]) := (((But.refl [T] wr).drew.setCell (by simp) _).setCell (by simp) _).setCell (by simp) _
          refine wpList_store_mid rfl 75 _ _ rfl T 7 #[rowV y' n, rowV z' n, rowV x' n] (by go_simp) (by go_simp) th info75 (by simp [Value.oneCell']) ?_
          generalize wr.drew.setCells T 7 [rowV y' n, rowV z' n, rowV x' n] = w2 at *
          refine ⟨rfl, ?_⟩
          have hti2 : TabInv W1 w2 T y' z' x' s a c bp bl (B t) := by
            obtain ⟨d1, d2, d3, d4, d5, d6⟩ := TI.out.ne
            obtain ⟨g1, g2, g3, g4⟩ := TI.out.ge
            refine ⟨by rw [HSZ.out, ← HN.out]; exact hk2, TI.out.ry.but hb2 (by simpa using Ne.symm d2), TI.out.rz.but hb2 (by simpa using Ne.symm d3), TI.out.rx.but hb2 (by simpa using Ne.symm d1), ⟨d2, d3, d1, d6, Ne.symm d4, Ne.symm d5⟩, TI.out.ok, TI.out.low.trans (hb2.low TI.out.low.size (fun k hk => by
              obtain rfl : k = T := by simpa using hk
              exact g1)), ⟨g1, g3, g4, g2⟩⟩
          have CF : Calls Try.prog 34 #[.pointer (some ⟨T, 0, none⟩), .string ((B m).extract 0 (i + 1))] w2 fun e w' => e = .returned (.tuple #[]) ∧ But [x'] w2 w' ∧ ∃ Z : List Int, Z.length = t.length + 1 ∧ Row w' x' Z ∧ ∀ k, k ≤ t.length → Z[k]? = some (E s m t (i + 1) k) := by
            rw [ext_B]
            obtain ⟨d1, d2, d3, d4, d5, d6⟩ := TI.out.ne
            exact fill_any s HS.out a c bp bl t m i Y Z' W1 w2 T y' z' x' hti2 hl ht hm him (Blk.but YR.out hb2 (by simpa using Ne.symm d2)) YL.out (Blk.but ZR.out hb2 (by simpa using Ne.symm d3)) ZL.out YE.out ZE.out
          have TI2 := Lib.hid hti2
          have B2 := Lib.hid hb2
          clear hti2 hb2 hk2 FW HK2
          have iz : (i : Int) + 1 ≤ (m.length : Int) := by omega
          go_wp2_with fail
          refine CF.mono ?_
          rintro e w3 ⟨rfl, hb3, Zn, hZl, hZr, hZe⟩
          have RN := Lib.hid (show TdRel W1 w T x y z s a c bp bl t m (i + 1) w3 from by
            obtain ⟨d1, d2, d3, d4, d5, d6⟩ := TI2.out.ne
            obtain ⟨g1, g2, g3, g4⟩ := TI2.out.ge
            obtain ⟨n1, n2, n3⟩ := IN.out
            refine ⟨y', z', x', Z', Zn, ⟨Blk.but TI2.out.blk hb3 (by simpa using d3), TI2.out.rx.but hb3 (by simpa using d5), TI2.out.ry.but hb3 (by simpa using d6), ⟨Zn, by rw [HSZ.out, hZl], hZr⟩, TI2.out.ne, TI2.out.ok, TI2.out.low.trans (hb3.low TI2.out.low.size (fun k hk => by
              obtain rfl : k = x' := by simpa using hk
              exact g4)), TI2.out.ge⟩, ?_, ⟨n2, n3, n1⟩, ⟨Blk.but (Blk.but ZR.out B2.out (by simpa using Ne.symm d2)) hb3 (by simpa using d6), ZL.out, fun _ k hk => ZE.out k hk⟩, hZr, hZl, hZe⟩
            refine BT.out.trans ((B2.out.more ?_).trans (hb3.more ?_))
            · intro k hk
              obtain rfl : k = T := by simpa using hk
              simp
            · intro k hk
              obtain rfl : k = x' := by simpa using hk
              exact List.mem_cons_of_mem _ n1)
          clear hb3 hZl hZr hZe CF TI2 B2 BT TI YR YL YE ZR ZL ZE IN
          go_wp2_with fail
          go_roundw
          case rel => exact ⟨i + 1, by go_num, by omega, RN.out⟩
          case measure => simp [intOf]; omega
        · have HI := Lib.hid (show i = m.length by omega)
          have eZ := ZE.out t.length (Nat.le_refl _)
          rw [HI.out, E_whole] at eZ
          obtain ⟨v, hv⟩ : ∃ v, v = D s m t := ⟨_, rfl⟩
          rw [← hv] at eZ
          have HV := Lib.hid hv
          have HSz := HSZ.out
          have tn : (t.length : Int) < (n : Int) := by have := HN.out; omega
          have t0 : (0 : Int) ≤ (t.length : Int) := by omega
          have cZ := fun (V : World) (h : Row V z' Z') => (Blk.cell h t.length).trans (show (Z'.map intV)[t.length]? = some (.int .i64 v) by rw [List.getElem?_map, eZ]; rfl)
          have FW := Lib.hid (show ∀ W, Below wr.heap.size wr W → (W.cell? ⟨T, 6, none⟩ = some (.string (B t)) ∧ W.cell? ⟨T, 9, none⟩ = some (rowV z' n)) ∧ W.cell? ⟨z', t.length, none⟩ = some (.int .i64 v) from fun W h => ⟨⟨(tab_get (HK2.out.below h)).2.1.2, (tab_get (HK2.out.below h)).2.2.2.2⟩, cZ W (Blk.below ZR.out h)⟩)
          clear hv eZ cZ
          go_upto_region 13 with fail
          refine wp_normal ?_
          refine wp_region_class (C := fun W => Below wr.heap.size wr W) (by kernel_rfl) (by kernel_rfl) (Below.refl _ _).drew ?_
          repeat (first | go_big_quiet_skip | (go_big_quiet_want; first | (go_big_quiet_op; go_big_quiet_on) | (refine quiet_value ?_ (fun W h => ?_) ?_; rotate_left; (· obtain ⟨⟨f0, f1⟩, f2⟩ := FW.out W h; go_simp; rfl); go_simp; go_big_quiet_on)))
          refine wpQuiet_nil ?_
          intro W hb
          refine ⟨rfl, ?_⟩
          have RN := Lib.hid (show TabInv W1 W T x' y' z' s a c bp bl (B t) ∧ But [T, x, y, z] w W from ⟨⟨TI.out.blk.below hb, TI.out.rx.below hb, TI.out.ry.below hb, TI.out.rz.below hb, TI.out.ne, TI.out.ok, TI.out.low.trans (hb.mono TI.out.low.size), TI.out.ge⟩, BT.out.trans (But.of hb)⟩)
          clear hb FW
          go_wp2_with fail
          go_ret
          exact ⟨x', y', z', by rw [HV.out]; rfl, RN.out.1, RN.out.2, IN.out⟩
end Go.Proofs.Ytadaijepalhohaa
