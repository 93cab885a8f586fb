/-
  The law's walk: a chain that numbers choose.
-/
import Derived.Test.YtendieoandclkaaDoorGF
import Derived.Test.YtendieoandclkaaDoorGP
import Derived.Test.YtendieoandclkaaDoorRO
namespace Go.Proofs.YtendieoandclkaaDoor
open Go.RowKit
open Pl

/-- A slice of n bytes. -/
def U8At (W : World) (B0 : Nat) (v : Value) (n : Nat) : Prop :=
  ∃ a c, v = .slice a n c ∧ (0 < n → ∃ b off, a = some ⟨b, off, none⟩ ∧ b < B0 ∧ ∀ i, i < n → ∃ x : Nat, W.cell? ⟨b, off + i, none⟩ = some (.int .u8 (x : Nat)) ∧ x < 256)
theorem U8At.on {W W' : World} {v : Value} {n : Nat} (h : U8At W W.heap.size v n) (hb : Below W.heap.size W W') : U8At W' W'.heap.size v n := by
  obtain ⟨a, c, rfl, h⟩ := h
  refine ⟨a, c, rfl, fun hp => ?_⟩
  obtain ⟨b, off, rfl, hlt, hc⟩ := h hp
  refine ⟨b, off, rfl, Nat.lt_of_lt_of_le hlt hb.size, fun i hi => ?_⟩
  obtain ⟨x, h1, h2⟩ := hc i hi
  exact ⟨x, (hb.cell (p := ⟨b, _, none⟩) hlt).trans h1, h2⟩
theorem chn_num {p : Rl → Bool} {rs : List Rl} {s t : Nat} {l : List Nat} (c : Chn (edgeOf p rs) s l t) : ∀ k ∈ l, k < rs.length := by
  induction c with
  | nil => intro k hk; cases hk
  | snoc _ e ih =>
    intro k hk
    rcases List.mem_append.1 hk with h | h
    · exact ih k h
    · obtain rfl : k = _ := List.mem_singleton.1 h
      exact edgeOf_lt _ _ _ e
theorem chn_take {E : Nat → Option (Nat × Nat)} {s t : Nat} {l : List Nat} (c : Chn E s l t) (n : Nat) : ∃ t', Chn E s (l.take n) t' := by
  induction c with
  | nil => exact ⟨s, by rw [List.take_nil]; exact .nil⟩
  | @snoc l a k b c e ih =>
    by_cases h : n ≤ l.length
    · rw [List.take_append_of_le_length h]; exact ih
    · rw [List.take_of_length_le (by rw [List.length_append, List.length_singleton]; omega)]
      exact ⟨b, .snoc c e⟩
def fromB (f : Nat) (x : Rl) : Bool := decide (x.src = (f : Int))

/-- What walk answers: a chain of at most 10 rules, listed in memory that it made. -/
def WalkOut (rs : List Rl) (f : Nat) (w : World) (e : Ending) (w' : World) : Prop := ∃ gv vc out t, e = .returned (.slice (some ⟨gv, 0, none⟩) out.length vc) ∧ NumsOwn w' w.heap.size (.slice (some ⟨gv, 0, none⟩) out.length vc) (ints out) ∧ out.length ≤ 10 ∧ Chn (edgeOf anyR rs) f out t ∧ Below w.heap.size w w'
set_option maxHeartbeats 2000000 in
set_option maxRecDepth 100000 in
theorem Walk_any (m acc : Nat) (a : Option Addr) (c : Nat) (rs : List Rl) (f : Nat) (la : Option Addr) (ln lc : Nat) (w : World) (hx : RlsAt w w.heap.size (.slice a rs.length c) rs) (hl : rs.length ≤ 12) (hr : ∀ x ∈ rs, InM m x) (hu : U8At w w.heap.size (.slice la ln lc) ln) (hln : ln ≤ maxLen) (hf : f < m) :
    Calls Tryd.prog 18 #[.agg #[.int .i64 (m : Nat), .int .u8 (acc : Nat), .slice a rs.length c], .int .i64 (f : Nat), .slice la ln lc] w fun e w' => WalkOut rs f w e w' := by
  obtain ⟨i0, hi0, hz0, hz1, hz2⟩ := infoInt_parts
  have b1 := (Below.refl w.heap.size w).alloc (Nat.le_refl _) (.cells #[.int .i64 (m : Nat), .int .u8 (acc : Nat), .slice a rs.length c] 33)
  have s1 := SchBlock.new w (.int .i64 (m : Nat)) (.int .u8 (acc : Nat)) (.slice a rs.length c)
  have HX := Lib.hid hx
  have HR := Lib.hid hr
  have HU := Lib.hid hu
  have S1 := Lib.hid s1
  have B1 := Lib.hid b1
  have hz1' : (w.alloc (.cells #[.int .i64 (m : Nat), .int .u8 (acc : Nat), .slice a rs.length c] 33)).heap.size = w.heap.size + 1 := World.size_alloc _ _
  clear hx hr hu b1 s1
  unfold maxLen at hln
  go_enter Tryd.func18, Tryd.ntmps18
  go_upto_region 1 with fail
  generalize w.alloc _ = x1 at *
  go_upto_region 2 with fail
  have hO2 : NumsOwn (x1.alloc (.cells #[] 3)) (w.heap.size + 1) (.slice (some ⟨w.heap.size + 1, 0, none⟩) 0 0) (ints []) :=
    ⟨rfl, Or.inr ⟨w.heap.size + 1, 0, #[], rfl, Nat.le_refl _, by rw [← hz1']; exact heap_alloc_new x1 _, Nat.le_refl _, Nat.zero_le _, rfl, rfl⟩⟩
  have S2 := Lib.hid (S1.out.below ((Below.refl _ _).alloc (Nat.le_refl _) (.cells #[] 3)))
  have B2 := Lib.hid (B1.out.alloc B1.out.size (.cells #[] 3))
  have O2 := Lib.hid hO2
  clear hO2 S1 B1
  generalize hgx : x1.alloc _ = x2 at *
  clear hgx
  go_wp2_with fail
  go_loopw [1, 7, 8] (fun fv ov iv wr => ∃ (f' : Nat) (out : List Nat) (gv vc : Nat), fv = .int .i64 (f' : Nat) ∧ ov = .slice (some ⟨gv, 0, none⟩) out.length vc ∧ iv = .int .i64 (out.length : Nat) ∧ out.length ≤ 10 ∧ out.length ≤ ln ∧ NumsOwn wr (w.heap.size + 1) ov (ints out) ∧ Chn (edgeOf anyR rs) f out f' ∧ SchBlock wr w.heap.size (.int .i64 (m : Nat)) (.int .u8 (acc : Nat)) (.slice a rs.length c) ∧ Below w.heap.size w wr) (fun _ _ iv _ => 10 - (intOf iv).toNat)
  case atStart => exact ⟨f, [], _, _, rfl, rfl, rfl, by decide, Nat.zero_le _, O2.out, .nil, S2.out, B2.out⟩
  case round =>
    obtain ⟨f', out, gv, vc, rfl, rfl, rfl, ho10, hon, hown, hch, hs, hb⟩ := hrel
    clear S2 B2 O2 hz1'
    generalize wr = wo at *
    have HO := Lib.hid hown
    have HC := Lib.hid hch
    have HS := Lib.hid hs
    have HB := Lib.hid hb
    have hf' : f' < m := chn_lt HR.out hf hch
    have hsz : w.heap.size + 1 ≤ wo.heap.size := by have := lt_of_heap hs; omega
    clear hown hch hs hb
    have hn0 : (0 : Int) ≤ (out.length : Int) := by omega
    by_cases h1 : (out.length : Int) < (ln : Int)
    · by_cases h2 : (out.length : Int) < 10
      · go_upto_region 6 with fail
        have HN := Lib.hid (show NumsOwn (wo.alloc (.cells #[] 3)) wo.heap.size (.slice (some ⟨wo.heap.size, 0, none⟩) 0 0) [] from
          ⟨rfl, Or.inr ⟨wo.heap.size, 0, #[], rfl, Nat.le_refl _, heap_alloc_new wo _, Nat.le_refl _, Nat.zero_le _, rfl, rfl⟩⟩)
        have HW := Lib.hid ((Below.refl wo.heap.size wo).alloc (Nat.le_refl _) (.cells #[] 3))
        generalize hgx : wo.alloc _ = x3 at *
        clear hgx
        go_wp2_with fail
        go_loopw [9, 10] (fun cv kv wi => ∃ k : Nat, kv = .int .i64 (k : Nat) ∧ k ≤ rs.length ∧ NumsOwn wi wo.heap.size cv (pickN (fromB f') rs k) ∧ Below wo.heap.size wo wi) (fun _ kv _ => rs.length - (intOf kv).toNat)
        case atStart => exact ⟨0, rfl, Nat.zero_le _, HN.out, HW.out⟩
        case round =>
          obtain ⟨k, rfl, hk, hcan, hbk⟩ := hrel
          clear HN HW
          obtain ⟨ca, cc, rfl⟩ := hcan.shape
          have CN := Lib.hid hcan
          have BK := Lib.hid hbk
          have hwz : wo.heap.size ≤ wr.heap.size := hbk.size
          clear hcan hbk
          have k0 : (0 : Int) ≤ (k : Int) := by omega
          have SK := Lib.hid (HS.out.below BK.out)
          obtain ⟨s0, s1, s2⟩ := SK.out.cells
          have hpl := pickN_len (fromB f') rs k
          by_cases h3 : (k : Int) < (rs.length : Int)
          · have hkl : k < rs.length := by omega
            obtain ⟨x, hxe⟩ : ∃ x, x = rs[k] := ⟨_, rfl⟩
            obtain ⟨a', c', hv, hP⟩ := HX.out.on (HB.out.trans (BK.out.mono HB.out.size))
            obtain ⟨rfl, -⟩ : a = a' ∧ c = c' := by simpa using hv
            obtain ⟨b, off, ha, hlt, hc⟩ := hP (by omega)
            subst ha
            obtain ⟨p0, p1, p2, p3, p4⟩ := hc k hkl
            rw [← hxe] at p0 p1 p2 p3 p4
            have HN := Lib.hid (pickN_succ (fromB f') rs k hkl)
            rw [← hxe] at HN
            clear hP hc hv hxe p1 p2 p3 p4
            by_cases h4 : x.src = (f' : Int)
            · have HE := Lib.hid (show fromB f' x = true from decide_eq_true h4)
              have hb4 : (x.src == (f' : Int)) = true := by simpa using h4
              clear h4
              have hmx : (pickN (fromB f') rs k).length + 1 ≤ maxLen := by unfold maxLen; omega
              have hby : ((pickN (fromB f') rs k).length + 1) * 8 ≤ 140737488355328 := by omega
              have hba : wo.heap.size ≤ (wr.alloc (.cells #[.int .i64 (k : Int)] 3)).heap.size := by simp; omega
              have hbl := Lib.hid (BK.out.alloc BK.out.size (.cells #[.int .i64 (k : Int)] 3))
              have hob := Lib.hid CN.out.blk
              go_wp2_with (first
                | (at_builtin; refine wpList_append_own _ rfl _ _ 38 rfl wo.heap.size 3 i0 (.int .i64 0) 1 8 Tryd.underlying38 hi0 hz0 hz1 hz2 rfl (by decide) _ _ _ rfl (World.ownsRow.alloc CN.out _) ⟨wr.heap.size, 0, none⟩ 1 1 [.int .i64 (k : Int)] rfl rfl (cell_one_new _ _ _) (ints_oneCell .i64 [(k : Int)]) hmx hby hba ?_; intro v2 w2 hown2 hgrow2 hnil2)
                | fail)
              have HBE := Lib.hid (hbl.out.grown hgrow2 hba (fun k hk => hob.out k hk))
              have HOE := Lib.hid (show NumsOwn w2 wo.heap.size v2 (pickN (fromB f') rs k ++ [(k : Int)]) by
                unfold NumsOwn
                rw [intC_snoc, List.length_append, List.length_singleton]; exact hown2)
              clear hown2 hgrow2 hnil2 CN BK hbl hob SK s0 s1 s2 p0
              go_roundw
              case rel => exact ⟨k + 1, by go_num, by omega, by rw [HN.out, HE.out]; exact HOE.out, HBE.out⟩
              case measure => simp [intOf]; omega
            · have HE := Lib.hid (show fromB f' x = false from decide_eq_false h4)
              have hb4 : (x.src == (f' : Int)) = false := by simpa using h4
              clear h4
              go_wp2_with fail
              go_roundw
              case rel => exact ⟨k + 1, by go_num, by omega, by rw [HN.out, HE.out]; simpa using CN.out, BK.out⟩
              case measure => simp [intOf]; omega
          · have hfull : pickN (fromB f') rs k = pickN (fromB f') rs rs.length := by rw [show k = rs.length by omega]
            rw [hfull] at CN
            obtain ⟨cs, hcs⟩ : ∃ l, l = pickN (fromB f') rs rs.length := ⟨_, rfl⟩
            have hcl : cs.length ≤ 12 := by rw [hcs]; have := pickN_len (fromB f') rs rs.length; omega
            have HCM := Lib.hid (show ∀ x ∈ cs, ∃ k : Nat, x = (k : Int) ∧ ∃ h : k < rs.length, fromB f' rs[k] = true by rw [hcs]; exact pickN_mem (fromB f') rs)
            rw [hfull]
            rw [← hcs] at CN
            rw [← hcs]
            clear hfull hcs hpl
            by_cases h5 : cs.length = 0
            · have h5' : ((cs.length : Int) == 0) = true := by simpa using h5
              have HOE := Lib.hid (show NumsOwn wr w.heap.size (.slice (some ⟨gv, 0, none⟩) out.length vc) (ints out) from World.ownsRow.mono (HO.out.below BK.out) (base' := w.heap.size) (by omega))
              clear h5
              go_wp2_with fail
              go_ret
              exact ⟨gv, vc, out, f', rfl, HOE.out, ho10, HC.out, HB.out.trans (BK.out.mono HB.out.size)⟩
            · have h5' : ((cs.length : Int) == 0) = false := by simpa using h5
              obtain ⟨ca', cc', hcv, hcP⟩ := CN.out.at
              obtain ⟨rfl, -⟩ : ca = ca' ∧ cc = cc' := by simpa using hcv
              obtain ⟨cb, co, hca, -, hcc⟩ := hcP (by omega)
              subst hca
              have BT := Lib.hid (HB.out.trans (BK.out.mono HB.out.size))
              obtain ⟨ua, uc, huv, huP⟩ := HU.out.on BT.out
              obtain ⟨rfl, -⟩ : la = ua ∧ lc = uc := by simpa using huv
              obtain ⟨ub, uo, hua, -, huc⟩ := huP (by omega)
              subst hua
              obtain ⟨X, hX, hX6⟩ := huc out.length (by omega)
              obtain ⟨j, hj⟩ : ∃ j, j = X % cs.length := ⟨_, rfl⟩
              have hjl : j < cs.length := by rw [hj]; exact Nat.mod_lt _ (by omega)
              obtain ⟨q, hq, hql, hqf⟩ := HCM.out _ (List.getElem_mem hjl)
              have hcj := hcc j hjl
              rw [hq] at hcj
              obtain ⟨y, hy⟩ : ∃ y, y = rs[q] := ⟨_, rfl⟩
              rw [← hy] at hqf
              have hyf : y.src = (f' : Int) := of_decide_eq_true hqf
              obtain ⟨a', c', hv, hP⟩ := HX.out
              obtain ⟨rfl, -⟩ : a = a' ∧ c = c' := by simpa using hv
              obtain ⟨b, off, ha, hlt, hc⟩ := hP (by omega)
              subst ha
              obtain ⟨p0, p1, p2, p3, p4⟩ := hc q hql
              rw [← hy] at p0 p1 p2 p3 p4
              have hyd := HR.out y (by rw [hy]; exact List.getElem_mem hql)
              obtain ⟨g, hg⟩ : ∃ g : Nat, g = y.dst.toNat := ⟨_, rfl⟩
              have hgd : y.dst = (g : Int) := by rw [hg]; have := hyd.2.1; omega
              have HCN := Lib.hid (show Chn (edgeOf anyR rs) f (out ++ [q]) g from .snoc HC.out (by
                rw [edgeOf_at hql, if_pos (show anyR rs[q] = true from rfl), ← hy, ← hg, hyf]; rfl))
              have e1 : (X : Int).tmod (cs.length : Int) = (j : Int) := by rw [Int.tmod_eq_emod_of_nonneg (by omega), hj, Int.natCast_emod]
              have w1 : IntKind.i64.wrap (X : Int) = (X : Int) := IntWalk.i64_in _ (by omega)
              have w2 : IntKind.i64.wrap (j : Int) = (j : Int) := IntWalk.i64_in _ (by omega)
              have j0 : (0 : Int) ≤ (j : Int) := by omega
              have jl : (j : Int) < (cs.length : Int) := by omega
              have q0 : (0 : Int) ≤ (q : Int) := by omega
              have ql : (q : Int) < (rs.length : Int) := by omega
              have hc0 : ¬ (cs.length : Int) = 0 := by omega
              rw [hgd] at p1
              have PD := Lib.hid (⟨hlt, p1⟩ : _ ∧ _)
              have HOW := Lib.hid (show World.ownsRow wr (w.heap.size + 1) 3 1 (.slice (some ⟨gv, 0, none⟩) out.length vc) out.length (intC (ints out)) by
                have h := HO.out.below BK.out
                unfold NumsOwn at h
                rw [ints_len] at h
                exact h)
              have hmx : out.length + 1 ≤ maxLen := by unfold maxLen; omega
              have hby : (out.length + 1) * 8 ≤ 140737488355328 := by omega
              have hba : w.heap.size + 1 ≤ (wr.alloc (.cells #[.int .i64 (q : Int)] 3)).heap.size := by simp; omega
              have hbl := Lib.hid (BT.out.alloc BT.out.size (.cells #[.int .i64 (q : Int)] 3))
              have hob := Lib.hid (show ∀ k, (Value.slice (some ⟨gv, 0, none⟩) out.length vc).ownBlock = some k → w.heap.size + 1 ≤ k from (HO.out.below BK.out).blk)
              have SA := Lib.hid (SK.out.below ((Below.refl _ _).alloc (Nat.le_refl _) (.cells #[.int .i64 (q : Int)] 3)))
              clear hcv hcP hcc huv huP huc hj hq hqf hy hyf hv hP hc p0 p1 p2 p3 p4 hyd hg hX6 HO HB BK HS CN BT SK
              go_upto_region 14 with (first
                | (at_builtin; refine wpList_append_own _ rfl _ _ 38 rfl (w.heap.size + 1) 3 i0 (.int .i64 0) 1 8 Tryd.underlying38 hi0 hz0 hz1 hz2 rfl (by decide) _ _ _ rfl (World.ownsRow.alloc HOW.out _) ⟨wr.heap.size, 0, none⟩ 1 1 [.int .i64 (q : Int)] rfl rfl (cell_one_new _ _ _) (ints_oneCell .i64 [(q : Int)]) hmx hby hba ?_; intro v2 w2 hown2 hgrow2 hnil2)
                | fail)
              obtain ⟨g2b, cap2, rfl, hgb, hgl⟩ := hown2.form (by omega)
              have HBE := Lib.hid (hbl.out.grown hgrow2 (by omega) (fun k hk => by have := hob.out k hk; omega))
              have SE := Lib.hid (SA.out.keptBy hgrow2 (fun e => by have := hob.out _ e; omega))
              have HOE := Lib.hid (show NumsOwn w2 (w.heap.size + 1) (.slice (some ⟨g2b, 0, none⟩) (out.length + 1) cap2) (ints (out ++ [q])) by
                unfold NumsOwn
                rw [ints_snoc, intC_snoc, List.length_append, ints_len, List.length_singleton]; exact hown2)
              obtain ⟨t0, t1, t2⟩ := SE.out.cells
              have pd := (HBE.out.cell (p := ⟨b, off + q * 5 + 1, none⟩) PD.out.1).trans PD.out.2
              have hol : (out ++ [q]).length = out.length + 1 := by simp
              have HOL := Lib.hid hol
              clear hown2 hgrow2 hnil2 hbl hob SA HOW s0 s1 s2 hol hX hcj
              go_wp2_with fail
              go_roundw
              case rel => exact ⟨g, out ++ [q], g2b, cap2, by first | rfl | rw [hgd], by rw [HOL.out], by rw [HOL.out]; go_num, by rw [HOL.out]; omega, by rw [HOL.out]; omega, HOE.out, HCN.out, SE.out, HBE.out⟩
              case measure => simp [intOf]; omega
      · have HOE := Lib.hid (show NumsOwn wo w.heap.size (.slice (some ⟨gv, 0, none⟩) out.length vc) (ints out) from World.ownsRow.mono HO.out (base' := w.heap.size) (by omega))
        go_wp2_with fail
        go_ret
        exact ⟨gv, vc, out, f', rfl, HOE.out, ho10, HC.out, HB.out⟩
    · have HOE := Lib.hid (show NumsOwn wo w.heap.size (.slice (some ⟨gv, 0, none⟩) out.length vc) (ints out) from World.ownsRow.mono HO.out (base' := w.heap.size) (by omega))
      go_wp2_with fail
      go_ret
      exact ⟨gv, vc, out, f', rfl, HOE.out, ho10, HC.out, HB.out⟩
theorem numsOwn_cap {W : World} {b : Nat} {p : Addr} {n c : Nat} {xs : List Int} (h : NumsOwn W b (.slice (some p) n c) xs) : xs.length ≤ c := by
  rcases h.2 with ⟨h1, _⟩ | ⟨g, cap, cur, h1, _, _, h2, _⟩
  · cases h1
  · injection h1 with _ _ h3
    rw [h3]; exact h2
end Go.Proofs.YtendieoandclkaaDoor
