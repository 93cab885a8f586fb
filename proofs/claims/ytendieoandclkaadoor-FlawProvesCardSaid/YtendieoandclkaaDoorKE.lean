/-
  The law's walk: a chain that numbers choose. The reference's Chain on chains. The law's first, the reference's Silent. The reference's Chain, of any list of numbers. The reference's circle. The reference's Proves, of a valid scheme.
-/
import Derived.Test.YtendieoandclkaaDoorGF
import Derived.Test.YtendieoandclkaaDoorGP
import Derived.Test.YtendieoandclkaaDoorRO
import Derived.Test.YtendieoandclkaaDoorTJ
import Derived.Test.YtendieoandclkaaDoorGC
import Derived.Test.YtendieoandclkaaDoorFN
import Derived.Test.YtendieoandclkaaDoorFD
import Derived.Test.YtendieoandclkaaDoorFU
import Derived.Test.YtendieoandclkaaDoorFV
import Derived.Test.YtendieoandclkaaDoorHB
import Derived.Test.YtendieoandclkaaDoorWB
import Derived.Test.YtendieoandclkaaDoorGG

namespace Go.Proofs.YtendieoandclkaaDoor
open Go.RowKit
open Pl

/-- A slice of n bytes. -/
def U8At (W : World) (B0 : Nat) (v : Value) (n : Nat) : Prop :=
  ∃ a c, v = .slice a n c ∧ (0 < n → ∃ b off, a = some ⟨b, off, none⟩ ∧ b < B0 ∧ ∀ i, i < n → ∃ x : Nat, W.cell? ⟨b, off + i, none⟩ = some (.int .u8 (x : Nat)) ∧ x < 256)
theorem U8At.on {W W' : World} {v : Value} {n : Nat} (h : U8At W W.heap.size v n) (hb : Below W.heap.size W W') : U8At W' W'.heap.size v n := by
  obtain ⟨a, c, rfl, h⟩ := h
  refine ⟨a, c, rfl, fun hp => ?_⟩
  obtain ⟨b, off, rfl, hlt, hc⟩ := h hp
  refine ⟨b, off, rfl, Nat.lt_of_lt_of_le hlt hb.size, fun i hi => ?_⟩
  obtain ⟨x, h1, h2⟩ := hc i hi
  exact ⟨x, (hb.cell (p := ⟨b, _, none⟩) hlt).trans h1, h2⟩
theorem chn_num {p : Rl → Bool} {rs : List Rl} {s t : Nat} {l : List Nat} (c : Chn (edgeOf p rs) s l t) : ∀ k ∈ l, k < rs.length := by
  induction c with
  | nil => intro k hk; cases hk
  | snoc _ e ih =>
    intro k hk
    rcases List.mem_append.1 hk with h | h
    · exact ih k h
    · obtain rfl : k = _ := List.mem_singleton.1 h
      exact edgeOf_lt _ _ _ e
theorem chn_take {E : Nat → Option (Nat × Nat)} {s t : Nat} {l : List Nat} (c : Chn E s l t) (n : Nat) : ∃ t', Chn E s (l.take n) t' := by
  induction c with
  | nil => exact ⟨s, by rw [List.take_nil]; exact .nil⟩
  | @snoc l a k b c e ih =>
    by_cases h : n ≤ l.length
    · rw [List.take_append_of_le_length h]; exact ih
    · rw [List.take_of_length_le (by rw [List.length_append, List.length_singleton]; omega)]
      exact ⟨b, .snoc c e⟩
def fromB (f : Nat) (x : Rl) : Bool := decide (x.src = (f : Int))

/-- What walk answers: a chain of at most 10 rules, listed in memory that it made. -/
def WalkOut (rs : List Rl) (f : Nat) (w : World) (e : Ending) (w' : World) : Prop := ∃ gv vc out t, e = .returned (.slice (some ⟨gv, 0, none⟩) out.length vc) ∧ NumsOwn w' w.heap.size (.slice (some ⟨gv, 0, none⟩) out.length vc) (ints out) ∧ out.length ≤ 10 ∧ Chn (edgeOf anyR rs) f out t ∧ Below w.heap.size w w'
set_option maxHeartbeats 2000000 in
set_option maxRecDepth 100000 in
theorem Walk_any (m acc : Nat) (a : Option Addr) (c : Nat) (rs : List Rl) (f : Nat) (la : Option Addr) (ln lc : Nat) (w : World) (hx : RlsAt w w.heap.size (.slice a rs.length c) rs) (hl : rs.length ≤ 12) (hr : ∀ x ∈ rs, InM m x) (hu : U8At w w.heap.size (.slice la ln lc) ln) (hln : ln ≤ maxLen) (hf : f < m) :
    Calls Tryd.prog 18 #[.agg #[.int .i64 (m : Nat), .int .u8 (acc : Nat), .slice a rs.length c], .int .i64 (f : Nat), .slice la ln lc] w fun e w' => WalkOut rs f w e w' := by
  obtain ⟨i0, hi0, hz0, hz1, hz2⟩ := infoInt_parts
  have b1 := (Below.refl w.heap.size w).alloc (Nat.le_refl _) (.cells #[.int .i64 (m : Nat), .int .u8 (acc : Nat), .slice a rs.length c] 33)
  have s1 := SchBlock.new w (.int .i64 (m : Nat)) (.int .u8 (acc : Nat)) (.slice a rs.length c)
  have HX := Lib.hid hx
  have HR := Lib.hid hr
  have HU := Lib.hid hu
  have S1 := Lib.hid s1
  have B1 := Lib.hid b1
  have hz1' : (w.alloc (.cells #[.int .i64 (m : Nat), .int .u8 (acc : Nat), .slice a rs.length c] 33)).heap.size = w.heap.size + 1 := World.size_alloc _ _
  clear hx hr hu b1 s1
  unfold maxLen at hln
  go_enter Tryd.func18, Tryd.ntmps18
  go_upto_region 1 with fail
  generalize w.alloc _ = x1 at *
  go_upto_region 2 with fail
  have hO2 : NumsOwn (x1.alloc (.cells #[] 3)) (w.heap.size + 1) (.slice (some ⟨w.heap.size + 1, 0, none⟩) 0 0) (ints []) :=
    ⟨rfl, Or.inr ⟨w.heap.size + 1, 0, #[], rfl, Nat.le_refl _, by rw [← hz1']; exact heap_alloc_new x1 _, Nat.le_refl _, Nat.zero_le _, rfl, rfl⟩⟩
  have S2 := Lib.hid (S1.out.below ((Below.refl _ _).alloc (Nat.le_refl _) (.cells #[] 3)))
  have B2 := Lib.hid (B1.out.alloc B1.out.size (.cells #[] 3))
  have O2 := Lib.hid hO2
  clear hO2 S1 B1
  generalize hgx : x1.alloc _ = x2 at *
  clear hgx
  go_wp2_with fail
  go_loopw [1, 7, 8] (fun fv ov iv wr => ∃ (f' : Nat) (out : List Nat) (gv vc : Nat), fv = .int .i64 (f' : Nat) ∧ ov = .slice (some ⟨gv, 0, none⟩) out.length vc ∧ iv = .int .i64 (out.length : Nat) ∧ out.length ≤ 10 ∧ out.length ≤ ln ∧ NumsOwn wr (w.heap.size + 1) ov (ints out) ∧ Chn (edgeOf anyR rs) f out f' ∧ SchBlock wr w.heap.size (.int .i64 (m : Nat)) (.int .u8 (acc : Nat)) (.slice a rs.length c) ∧ Below w.heap.size w wr) (fun _ _ iv _ => 10 - (intOf iv).toNat)
  case atStart => exact ⟨f, [], _, _, rfl, rfl, rfl, by decide, Nat.zero_le _, O2.out, .nil, S2.out, B2.out⟩
  case round =>
    obtain ⟨f', out, gv, vc, rfl, rfl, rfl, ho10, hon, hown, hch, hs, hb⟩ := hrel
    clear S2 B2 O2 hz1'
    generalize wr = wo at *
    have HO := Lib.hid hown
    have HC := Lib.hid hch
    have HS := Lib.hid hs
    have HB := Lib.hid hb
    have hf' : f' < m := chn_lt HR.out hf hch
    have hsz : w.heap.size + 1 ≤ wo.heap.size := by have := lt_of_heap hs; omega
    clear hown hch hs hb
    have hn0 : (0 : Int) ≤ (out.length : Int) := by omega
    by_cases h1 : (out.length : Int) < (ln : Int)
    · by_cases h2 : (out.length : Int) < 10
      · go_upto_region 6 with fail
        have HN := Lib.hid (show NumsOwn (wo.alloc (.cells #[] 3)) wo.heap.size (.slice (some ⟨wo.heap.size, 0, none⟩) 0 0) [] from
          ⟨rfl, Or.inr ⟨wo.heap.size, 0, #[], rfl, Nat.le_refl _, heap_alloc_new wo _, Nat.le_refl _, Nat.zero_le _, rfl, rfl⟩⟩)
        have HW := Lib.hid ((Below.refl wo.heap.size wo).alloc (Nat.le_refl _) (.cells #[] 3))
        generalize hgx : wo.alloc _ = x3 at *
        clear hgx
        go_wp2_with fail
        go_loopw [9, 10] (fun cv kv wi => ∃ k : Nat, kv = .int .i64 (k : Nat) ∧ k ≤ rs.length ∧ NumsOwn wi wo.heap.size cv (pickN (fromB f') rs k) ∧ Below wo.heap.size wo wi) (fun _ kv _ => rs.length - (intOf kv).toNat)
        case atStart => exact ⟨0, rfl, Nat.zero_le _, HN.out, HW.out⟩
        case round =>
          obtain ⟨k, rfl, hk, hcan, hbk⟩ := hrel
          clear HN HW
          obtain ⟨ca, cc, rfl⟩ := hcan.shape
          have CN := Lib.hid hcan
          have BK := Lib.hid hbk
          have hwz : wo.heap.size ≤ wr.heap.size := hbk.size
          clear hcan hbk
          have k0 : (0 : Int) ≤ (k : Int) := by omega
          have SK := Lib.hid (HS.out.below BK.out)
          obtain ⟨s0, s1, s2⟩ := SK.out.cells
          have hpl := pickN_len (fromB f') rs k
          by_cases h3 : (k : Int) < (rs.length : Int)
          · have hkl : k < rs.length := by omega
            obtain ⟨x, hxe⟩ : ∃ x, x = rs[k] := ⟨_, rfl⟩
            obtain ⟨a', c', hv, hP⟩ := HX.out.on (HB.out.trans (BK.out.mono HB.out.size))
            obtain ⟨rfl, -⟩ : a = a' ∧ c = c' := by simpa using hv
            obtain ⟨b, off, ha, hlt, hc⟩ := hP (by omega)
            subst ha
            obtain ⟨p0, p1, p2, p3, p4⟩ := hc k hkl
            rw [← hxe] at p0 p1 p2 p3 p4
            have HN := Lib.hid (pickN_succ (fromB f') rs k hkl)
            rw [← hxe] at HN
            clear hP hc hv hxe p1 p2 p3 p4
            by_cases h4 : x.src = (f' : Int)
            · have HE := Lib.hid (show fromB f' x = true from decide_eq_true h4)
              have hb4 : (x.src == (f' : Int)) = true := by simpa using h4
              clear h4
              have hmx : (pickN (fromB f') rs k).length + 1 ≤ maxLen := by unfold maxLen; omega
              have hby : ((pickN (fromB f') rs k).length + 1) * 8 ≤ 140737488355328 := by omega
              have hba : wo.heap.size ≤ (wr.alloc (.cells #[.int .i64 (k : Int)] 3)).heap.size := by simp; omega
              have hbl := Lib.hid (BK.out.alloc BK.out.size (.cells #[.int .i64 (k : Int)] 3))
              have hob := Lib.hid CN.out.blk
              go_wp2_with (first
                | (at_builtin; refine wpList_append_own _ rfl _ _ 38 rfl wo.heap.size 3 i0 (.int .i64 0) 1 8 Tryd.underlying38 hi0 hz0 hz1 hz2 rfl (by decide) _ _ _ rfl (World.ownsRow.alloc CN.out _) ⟨wr.heap.size, 0, none⟩ 1 1 [.int .i64 (k : Int)] rfl rfl (cell_one_new _ _ _) (ints_oneCell .i64 [(k : Int)]) hmx hby hba ?_; intro v2 w2 hown2 hgrow2 hnil2)
                | fail)
              have HBE := Lib.hid (hbl.out.grown hgrow2 hba (fun k hk => hob.out k hk))
              have HOE := Lib.hid (show NumsOwn w2 wo.heap.size v2 (pickN (fromB f') rs k ++ [(k : Int)]) by
                unfold NumsOwn
                rw [intC_snoc, List.length_append, List.length_singleton]; exact hown2)
              clear hown2 hgrow2 hnil2 CN BK hbl hob SK s0 s1 s2 p0
              go_roundw
              case rel => exact ⟨k + 1, by go_num, by omega, by rw [HN.out, HE.out]; exact HOE.out, HBE.out⟩
              case measure => simp [intOf]; omega
            · have HE := Lib.hid (show fromB f' x = false from decide_eq_false h4)
              have hb4 : (x.src == (f' : Int)) = false := by simpa using h4
              clear h4
              go_wp2_with fail
              go_roundw
              case rel => exact ⟨k + 1, by go_num, by omega, by rw [HN.out, HE.out]; simpa using CN.out, BK.out⟩
              case measure => simp [intOf]; omega
          · have hfull : pickN (fromB f') rs k = pickN (fromB f') rs rs.length := by rw [show k = rs.length by omega]
            rw [hfull] at CN
            obtain ⟨cs, hcs⟩ : ∃ l, l = pickN (fromB f') rs rs.length := ⟨_, rfl⟩
            have hcl : cs.length ≤ 12 := by rw [hcs]; have := pickN_len (fromB f') rs rs.length; omega
            have HCM := Lib.hid (show ∀ x ∈ cs, ∃ k : Nat, x = (k : Int) ∧ ∃ h : k < rs.length, fromB f' rs[k] = true by rw [hcs]; exact pickN_mem (fromB f') rs)
            rw [hfull]
            rw [← hcs] at CN
            rw [← hcs]
            clear hfull hcs hpl
            by_cases h5 : cs.length = 0
            · have h5' : ((cs.length : Int) == 0) = true := by simpa using h5
              have HOE := Lib.hid (show NumsOwn wr w.heap.size (.slice (some ⟨gv, 0, none⟩) out.length vc) (ints out) from World.ownsRow.mono (HO.out.below BK.out) (base' := w.heap.size) (by omega))
              clear h5
              go_wp2_with fail
              go_ret
              exact ⟨gv, vc, out, f', rfl, HOE.out, ho10, HC.out, HB.out.trans (BK.out.mono HB.out.size)⟩
            · have h5' : ((cs.length : Int) == 0) = false := by simpa using h5
              obtain ⟨ca', cc', hcv, hcP⟩ := CN.out.at
              obtain ⟨rfl, -⟩ : ca = ca' ∧ cc = cc' := by simpa using hcv
              obtain ⟨cb, co, hca, -, hcc⟩ := hcP (by omega)
              subst hca
              have BT := Lib.hid (HB.out.trans (BK.out.mono HB.out.size))
              obtain ⟨ua, uc, huv, huP⟩ := HU.out.on BT.out
              obtain ⟨rfl, -⟩ : la = ua ∧ lc = uc := by simpa using huv
              obtain ⟨ub, uo, hua, -, huc⟩ := huP (by omega)
              subst hua
              obtain ⟨X, hX, hX6⟩ := huc out.length (by omega)
              obtain ⟨j, hj⟩ : ∃ j, j = X % cs.length := ⟨_, rfl⟩
              have hjl : j < cs.length := by rw [hj]; exact Nat.mod_lt _ (by omega)
              obtain ⟨q, hq, hql, hqf⟩ := HCM.out _ (List.getElem_mem hjl)
              have hcj := hcc j hjl
              rw [hq] at hcj
              obtain ⟨y, hy⟩ : ∃ y, y = rs[q] := ⟨_, rfl⟩
              rw [← hy] at hqf
              have hyf : y.src = (f' : Int) := of_decide_eq_true hqf
              obtain ⟨a', c', hv, hP⟩ := HX.out
              obtain ⟨rfl, -⟩ : a = a' ∧ c = c' := by simpa using hv
              obtain ⟨b, off, ha, hlt, hc⟩ := hP (by omega)
              subst ha
              obtain ⟨p0, p1, p2, p3, p4⟩ := hc q hql
              rw [← hy] at p0 p1 p2 p3 p4
              have hyd := HR.out y (by rw [hy]; exact List.getElem_mem hql)
              obtain ⟨g, hg⟩ : ∃ g : Nat, g = y.dst.toNat := ⟨_, rfl⟩
              have hgd : y.dst = (g : Int) := by rw [hg]; have := hyd.2.1; omega
              have HCN := Lib.hid (show Chn (edgeOf anyR rs) f (out ++ [q]) g from .snoc HC.out (by
                rw [edgeOf_at hql, if_pos (show anyR rs[q] = true from rfl), ← hy, ← hg, hyf]; rfl))
              have e1 : (X : Int).tmod (cs.length : Int) = (j : Int) := by rw [Int.tmod_eq_emod_of_nonneg (by omega), hj, Int.natCast_emod]
              have w1 : IntKind.i64.wrap (X : Int) = (X : Int) := IntWalk.i64_in _ (by omega)
              have w2 : IntKind.i64.wrap (j : Int) = (j : Int) := IntWalk.i64_in _ (by omega)
              have j0 : (0 : Int) ≤ (j : Int) := by omega
              have jl : (j : Int) < (cs.length : Int) := by omega
              have q0 : (0 : Int) ≤ (q : Int) := by omega
              have ql : (q : Int) < (rs.length : Int) := by omega
              have hc0 : ¬ (cs.length : Int) = 0 := by omega
              rw [hgd] at p1
              have PD := Lib.hid (⟨hlt, p1⟩ : _ ∧ _)
              have HOW := Lib.hid (show World.ownsRow wr (w.heap.size + 1) 3 1 (.slice (some ⟨gv, 0, none⟩) out.length vc) out.length (intC (ints out)) by
                have h := HO.out.below BK.out
                unfold NumsOwn at h
                rw [ints_len] at h
                exact h)
              have hmx : out.length + 1 ≤ maxLen := by unfold maxLen; omega
              have hby : (out.length + 1) * 8 ≤ 140737488355328 := by omega
              have hba : w.heap.size + 1 ≤ (wr.alloc (.cells #[.int .i64 (q : Int)] 3)).heap.size := by simp; omega
              have hbl := Lib.hid (BT.out.alloc BT.out.size (.cells #[.int .i64 (q : Int)] 3))
              have hob := Lib.hid (show ∀ k, (Value.slice (some ⟨gv, 0, none⟩) out.length vc).ownBlock = some k → w.heap.size + 1 ≤ k from (HO.out.below BK.out).blk)
              have SA := Lib.hid (SK.out.below ((Below.refl _ _).alloc (Nat.le_refl _) (.cells #[.int .i64 (q : Int)] 3)))
              clear hcv hcP hcc huv huP huc hj hq hqf hy hyf hv hP hc p0 p1 p2 p3 p4 hyd hg hX6 HO HB BK HS CN BT SK
              go_upto_region 14 with (first
                | (at_builtin; refine wpList_append_own _ rfl _ _ 38 rfl (w.heap.size + 1) 3 i0 (.int .i64 0) 1 8 Tryd.underlying38 hi0 hz0 hz1 hz2 rfl (by decide) _ _ _ rfl (World.ownsRow.alloc HOW.out _) ⟨wr.heap.size, 0, none⟩ 1 1 [.int .i64 (q : Int)] rfl rfl (cell_one_new _ _ _) (ints_oneCell .i64 [(q : Int)]) hmx hby hba ?_; intro v2 w2 hown2 hgrow2 hnil2)
                | fail)
              obtain ⟨g2b, cap2, rfl, hgb, hgl⟩ := hown2.form (by omega)
              have HBE := Lib.hid (hbl.out.grown hgrow2 (by omega) (fun k hk => by have := hob.out k hk; omega))
              have SE := Lib.hid (SA.out.keptBy hgrow2 (fun e => by have := hob.out _ e; omega))
              have HOE := Lib.hid (show NumsOwn w2 (w.heap.size + 1) (.slice (some ⟨g2b, 0, none⟩) (out.length + 1) cap2) (ints (out ++ [q])) by
                unfold NumsOwn
                rw [ints_snoc, intC_snoc, List.length_append, ints_len, List.length_singleton]; exact hown2)
              obtain ⟨t0, t1, t2⟩ := SE.out.cells
              have pd := (HBE.out.cell (p := ⟨b, off + q * 5 + 1, none⟩) PD.out.1).trans PD.out.2
              have hol : (out ++ [q]).length = out.length + 1 := by simp
              have HOL := Lib.hid hol
              clear hown2 hgrow2 hnil2 hbl hob SA HOW s0 s1 s2 hol hX hcj
              go_wp2_with fail
              go_roundw
              case rel => exact ⟨g, out ++ [q], g2b, cap2, by first | rfl | rw [hgd], by rw [HOL.out], by rw [HOL.out]; go_num, by rw [HOL.out]; omega, by rw [HOL.out]; omega, HOE.out, HCN.out, SE.out, HBE.out⟩
              case measure => simp [intOf]; omega
      · have HOE := Lib.hid (show NumsOwn wo w.heap.size (.slice (some ⟨gv, 0, none⟩) out.length vc) (ints out) from World.ownsRow.mono HO.out (base' := w.heap.size) (by omega))
        go_wp2_with fail
        go_ret
        exact ⟨gv, vc, out, f', rfl, HOE.out, ho10, HC.out, HB.out⟩
    · have HOE := Lib.hid (show NumsOwn wo w.heap.size (.slice (some ⟨gv, 0, none⟩) out.length vc) (ints out) from World.ownsRow.mono HO.out (base' := w.heap.size) (by omega))
      go_wp2_with fail
      go_ret
      exact ⟨gv, vc, out, f', rfl, HOE.out, ho10, HC.out, HB.out⟩
theorem numsOwn_cap {W : World} {b : Nat} {p : Addr} {n c : Nat} {xs : List Int} (h : NumsOwn W b (.slice (some p) n c) xs) : xs.length ≤ c := by
  rcases h.2 with ⟨h1, _⟩ | ⟨g, cap, cur, h1, _, _, h2, _⟩
  · cases h1
  · injection h1 with _ _ h3
    rw [h3]; exact h2
end Go.Proofs.YtendieoandclkaaDoor

namespace Go.Proofs.YtendieoandclkaaDoor
open Go.RowKit
open Pl

theorem chn_prefix {E : Nat → Option (Nat × Nat)} {s t : Nat} {l : List Nat} (c : Chn E s l t) : ∀ i (h : i < l.length), ∃ q g, Chn E s (l.take i) q ∧ E l[i] = some (q, g) ∧ Chn E s (l.take (i + 1)) g := by
  induction c with
  | nil => intro i h; cases h
  | @snoc l a k b c e ih =>
    intro i h
    rw [List.length_append, List.length_singleton] at h
    by_cases h2 : i < l.length
    · obtain ⟨q, g, h3, h4, h5⟩ := ih i h2
      refine ⟨q, g, ?_, ?_, ?_⟩
      · rw [List.take_append_of_le_length (by omega)]; exact h3
      · rw [List.getElem_append_left h2]; exact h4
      · rw [List.take_append_of_le_length (by omega)]; exact h5
    · obtain rfl : i = l.length := by omega
      refine ⟨a, b, ?_, ?_, ?_⟩
      · rw [List.take_append_of_le_length (Nat.le_refl _), List.take_length]; exact c
      · rw [List.getElem_append_right (Nat.le_refl _)]; simpa using e
      · rw [List.take_of_length_le (by simp)]; exact .snoc c e
theorem chn_end {E : Nat → Option (Nat × Nat)} {s : Nat} {l : List Nat} : ∀ {t u : Nat}, Chn E s l t → Chn E s l u → t = u := by
  intro t u c d
  rcases c.inv with ⟨h1, h2⟩ | ⟨r, a, k, h1, h2, e⟩
  · rcases d.inv with ⟨_, h4⟩ | ⟨r', a', k', h3, h4, e'⟩
    · omega
    · rw [h1] at h3; simp at h3
  · rcases d.inv with ⟨h3, _⟩ | ⟨r', a', k', h3, h4, e'⟩
    · rw [h3] at h1; simp at h1
    · rw [h1] at h3
      obtain ⟨-, h5⟩ := List.append_inj' h3 rfl
      obtain rfl : k = k' := by simpa using h5
      rw [e] at e'
      exact (Prod.mk.inj (Option.some.inj e')).2

set_option maxHeartbeats 1000000 in
set_option maxRecDepth 100000 in
theorem Chain_any (m acc : Nat) (a : Option Addr) (c : Nat) (rs : List Rl) (f t : Nat) (l : List Nat) (la : Option Addr) (lc : Nat) (w : World) (hx : RlsAt w w.heap.size (.slice a rs.length c) rs) (hl : rs.length ≤ 12) (hr : ∀ x ∈ rs, InM m x) (hu : NumsAt w w.heap.size (.slice la l.length lc) (ints l)) (hln : l.length ≤ 10) (hch : Chn (edgeOf anyR rs) f l t) :
    Calls Tryd.prog 19 #[.agg #[.int .i64 (m : Nat), .int .u8 (acc : Nat), .slice a rs.length c], .int .i64 (f : Nat), .slice la l.length lc] w fun e w' => e = .returned (.tuple #[.int .i64 (t : Nat), .bool true]) ∧ Below w.heap.size w w' := by
  have b1 := (Below.refl w.heap.size w).alloc (Nat.le_refl _) (.cells #[.int .i64 (m : Nat), .int .u8 (acc : Nat), .slice a rs.length c] 33)
  have k1 := SchBlock.new w (.int .i64 (m : Nat)) (.int .u8 (acc : Nat)) (.slice a rs.length c)
  have HX := Lib.hid hx
  have HR := Lib.hid hr
  have HU := Lib.hid hu
  have HC := Lib.hid hch
  have B1 := Lib.hid b1
  have K1 := Lib.hid k1
  clear hx hr hu hch b1 k1
  go_enter Tryd.func19, Tryd.ntmps19
  go_upto_region 1 with fail
  generalize w.alloc _ = x1 at *
  go_wp2_with fail
  go_loopw [1, 8] (fun fv iv wr => ∃ i f' : Nat, fv = .int .i64 (f' : Nat) ∧ iv = .int .i64 (i : Nat) ∧ i ≤ l.length ∧ Chn (edgeOf anyR rs) f (l.take i) f' ∧ SchBlock wr w.heap.size (.int .i64 (m : Nat)) (.int .u8 (acc : Nat)) (.slice a rs.length c) ∧ Below w.heap.size w wr) (fun _ iv _ => l.length - (intOf iv).toNat)
  case atStart => exact ⟨0, f, rfl, rfl, Nat.zero_le _, .nil, K1.out, B1.out⟩
  case round =>
    obtain ⟨i, f', rfl, rfl, hi, hc, hs, hb⟩ := hrel
    have KS := Lib.hid hs
    have HB := Lib.hid hb
    have HCI := Lib.hid hc
    clear hc hs hb K1 B1
    have i0 : (0 : Int) ≤ (i : Int) := by omega
    obtain ⟨s0, s1, s2⟩ := KS.out.cells
    by_cases h1 : (i : Int) < (l.length : Int)
    · have hil : i < l.length := by omega
      obtain ⟨q, g, h2, h3, h4⟩ := chn_prefix HC.out i hil
      obtain rfl : f' = q := chn_end HCI.out h2
      obtain ⟨k, hk⟩ : ∃ k, k = l[i] := ⟨_, rfl⟩
      rw [← hk] at h3
      obtain ⟨hkl, -, hsrc, hdst⟩ := edgeOf_some h3
      obtain ⟨la', lc', hv, hP⟩ := HU.out.on HB.out
      rw [ints_len] at hv
      obtain ⟨rfl, -⟩ : la = la' ∧ lc = lc' := by simpa using hv
      obtain ⟨ub, uo, hua, hult, huc⟩ := hP (by rw [ints_len]; omega)
      subst hua
      have pk := huc i (by rw [ints_len]; exact hil)
      have hik : (ints l)[i]'(by rw [ints_len]; exact hil) = (k : Int) := by simp [ints, hk]
      rw [hik] at pk
      obtain ⟨a', c', hv', hP'⟩ := HX.out.on HB.out
      obtain ⟨rfl, -⟩ : a = a' ∧ c = c' := by simpa using hv'
      obtain ⟨b, off, ha, hlt, hcc⟩ := hP' (by omega)
      subst ha
      obtain ⟨p0, p1, p2, p3, p4⟩ := hcc k hkl
      have hy := HR.out _ (List.getElem_mem hkl)
      have es : rs[k].src = (f' : Int) := by rw [← hsrc]; exact (Int.toNat_of_nonneg hy.1.1).symm
      have ed : rs[k].dst = (g : Int) := by rw [← hdst]; exact (Int.toNat_of_nonneg hy.2.1).symm
      rw [es] at p0
      rw [ed] at p1
      have k0 : (0 : Int) ≤ (k : Int) := by omega
      have kl : (k : Int) < (rs.length : Int) := by omega
      have kn : ¬ (k : Int) < 0 := by omega
      have kn2 : ¬ (rs.length : Int) ≤ (k : Int) := by omega
      have fe : ((f' : Int) != (f' : Int)) = false := by simp
      have HG := Lib.hid h4
      clear h2 h3 h4 hk hsrc hdst hv hP huc hik hv' hP' hcc p2 p3 p4 hy es ed HCI
      have FW := Lib.hid (show ∀ W, Below wr.heap.size wr W → W.cell? ⟨w.heap.size, 2, none⟩ = some (.slice (some ⟨b, off, none⟩) rs.length c) ∧ W.cell? ⟨ub, uo + i, none⟩ = some (.int .i64 (k : Int)) ∧ W.cell? ⟨b, off + k * 5, none⟩ = some (.int .i64 (f' : Int)) ∧ W.cell? ⟨b, off + k * 5 + 1, none⟩ = some (.int .i64 (g : Int)) from fun W h =>
        ⟨(KS.out.below h).cells.2.2, (h.cell (p := ⟨ub, _, none⟩) hult).trans pk, (h.cell (p := ⟨b, _, none⟩) hlt).trans p0, (h.cell (p := ⟨b, _, none⟩) hlt).trans p1⟩)
      clear p0 p1 pk s0 s1
      go_upto_region 4 with fail
      clear s2
      refine wp_normal ?_
      refine wp_region_class (C := fun W => Below wr.heap.size wr W) (by kernel_rfl) (by kernel_rfl) (Below.refl _ _).drew ?_
      repeat (first | go_big_quiet_skip | (go_big_quiet_want; first | (go_big_quiet_op; go_big_quiet_on) | (refine quiet_value ?_ (fun W h => ?_) ?_; rotate_left; (· obtain ⟨f0, f1, f2, f3⟩ := FW.out W h; go_simp; rfl); go_simp; go_big_quiet_on)))
      refine wpQuiet_nil ?_
      intro W5 hcj
      refine ⟨rfl, ?_⟩
      have HJ := Lib.hid hcj
      obtain ⟨f0, f1, f2, f3⟩ := FW.out W5 hcj
      have HB5 := Lib.hid (HB.out.trans (hcj.mono HB.out.size))
      have KS5 := Lib.hid (KS.out.below hcj)
      clear hcj FW
      go_wp2_with fail
      go_region
      go_wp2_with fail
      go_roundw
      case rel => exact ⟨i + 1, g, by first | rfl | simp, by go_num, by omega, HG.out, KS5.out.below (Below.refl _ _).drew, HB5.out.drew⟩
      case measure => simp [intOf]; omega
    · have hfull : l.take i = l := List.take_of_length_le (by omega)
      have hcc := HCI.out
      rw [hfull] at hcc
      obtain rfl : t = f' := chn_end HC.out hcc
      clear hcc hfull
      go_wp2_with fail
      go_ret2
      exact ⟨rfl, HB.out⟩
end Go.Proofs.YtendieoandclkaaDoor

namespace Go.Proofs.YtendieoandclkaaDoor
open Go.RowKit
open Pl

theorem cmpI_lt {x y : Int} (h : x < y) : Lib.compareInt x y = -1 := by unfold Lib.compareInt; rw [if_pos h]
theorem cmpI_eq (x : Int) : Lib.compareInt x x = 0 := by unfold Lib.compareInt; rw [if_neg (by omega), if_neg (by omega)]
theorem cmpI_gt {x y : Int} (h : y < x) : Lib.compareInt x y = 1 := by unfold Lib.compareInt; rw [if_neg (by omega), if_pos h]
theorem bef_len {xs ys : List Int} (h : xs.length ≠ ys.length) : (!befB ys xs) = decide (xs.length < ys.length) := by
  unfold befB
  rcases Nat.lt_or_gt_of_ne h with q | q
  · rw [cmpI_gt (show (xs.length : Int) < (ys.length : Int) by omega), if_neg (by decide), decide_eq_true q]; rfl
  · rw [cmpI_lt (show (ys.length : Int) < (xs.length : Int) by omega), if_neg (by decide), decide_eq_false (Nat.lt_asymm q)]; rfl
theorem bef_same {xs ys : List Int} (h : xs.length = ys.length) : befB ys xs = decide (cmpL ys xs < 0) := by
  unfold befB
  rw [h, cmpI_eq, if_pos rfl]

set_option maxHeartbeats 1000000 in
set_option maxRecDepth 100000 in
theorem First_any (xs ys : List Int) (a b : Option Addr) (c d : Nat) (w : World) (hx : NumsAt w w.heap.size (.slice a xs.length c) xs) (hy : NumsAt w w.heap.size (.slice b ys.length d) ys) (hl : xs.length ≤ 1000) (hl2 : ys.length ≤ 1000) :
    Calls Tryd.prog 20 #[.slice a xs.length c, .slice b ys.length d] w fun e w' => e = .returned (.bool (!befB ys xs)) ∧ Below w.heap.size w w' := by
  obtain ⟨F, hF⟩ : ∃ F, F = !befB ys xs := ⟨_, rfl⟩
  rw [← hF]
  by_cases hxy : xs.length = ys.length
  · have HX := Lib.hid hx
    have HY := Lib.hid hy
    have HXY := Lib.hid hxy
    rw [bef_same hxy] at hF
    have HF := Lib.hid hF
    have hn : ¬ ((xs.length : Int) ≠ (ys.length : Int)) := by omega
    have hne : ((xs.length : Int) != (ys.length : Int)) = false := by simpa using hn
    clear hx hy hxy hn hF
    go_enter Tryd.func20, Tryd.ntmps20
    go_wp2_with fail
    go_loopw [5] (fun iv wr => ∃ i : Nat, iv = .int .i64 (i : Nat) ∧ i ≤ xs.length ∧ cmpL ys xs = cmpL (ys.drop i) (xs.drop i) ∧ Below w.heap.size w wr) (fun iv _ => xs.length - (intOf iv).toNat)
    case atStart => exact ⟨0, rfl, Nat.zero_le _, rfl, Below.refl _ _⟩
    case round =>
      obtain ⟨i, rfl, hi, ht, hb⟩ := hrel
      have HB := Lib.hid hb
      have HT := Lib.hid ht
      clear hb ht
      have i0 : (0 : Int) ≤ (i : Int) := by omega
      by_cases h1 : (i : Int) < (xs.length : Int)
      · have hix : i < xs.length := by omega
        have hiy : i < ys.length := by have := HXY.out; omega
        have h1y : (i : Int) < (ys.length : Int) := by omega
        obtain ⟨a', c', hv, hP⟩ := HX.out.on HB.out
        obtain ⟨rfl, -⟩ : a = a' ∧ c = c' := by simpa using hv
        obtain ⟨b1, o1, ha, -, hc⟩ := hP (by omega)
        subst ha
        obtain ⟨a'', c'', hv', hP'⟩ := HY.out.on HB.out
        obtain ⟨rfl, -⟩ : b = a'' ∧ d = c'' := by simpa using hv'
        obtain ⟨b2, o2, ha', -, hc'⟩ := hP' (by omega)
        subst ha'
        have p1 := hc i hix
        have p2 := hc' i hiy
        have HD := cmpL_drop ys xs i hiy hix
        obtain ⟨x, hxe⟩ : ∃ x, x = xs[i] := ⟨_, rfl⟩
        obtain ⟨y, hye⟩ : ∃ y, y = ys[i] := ⟨_, rfl⟩
        rw [← hxe] at p1
        rw [← hye] at p2
        rw [← hxe, ← hye] at HD
        by_cases he : x = y
        · have HN := Lib.hid (show cmpL ys xs = cmpL (ys.drop (i + 1)) (xs.drop (i + 1)) by rw [HT.out, HD, he, cmpI_eq, if_pos rfl])
          have hb1 : (x != y) = false := by simpa using he
          clear hc hc' hP hP' hv hv' hxe hye he HD
          go_wp2_with fail
          go_region
          go_wp2_with fail
          go_roundw
          case rel => exact ⟨i + 1, by go_num, by omega, HN.out, HB.out.drew⟩
          case measure => simp [intOf]; omega
        · have HN := Lib.hid (show decide (x < y) = F by
            rw [HF.out, HT.out, HD]
            rcases Int.lt_or_gt_of_ne he with q | q
            · rw [cmpI_gt q, if_neg (by decide), decide_eq_true q]; rfl
            · rw [cmpI_lt q, if_neg (by decide), decide_eq_false (by omega)]; rfl)
          have hb1 : (x != y) = true := by simpa using he
          clear hc hc' hP hP' hv hv' hxe hye he HD
          go_wp2_with fail
          go_region
          go_wp2_with fail
          go_region
          go_wp2_with fail
          go_ret
          exact ⟨by rw [← HN.out]; rfl, HB.out.drew.drew⟩
      · have HN := Lib.hid (show F = true by
          rw [HF.out, HT.out, List.drop_eq_nil_of_le (by have := HXY.out; omega), List.drop_eq_nil_of_le (by omega)]; rfl)
        go_wp2_with fail
        go_ret
        exact ⟨by rw [HN.out]; rfl, HB.out⟩
  · rw [bef_len hxy] at hF
    have HF := Lib.hid hF
    have hne : ((xs.length : Int) != (ys.length : Int)) = true := by simp; omega
    clear hx hy hxy hF
    go_enter Tryd.func20, Tryd.ntmps20
    go_wp2_with fail
    go_ret
    exact ⟨by rw [HF.out]; rfl, Below.refl _ _⟩

set_option maxHeartbeats 1000000 in
set_option maxRecDepth 100000 in
theorem Silent_any (m acc : Nat) (a : Option Addr) (c : Nat) (rs : List Rl) (l : List Nat) (la : Option Addr) (lc : Nat) (D : Bool) (w : World) (hx : RlsAt w w.heap.size (.slice a rs.length c) rs) (hl : rs.length ≤ 12) (hu : NumsAt w w.heap.size (.slice la l.length lc) (ints l)) (hln : l.length ≤ 10) (hk : ∀ k ∈ l, k < rs.length) (hD : D = true ↔ ∀ k (hk : k < rs.length), k ∈ l → noIn rs[k] = true) :
    Calls Tryd.prog 21 #[.agg #[.int .i64 (m : Nat), .int .u8 (acc : Nat), .slice a rs.length c], .slice la l.length lc] w fun e w' => e = .returned (.bool D) ∧ Below w.heap.size w w' := by
  have b1 := (Below.refl w.heap.size w).alloc (Nat.le_refl _) (.cells #[.int .i64 (m : Nat), .int .u8 (acc : Nat), .slice a rs.length c] 33)
  have k1 := SchBlock.new w (.int .i64 (m : Nat)) (.int .u8 (acc : Nat)) (.slice a rs.length c)
  have HX := Lib.hid hx
  have HU := Lib.hid hu
  have HK := Lib.hid hk
  have HD := Lib.hid hD
  have B1 := Lib.hid b1
  have K1 := Lib.hid k1
  clear hx hu hk b1 k1 hD
  go_enter Tryd.func21, Tryd.ntmps21
  go_upto_region 1 with fail
  generalize w.alloc _ = x1 at *
  go_wp2_with fail
  go_loopw [5] (fun iv wr => ∃ i : Nat, iv = .int .i64 (i : Nat) ∧ i ≤ l.length ∧ (∀ k (hk : k < rs.length), k ∈ l.take i → noIn rs[k] = true) ∧ SchBlock wr w.heap.size (.int .i64 (m : Nat)) (.int .u8 (acc : Nat)) (.slice a rs.length c) ∧ Below w.heap.size w wr) (fun iv _ => l.length - (intOf iv).toNat)
  case atStart => exact ⟨0, rfl, Nat.zero_le _, fun k _ h => by simp at h, K1.out, B1.out⟩
  case round =>
    obtain ⟨i, rfl, hi, hc, hs, hb⟩ := hrel
    have KS := Lib.hid hs
    have HB := Lib.hid hb
    have HC := Lib.hid hc
    clear hc hs hb K1 B1
    have i0 : (0 : Int) ≤ (i : Int) := by omega
    by_cases h1 : (i : Int) < (l.length : Int)
    · have hil : i < l.length := by omega
      obtain ⟨k, hke⟩ : ∃ k, k = l[i] := ⟨_, rfl⟩
      have hkm : k ∈ l := by rw [hke]; exact List.getElem_mem hil
      have hkl := HK.out k hkm
      obtain ⟨la', lc', hv, hP⟩ := HU.out.on HB.out
      rw [ints_len] at hv
      obtain ⟨rfl, -⟩ : la = la' ∧ lc = lc' := by simpa using hv
      obtain ⟨ub, uo, hua, hult, huc⟩ := hP (by rw [ints_len]; omega)
      subst hua
      have pk := huc i (by rw [ints_len]; exact hil)
      have hik : (ints l)[i]'(by rw [ints_len]; exact hil) = (k : Int) := by simp [ints, hke]
      rw [hik] at pk
      obtain ⟨a', c', hv', hP'⟩ := HX.out.on HB.out
      obtain ⟨rfl, -⟩ : a = a' ∧ c = c' := by simpa using hv'
      obtain ⟨b, off, ha, hlt, hcc⟩ := hP' (by omega)
      subst ha
      obtain ⟨p0, p1, p2, p3, p4⟩ := hcc k hkl
      obtain ⟨s, hs⟩ : ∃ s, s = rs[k].inp := ⟨_, rfl⟩
      rw [← hs] at p2
      have k0 : (0 : Int) ≤ (k : Int) := by omega
      have kl : (k : Int) < (rs.length : Int) := by omega
      have hno : noIn rs[k] = (B s).toList.isEmpty := by rw [hs]; rfl
      have FW := Lib.hid (show ∀ W, Below wr.heap.size wr W → W.cell? ⟨w.heap.size, 2, none⟩ = some (.slice (some ⟨b, off, none⟩) rs.length c) ∧ W.cell? ⟨ub, uo + i, none⟩ = some (.int .i64 (k : Int)) ∧ W.cell? ⟨b, off + k * 5 + 2, none⟩ = some (.string (B s)) from fun W h =>
        ⟨(KS.out.below h).cells.2.2, (h.cell (p := ⟨ub, _, none⟩) hult).trans pk, (h.cell (p := ⟨b, _, none⟩) hlt).trans p2⟩)
      have HN1 := Lib.hid (show (B s).toList.isEmpty = true → ∀ k (hk : k < rs.length), k ∈ l.take (i + 1) → noIn rs[k] = true from fun h j hj hm => by
        rw [List.take_succ_eq_append_getElem hil, List.mem_append, List.mem_singleton, ← hke] at hm
        rcases hm with hm | rfl
        · exact HC.out j hj hm
        · rw [hno]; exact h)
      have HN0 := Lib.hid (show (B s).toList.isEmpty = false → D = false from fun h => by
        cases hd : D with
        | false => rfl
        | true =>
          have := HD.out.1 hd k hkl hkm
          rw [hno, h] at this; cases this)
      clear hke hkm hv hP huc hik hv' hP' hcc p0 p1 p2 p3 p4 hs hno pk HC
      have sz := KS.out.cells.2.2
      cases hemp : (B s).toList.isEmpty with
      | true =>
        have HN := Lib.hid (HN1.out hemp)
        have HE := Lib.hid hemp
        clear HN1 HN0 hemp
        go_upto_region 4 with fail
        clear sz
        refine wp_normal ?_
        refine wp_region_class (C := fun W => Below wr.heap.size wr W) (by kernel_rfl) (by kernel_rfl) (Below.refl _ _).drew ?_
        repeat (first | go_big_quiet_skip | (go_big_quiet_want; first | (go_big_quiet_op; go_big_quiet_on) | (refine quiet_value ?_ (fun W h => ?_) ?_; rotate_left; (· obtain ⟨f0, f1, f2⟩ := FW.out W h; go_simp; rfl); go_simp; go_big_quiet_on)))
        refine wpQuiet_nil ?_
        intro W5 hcj
        refine ⟨rfl, ?_⟩
        have HB5 := Lib.hid (HB.out.trans (hcj.mono HB.out.size))
        have KS5 := Lib.hid (KS.out.below hcj)
        clear hcj FW
        try rw [HE.out]
        go_wp2_with fail
        go_roundw
        case rel => exact ⟨i + 1, by go_num, by omega, HN.out, KS5.out, HB5.out⟩
        case measure => simp [intOf]; omega
      | false =>
        have HN := Lib.hid (HN0.out hemp)
        have HE := Lib.hid hemp
        clear HN1 HN0 hemp
        go_upto_region 4 with fail
        clear sz
        refine wp_normal ?_
        refine wp_region_class (C := fun W => Below wr.heap.size wr W) (by kernel_rfl) (by kernel_rfl) (Below.refl _ _).drew ?_
        repeat (first | go_big_quiet_skip | (go_big_quiet_want; first | (go_big_quiet_op; go_big_quiet_on) | (refine quiet_value ?_ (fun W h => ?_) ?_; rotate_left; (· obtain ⟨f0, f1, f2⟩ := FW.out W h; go_simp; rfl); go_simp; go_big_quiet_on)))
        refine wpQuiet_nil ?_
        intro W5 hcj
        refine ⟨rfl, ?_⟩
        have HB5 := Lib.hid (HB.out.trans (hcj.mono HB.out.size))
        clear hcj FW
        try rw [HE.out]
        go_wp2_with fail
        go_ret
        exact ⟨by rw [HN.out]; rfl, HB5.out⟩
    · have HN := Lib.hid (show D = true from HD.out.2 (by
        have h := HC.out
        rwa [List.take_of_length_le (by omega)] at h))
      have sz := KS.out.cells.2.2
      go_wp2_with fail
      go_ret
      exact ⟨by rw [HN.out]; rfl, HB.out⟩
end Go.Proofs.YtendieoandclkaaDoor

namespace Go.Proofs.YtendieoandclkaaDoor
open Go.RowKit
open Pl

theorem numsAt_cell {W : World} {B0 : Nat} {a : Option Addr} {c : Nat} {xs : List Int} (h : NumsAt W B0 (.slice a xs.length c) xs) {i : Nat} (hi : i < xs.length) : ∃ b off, a = some ⟨b, off, none⟩ ∧ b < B0 ∧ W.cell? ⟨b, off + i, none⟩ = some (.int .i64 xs[i]) := by
  obtain ⟨a', c', hv, hP⟩ := h
  obtain ⟨rfl, -⟩ : a = a' ∧ c = c' := by simpa using hv
  obtain ⟨b, off, ha, hlt, hc⟩ := hP (by omega)
  exact ⟨b, off, ha, hlt, hc i hi⟩
set_option maxHeartbeats 2000000 in
set_option maxRecDepth 100000 in
theorem RChainF_any (m acc : Nat) (a : Option Addr) (c : Nat) (rs : List Rl) (f : Int) (xs : List Int) (la : Option Addr) (lc : Nat) (w : World) (hx : RlsAt w w.heap.size (.slice a rs.length c) rs) (hl : rs.length ≤ 100) (hu : NumsAt w w.heap.size (.slice la xs.length lc) xs) (hln : xs.length ≤ 1000) :
    Calls Tryd.prog 19 #[.agg #[.int .i64 (m : Nat), .int .u8 (acc : Nat), .slice a rs.length c], .int .i64 f, .slice la xs.length lc] w (FoPost (folL anyR rs f xs) w) := by
  have b1 := (Below.refl w.heap.size w).alloc (Nat.le_refl _) (.cells #[.int .i64 (m : Nat), .int .u8 (acc : Nat), .slice a rs.length c] 33)
  have k1 := SchBlock.new w (.int .i64 (m : Nat)) (.int .u8 (acc : Nat)) (.slice a rs.length c)
  have HX := Lib.hid hx
  have HU := Lib.hid hu
  have B1 := Lib.hid b1
  have K1 := Lib.hid k1
  obtain ⟨P, hP0⟩ : ∃ P, P = folL anyR rs f xs := ⟨_, rfl⟩
  rw [← hP0]
  have HP0 := Lib.hid hP0
  clear hx hu b1 k1 hP0
  go_enter Tryd.func19, Tryd.ntmps19
  go_upto_region 1 with fail
  generalize w.alloc _ = x1 at *
  go_wp2_with fail
  go_loopw [1, 8] (fun fv iv wr => ∃ (i : Nat) (mode : Int), fv = .int .i64 mode ∧ iv = .int .i64 (i : Nat) ∧ i ≤ xs.length ∧ P = folL anyR rs mode (xs.drop i) ∧ SchBlock wr w.heap.size (.int .i64 (m : Nat)) (.int .u8 (acc : Nat)) (.slice a rs.length c) ∧ Below w.heap.size w wr) (fun _ iv _ => xs.length - (intOf iv).toNat)
  case atStart => exact ⟨0, f, rfl, rfl, Nat.zero_le _, HP0.out, K1.out, B1.out⟩
  case round =>
    obtain ⟨i, mode, rfl, rfl, hi, hp, hs, hb⟩ := hrel
    have KS := Lib.hid hs
    have HB := Lib.hid hb
    have HPE := Lib.hid hp
    obtain ⟨s0, s1, s2⟩ := hs.cells
    clear hp hs hb K1 B1 HP0
    have i0 : (0 : Int) ≤ (i : Int) := by omega
    by_cases h1 : (i : Int) < (xs.length : Int)
    · have hil : i < xs.length := by omega
      obtain ⟨ub, uo, hua, hult, pk⟩ := numsAt_cell (HU.out.on HB.out) hil
      subst hua
      obtain ⟨y, hy⟩ : ∃ y, y = xs[i] := ⟨_, rfl⟩
      have hdr : xs.drop i = y :: xs.drop (i + 1) := by rw [List.drop_eq_getElem_cons hil, hy]
      rw [← hy] at pk
      have HPE2 := HPE.out
      rw [hdr] at HPE2
      clear hy hdr HPE
      by_cases h3 : 0 ≤ y ∧ y < (rs.length : Int)
      · obtain ⟨k, hk⟩ : ∃ k : Nat, y = (k : Int) := ⟨y.toNat, by omega⟩
        subst hk
        have hkl : k < rs.length := by omega
        have k0 : (0 : Int) ≤ (k : Int) := by omega
        have kl : (k : Int) < (rs.length : Int) := by omega
        have kn : ¬ (k : Int) < 0 := by omega
        have kn2 : ¬ (rs.length : Int) ≤ (k : Int) := by omega
        rw [folL_in hkl] at HPE2
        obtain ⟨a', c', hv', hP'⟩ := HX.out.on HB.out
        obtain ⟨rfl, -⟩ : a = a' ∧ c = c' := by simpa using hv'
        obtain ⟨b, off, ha, hlt, hcc⟩ := hP' (by omega)
        subst ha
        obtain ⟨p0, p1, p2, p3, p4⟩ := hcc k hkl
        obtain ⟨x, hxe⟩ : ∃ x, x = rs[k] := ⟨_, rfl⟩
        rw [← hxe] at p0 p1 HPE2
        have FW := Lib.hid (show ∀ W, Below wr.heap.size wr W → W.cell? ⟨w.heap.size, 2, none⟩ = some (.slice (some ⟨b, off, none⟩) rs.length c) ∧ W.cell? ⟨ub, uo + i, none⟩ = some (.int .i64 (k : Int)) ∧ W.cell? ⟨b, off + k * 5, none⟩ = some (.int .i64 x.src) ∧ W.cell? ⟨b, off + k * 5 + 1, none⟩ = some (.int .i64 x.dst) from fun W h =>
          ⟨(KS.out.below h).cells.2.2, (h.cell (p := ⟨ub, _, none⟩) hult).trans pk, (h.cell (p := ⟨b, _, none⟩) hlt).trans p0, (h.cell (p := ⟨b, _, none⟩) hlt).trans p1⟩)
        clear hv' hP' hcc p0 p1 p2 p3 p4 pk hxe h3 s0 s1
        by_cases h4 : x.src = mode
        · have fe : (x.src != mode) = false := by simpa using h4
          rw [if_pos ⟨h4, rfl⟩] at HPE2
          have HN := Lib.hid HPE2
          clear HPE2 h4
          go_upto_region 4 with fail
          clear s2
          refine wp_normal ?_
          refine wp_region_class (C := fun W => Below wr.heap.size wr W) (by kernel_rfl) (by kernel_rfl) (Below.refl _ _).drew ?_
          repeat (first | go_big_quiet_skip | (go_big_quiet_want; first | (go_big_quiet_op; go_big_quiet_on) | (refine quiet_value ?_ (fun W h => ?_) ?_; rotate_left; (· obtain ⟨f0, f1, f2, f3⟩ := FW.out W h; go_simp; rfl); go_simp; go_big_quiet_on)))
          refine wpQuiet_nil ?_
          intro W5 hcj
          refine ⟨rfl, ?_⟩
          obtain ⟨f0, f1, f2, f3⟩ := FW.out W5 hcj
          have HB5 := Lib.hid (HB.out.trans (hcj.mono HB.out.size))
          have KS5 := Lib.hid (KS.out.below hcj)
          clear hcj FW
          go_wp2_with fail
          go_region
          go_wp2_with fail
          go_roundw
          case rel => exact ⟨i + 1, x.dst, rfl, by go_num, by omega, HN.out, KS5.out.below (Below.refl _ _).drew, HB5.out.drew⟩
          case measure => simp [intOf]; omega
        · have fe : (x.src != mode) = true := by simpa using h4
          rw [if_neg (fun e => h4 e.1)] at HPE2
          have HN := Lib.hid HPE2
          clear HPE2 h4
          go_upto_region 4 with fail
          clear s2
          refine wp_normal ?_
          refine wp_region_class (C := fun W => Below wr.heap.size wr W) (by kernel_rfl) (by kernel_rfl) (Below.refl _ _).drew ?_
          repeat (first | go_big_quiet_skip | (go_big_quiet_want; first | (go_big_quiet_op; go_big_quiet_on) | (refine quiet_value ?_ (fun W h => ?_) ?_; rotate_left; (· obtain ⟨f0, f1, f2, f3⟩ := FW.out W h; go_simp; rfl); go_simp; go_big_quiet_on)))
          refine wpQuiet_nil ?_
          intro W5 hcj
          refine ⟨rfl, ?_⟩
          have HB5 := Lib.hid (HB.out.trans (hcj.mono HB.out.size))
          clear hcj FW
          go_wp2_with fail
          go_ret2
          exact ⟨by rw [HN.out]; rfl, HB5.out⟩
      · rw [folL_out h3] at HPE2
        have HN := Lib.hid HPE2
        have FW := Lib.hid (show ∀ W, Below wr.heap.size wr W → W.cell? ⟨w.heap.size, 2, none⟩ = some (.slice a rs.length c) ∧ W.cell? ⟨ub, uo + i, none⟩ = some (.int .i64 y) from fun W h =>
          ⟨(KS.out.below h).cells.2.2, (h.cell (p := ⟨ub, _, none⟩) hult).trans pk⟩)
        clear HPE2 pk s0 s1
        by_cases h5 : y < 0
        · have kn : decide (y < 0) = true := decide_eq_true h5
          go_upto_region 4 with fail
          clear s2
          refine wp_normal ?_
          refine wp_region_class (C := fun W => Below wr.heap.size wr W) (by kernel_rfl) (by kernel_rfl) (Below.refl _ _).drew ?_
          repeat (first | go_big_quiet_skip | (go_big_quiet_want; first | (go_big_quiet_op; go_big_quiet_on) | (refine quiet_value ?_ (fun W h => ?_) ?_; rotate_left; (· obtain ⟨f0, f1⟩ := FW.out W h; go_simp; rfl); go_simp; go_big_quiet_on)))
          refine wpQuiet_nil ?_
          intro W5 hcj
          refine ⟨rfl, ?_⟩
          have HB5 := Lib.hid (HB.out.trans (hcj.mono HB.out.size))
          clear hcj FW
          go_wp2_with fail
          go_ret2
          exact ⟨by rw [HN.out]; rfl, HB5.out⟩
        · have h6 : (rs.length : Int) ≤ y := by omega
          have kn : decide (y < 0) = false := decide_eq_false h5
          have kn2 : decide ((rs.length : Int) ≤ y) = true := decide_eq_true h6
          go_upto_region 4 with fail
          clear s2
          refine wp_normal ?_
          refine wp_region_class (C := fun W => Below wr.heap.size wr W) (by kernel_rfl) (by kernel_rfl) (Below.refl _ _).drew ?_
          repeat (first | go_big_quiet_skip | (go_big_quiet_want; first | (go_big_quiet_op; go_big_quiet_on) | (refine quiet_value ?_ (fun W h => ?_) ?_; rotate_left; (· obtain ⟨f0, f1⟩ := FW.out W h; go_simp; rfl); go_simp; go_big_quiet_on)))
          refine wpQuiet_nil ?_
          intro W5 hcj
          refine ⟨rfl, ?_⟩
          have HB5 := Lib.hid (HB.out.trans (hcj.mono HB.out.size))
          clear hcj FW
          go_wp2_with fail
          go_ret2
          exact ⟨by rw [HN.out]; rfl, HB5.out⟩
    · have HN := Lib.hid (show P = some mode by rw [HPE.out, List.drop_eq_nil_of_le (by omega), folL])
      go_wp2_with fail
      go_ret2
      exact ⟨by rw [HN.out]; rfl, HB.out⟩
end Go.Proofs.YtendieoandclkaaDoor

namespace Go.Proofs.YtendieoandclkaaDoor
open Go.RowKit
open Pl

theorem fol_in {p : Rl → Bool} {rs : List Rl} {m : Nat} (hr : ∀ x ∈ rs, InM m x) : ∀ (xs : List Int) (mode t : Int), 0 ≤ mode ∧ mode < m → folL p rs mode xs = some t → 0 ≤ t ∧ t < m
  | [], mode, t, hm, h => by
    rw [folL] at h
    rw [← Option.some.inj h]; exact hm
  | i :: r, mode, t, hm, h => by
    by_cases h3 : 0 ≤ i ∧ i < (rs.length : Int)
    · obtain ⟨k, rfl⟩ : ∃ k : Nat, i = (k : Int) := ⟨i.toNat, by omega⟩
      have hk : k < rs.length := by omega
      rw [folL_in hk] at h
      split at h
      · exact fol_in hr r _ t (hr _ (List.getElem_mem hk)).2 h
      · cases h
    · rw [folL_out h3] at h; cases h
theorem fol_ints {p : Rl → Bool} {rs : List Rl} : ∀ (xs : List Int) (mode t : Int), folL p rs mode xs = some t → ∃ l : List Nat, xs = ints l ∧ ∀ k ∈ l, k < rs.length
  | [], _, _, _ => ⟨[], rfl, fun k h => by cases h⟩
  | i :: r, mode, t, h => by
    by_cases h3 : 0 ≤ i ∧ i < (rs.length : Int)
    · obtain ⟨k, rfl⟩ : ∃ k : Nat, i = (k : Int) := ⟨i.toNat, by omega⟩
      have hk : k < rs.length := by omega
      rw [folL_in hk] at h
      split at h
      · obtain ⟨l, rfl, hl⟩ := fol_ints r _ t h
        refine ⟨k :: l, rfl, fun j hj => ?_⟩
        rcases List.mem_cons.1 hj with rfl | h
        · exact hk
        · exact hl j h
      · cases h
    · rw [folL_out h3] at h; cases h
theorem fol_none {rs : List Rl} : ∀ (xs : List Int) (mode : Int), folL anyR rs mode xs = none → folL noIn rs mode xs = none
  | [], mode, h => by rw [folL] at h; cases h
  | i :: r, mode, h => by
    by_cases h3 : 0 ≤ i ∧ i < (rs.length : Int)
    · obtain ⟨k, rfl⟩ : ∃ k : Nat, i = (k : Int) := ⟨i.toNat, by omega⟩
      have hk : k < rs.length := by omega
      rw [folL_in hk] at h ⊢
      by_cases h4 : rs[k].src = mode ∧ noIn rs[k] = true
      · rw [if_pos h4]
        rw [if_pos ⟨h4.1, rfl⟩] at h
        exact fol_none r _ h
      · rw [if_neg h4]
    · rw [folL_out h3]
theorem fol_some {rs : List Rl} : ∀ (l : List Nat) (mode t : Int), folL anyR rs mode (ints l) = some t → ((∀ k (hk : k < rs.length), k ∈ l → noIn rs[k] = true) → folL noIn rs mode (ints l) = some t) ∧ (¬ (∀ k (hk : k < rs.length), k ∈ l → noIn rs[k] = true) → folL noIn rs mode (ints l) = none)
  | [], mode, t, h => ⟨fun _ => h, fun hn => absurd (fun k _ h => by cases h) hn⟩
  | k :: r, mode, t, h => by
    have e : ints (k :: r) = (k : Int) :: ints r := rfl
    rw [e] at h ⊢
    by_cases h3 : k < rs.length
    · rw [folL_in h3] at h ⊢
      by_cases h5 : rs[k].src = mode
      · rw [if_pos ⟨h5, rfl⟩] at h
        obtain ⟨h6, h7⟩ := fol_some r _ t h
        constructor
        · intro ha
          rw [if_pos ⟨h5, ha k h3 (List.mem_cons_self ..)⟩]
          exact h6 fun j hj hm => ha j hj (List.mem_cons_of_mem _ hm)
        · intro ha
          by_cases h8 : noIn rs[k] = true
          · rw [if_pos ⟨h5, h8⟩]
            refine h7 fun hall => ha fun j hj hm => ?_
            rcases List.mem_cons.1 hm with rfl | hm
            · exact h8
            · exact hall j hj hm
          · rw [if_neg (fun e => h8 e.2)]
      · rw [if_neg (fun e => h5 e.1)] at h; cases h
    · rw [folL_out (by omega)] at h; cases h
set_option maxHeartbeats 4000000 in
set_option maxRecDepth 100000 in
theorem Circle_any (m acc : Nat) (a : Option Addr) (c : Nat) (rs : List Rl) (xs : List Int) (la : Option Addr) (lc : Nat) (w : World) (hv : validB m acc rs = true) (hacc : acc < 256) (hx : RlsAt w w.heap.size (.slice a rs.length c) rs) (hl : rs.length ≤ 12) (hu : NumsAt w w.heap.size (.slice la xs.length lc) xs) (hne : 0 < xs.length) (hxl : xs.length ≤ 10) :
    Calls Tryd.prog 42 #[.agg #[.int .i64 (m : Nat), .int .u8 (acc : Nat), .slice a rs.length c], .slice la xs.length lc] w fun e w' => e = .returned (.bool (peB (rMs m rs) (lMs m acc rs) rs xs)) ∧ Below w.heap.size w w' := by
  obtain ⟨⟨hm1, hm8⟩, hIM, -, -⟩ := valid_in hv
  obtain ⟨ha, ha0⟩ := valid_acc hv
  have HBT := Lib.hid (show ∀ t, t < m → (rMs m rs &&& lMs m acc rs).testBit t = ((rnds rStep rs m (2 ^ 0)).testBit t && liveB m acc rs t) from fun t ht => by
    rw [Nat.testBit_and, show (rMs m rs).testBit t = _ from kinds_reached hIM hm1 t, show (lMs m acc rs).testBit t = _ from kinds_live hIM hm1 ha ha0 t ht])
  obtain ⟨y, r, rfl⟩ : ∃ y r, xs = y :: r := by
    cases xs with
    | nil => simp at hne
    | cons y r => exact ⟨y, r, rfl⟩
  obtain ⟨P, hP⟩ : ∃ P, P = peB (rMs m rs) (lMs m acc rs) rs (y :: r) := ⟨_, rfl⟩
  rw [← hP]
  have HP := Lib.hid hP
  obtain ⟨xs, hxs⟩ : ∃ xs, xs = y :: r := ⟨_, rfl⟩
  rw [← hxs] at hu hne hxl ⊢
  have HXS := Lib.hid hxs
  have b1 := (Below.refl w.heap.size w).alloc (Nat.le_refl _) (.cells #[.int .i64 (m : Nat), .int .u8 (acc : Nat), .slice a rs.length c] 33)
  have k1 := SchBlock.new w (.int .i64 (m : Nat)) (.int .u8 (acc : Nat)) (.slice a rs.length c)
  obtain ⟨ub, uo, hua, hult, pk⟩ := numsAt_cell hu hne
  subst hua
  have hy0 : xs[0]'hne = y := by simp [hxs]
  rw [hy0] at pk
  have HX := Lib.hid hx
  have HU := Lib.hid hu
  have B1 := Lib.hid b1
  have K1 := Lib.hid k1
  have hIM' := Lib.hid hIM
  have PK := Lib.hid (show ∀ W, Below w.heap.size w W → W.cell? ⟨ub, uo, none⟩ = some (.int .i64 y) from fun W h => (h.cell (p := ⟨ub, _, none⟩) hult).trans (by simpa using pk))
  have hne' : (0 : Int) < (xs.length : Int) := by omega
  clear hx hu b1 k1 hP hxs hy0 pk hult hIM ha ha0
  go_enter Tryd.func42, Tryd.ntmps42
  go_upto_region 1 with fail
  generalize w.alloc _ = x1 at *
  have FW := Lib.hid (show ∀ W, Below x1.heap.size x1 W → W.cell? ⟨ub, uo, none⟩ = some (.int .i64 y) ∧ W.cell? ⟨w.heap.size, 2, none⟩ = some (.slice a rs.length c) from fun W h =>
    ⟨PK.out W (B1.out.trans (h.mono B1.out.size)), (K1.out.below h).cells.2.2⟩)
  by_cases h3 : 0 ≤ y ∧ y < (rs.length : Int)
  · obtain ⟨k, rfl⟩ : ∃ k : Nat, y = (k : Int) := ⟨y.toNat, by omega⟩
    have hkl : k < rs.length := by omega
    have k0 : (0 : Int) ≤ (k : Int) := by omega
    have kl : (k : Int) < (rs.length : Int) := by omega
    have kn : decide ((k : Int) < 0) = false := decide_eq_false (by omega)
    have kn2 : decide ((rs.length : Int) ≤ (k : Int)) = false := decide_eq_false (by omega)
    have HPI := Lib.hid (HP.out.trans (peB_in hkl))
    obtain ⟨x, hxe⟩ : ∃ x, x = rs[k] := ⟨_, rfl⟩
    have hxm : InM m x := by rw [hxe]; exact hIM'.out _ (List.getElem_mem hkl)
    rw [← hxe] at HPI
    have HXE := Lib.hid hxe
    clear h3 HP hxe
    go_upto_region 1 with fail
    refine wp_normal ?_
    refine wp_region_class (C := fun W => Below x1.heap.size x1 W) (by kernel_rfl) (by kernel_rfl) (Below.refl _ _).drew ?_
    repeat (first | go_big_quiet_skip | (go_big_quiet_want; first | (go_big_quiet_op; go_big_quiet_on) | (refine quiet_value ?_ (fun W h => ?_) ?_; rotate_left; (· obtain ⟨f0, f1⟩ := FW.out W h; go_simp; rfl); go_simp; go_big_quiet_on)))
    refine wpQuiet_nil ?_
    intro x2 hcj
    refine ⟨rfl, ?_⟩
    have K2 := Lib.hid (K1.out.below hcj)
    have B2 := Lib.hid (B1.out.trans (hcj.mono B1.out.size))
    clear hcj FW K1 B1
    obtain ⟨a', c', hv', hP'⟩ := HX.out.on B2.out
    obtain ⟨rfl, -⟩ : a = a' ∧ c = c' := by simpa using hv'
    obtain ⟨b, off, ha, hlt, hcc⟩ := hP' (by omega)
    subst ha
    obtain ⟨p0, p1, p2, p3, p4⟩ := hcc k hkl
    rw [← HXE.out] at p0
    have FG := Lib.hid (show ∀ W, Below x2.heap.size x2 W → W.cell? ⟨ub, uo, none⟩ = some (.int .i64 (k : Int)) ∧ W.cell? ⟨w.heap.size, 2, none⟩ = some (.slice (some ⟨b, off, none⟩) rs.length c) ∧ W.cell? ⟨b, off + k * 5, none⟩ = some (.int .i64 x.src) from fun W h =>
      ⟨PK.out W (B2.out.trans (h.mono B2.out.size)), (K2.out.below h).cells.2.2, (h.cell (p := ⟨b, _, none⟩) hlt).trans p0⟩)
    clear hv' hP' hcc p0 p1 p2 p3 p4
    go_upto_region 3 with fail
    refine wp_normal ?_
    refine wp_region_class (C := fun W => Below x2.heap.size x2 W) (by kernel_rfl) (by kernel_rfl) (Below.refl _ _).drew ?_
    repeat (first | go_big_quiet_skip | (go_big_quiet_want; first | (go_big_quiet_op; go_big_quiet_on) | (refine quiet_value ?_ (fun W h => ?_) ?_; rotate_left; (· obtain ⟨f0, f1, f2⟩ := FG.out W h; go_simp; rfl); go_simp; go_big_quiet_on)))
    refine wpQuiet_nil ?_
    intro x3 hcj
    refine ⟨rfl, ?_⟩
    have K3 := Lib.hid (K2.out.below hcj)
    have B3 := Lib.hid (B2.out.trans (hcj.mono B2.out.size))
    clear hcj FG K2 B2
    obtain ⟨s0, s1, s2⟩ := K3.out.cells
    go_wp2_with fail
    refine (RChainF_any m acc (some ⟨b, off, none⟩) c rs x.src xs (some ⟨ub, uo, none⟩) lc x3 (HX.out.on B3.out) (by omega) (HU.out.on B3.out) (by omega)).mono ?_
    rintro e x4 ⟨rfl, hb⟩
    have K4 := Lib.hid (K3.out.below hb)
    have B4 := Lib.hid (B3.out.trans (hb.mono B3.out.size))
    clear hb K3 B3 s0 s1 s2
    rw [← HXS.out] at HPI
    cases hfo : folL anyR rs x.src xs with
    | none =>
      have HN := Lib.hid (show P = false by rw [HPI.out, fol_none _ _ hfo])
      clear hfo
      go_wp2_with fail
      go_ret
      exact ⟨by rw [HN.out]; rfl, B4.out⟩
    | some t =>
      obtain ⟨l, hli, hlk⟩ := fol_ints xs x.src t hfo
      obtain ⟨D, hD⟩ : ∃ D : Bool, D = true ↔ ∀ j (hj : j < rs.length), j ∈ l → noIn rs[j] = true := by
        by_cases h : ∀ j (hj : j < rs.length), j ∈ l → noIn rs[j] = true
        · exact ⟨true, fun _ => h, fun _ => rfl⟩
        · exact ⟨false, fun e => (by cases e), fun e => absurd e h⟩
      have hll : l.length = xs.length := by rw [hli, ints_len]
      have HNO := Lib.hid (show folL noIn rs x.src xs = if D = true then some t else none by
        rw [hli] at hfo ⊢
        have h := fol_some l x.src t hfo
        by_cases hd : D = true
        · rw [if_pos hd]; exact h.1 (hD.1 hd)
        · rw [if_neg hd]; exact h.2 (fun e => hd (hD.2 e)))
      have CS := fun W (h : Below x4.heap.size x4 W) => Lib.hid (Silent_any m acc (some ⟨b, off, none⟩) c rs l (some ⟨ub, uo, none⟩) lc D W (HX.out.on (B4.out.trans (h.mono B4.out.size))) hl (by rw [hll, ← hli]; exact HU.out.on (B4.out.trans (h.mono B4.out.size))) (by omega) hlk hD)
      simp only [hll] at CS
      clear hfo hli hlk hD hll
      obtain ⟨s0, s1, s2⟩ := K4.out.cells
      by_cases htx : t = x.src
      · have hteq : (t == x.src) = true := by simpa using htx
        go_wp2_with fail
        refine ((CS x4 (Below.refl _ _)).out).mono ?_
        rintro e x5 ⟨rfl, hb⟩
        have K5 := Lib.hid (K4.out.below hb)
        have B5 := Lib.hid (B4.out.trans (hb.mono B4.out.size))
        clear hb K4 B4 CS s0 s1 s2
        cases D with
        | false =>
          have HN := Lib.hid (show P = false by rw [HPI.out, HNO.out]; rfl)
          go_wp2_with fail
          go_ret
          exact ⟨by rw [HN.out]; rfl, B5.out⟩
        | true =>
          obtain ⟨q, hq⟩ : ∃ q : Nat, x.src = (q : Int) := ⟨x.src.toNat, by have := hxm.1.1; omega⟩
          have hqm : q < m := by have := hxm.1.2; omega
          have HN1 := Lib.hid (show P = ((rnds rStep rs m (2 ^ 0)).testBit q && liveB m acc rs q) by
            rw [HPI.out, HNO.out, if_pos rfl]
            dsimp only
            rw [htx, hq, Int.toNat_natCast, HBT.out q hqm]; simp)
          rw [hq]
          obtain ⟨s0, s1, s2⟩ := K5.out.cells
          have q0 : (0 : Int) ≤ (q : Int) := by omega
          have qm : (q : Int) < (m : Int) := by omega
          clear htx hteq
          go_wp2_with fail
          refine (Reached_any m acc 0 (some ⟨b, off, none⟩) c rs x5 hm1 hm8 (by omega) (HX.out.on B5.out) (by unfold maxLen; omega) hIM'.out).mono ?_
          rintro e x6 ⟨rb, rfl, hrs, -, hb⟩
          have K6 := Lib.hid (K5.out.below hb)
          have B6 := Lib.hid (B5.out.trans (hb.mono B5.out.size))
          have crk := hrs.cell q (by rw [setL_len]; exact hqm)
          rw [setL_get m _ q hqm] at crk
          clear hb hrs K5 B5 s0 s1 s2
          obtain ⟨s0, s1, s2⟩ := K6.out.cells
          obtain ⟨R, hR⟩ : ∃ R, R = (rnds rStep rs m (2 ^ 0)).testBit q := ⟨_, rfl⟩
          rw [← hR] at crk HN1
          clear hR
          cases R with
          | false =>
            have HN := Lib.hid (show P = false by rw [HN1.out]; rfl)
            go_wp2_with fail
            go_ret
            exact ⟨by rw [HN.out]; rfl, B6.out⟩
          | true =>
            go_wp2_with fail
            refine (RLive_any m acc (some ⟨b, off, none⟩) c rs x6 hm1 hm8 hacc (HX.out.on B6.out) (by unfold maxLen; omega) hIM'.out).mono ?_
            rintro e x7 ⟨lb, rfl, hls, -, hb⟩
            have B7 := Lib.hid (B6.out.trans (hb.mono B6.out.size))
            have clk : x7.cell? ⟨lb, q, none⟩ = some (.bool (liveB m acc rs q)) := by
              have h := hls.cell q (by simp; omega)
              simpa using h
            clear hb hls K6 B6 s0 s1 s2 crk
            go_wp2_with fail
            go_ret
            exact ⟨by rw [HN1.out]; rfl, B7.out⟩
      · have hteq : (t == x.src) = false := by simpa using htx
        have HN := Lib.hid (show P = false by
          rw [HPI.out, HNO.out]
          cases D with
          | false => rfl
          | true => rw [if_pos rfl]; dsimp only; rw [decide_eq_false htx]; rfl)
        clear htx CS
        go_wp2_with fail
        go_ret
        exact ⟨by rw [HN.out]; rfl, B4.out⟩
  · have HN := Lib.hid (show P = false by rw [HP.out, peB_out h3])
    by_cases h5 : y < 0
    · have kn : decide (y < 0) = true := decide_eq_true h5
      go_upto_region 1 with fail
      refine wp_normal ?_
      refine wp_region_class (C := fun W => Below x1.heap.size x1 W) (by kernel_rfl) (by kernel_rfl) (Below.refl _ _).drew ?_
      repeat (first | go_big_quiet_skip | (go_big_quiet_want; first | (go_big_quiet_op; go_big_quiet_on) | (refine quiet_value ?_ (fun W h => ?_) ?_; rotate_left; (· obtain ⟨f0, f1⟩ := FW.out W h; go_simp; rfl); go_simp; go_big_quiet_on)))
      refine wpQuiet_nil ?_
      intro x2 hcj
      refine ⟨rfl, ?_⟩
      have B2 := Lib.hid (B1.out.trans (hcj.mono B1.out.size))
      clear hcj FW
      go_wp2_with fail
      go_ret
      exact ⟨by rw [HN.out]; rfl, B2.out⟩
    · have kn : decide (y < 0) = false := decide_eq_false h5
      have kn2 : decide ((rs.length : Int) ≤ y) = true := decide_eq_true (by omega)
      go_upto_region 1 with fail
      refine wp_normal ?_
      refine wp_region_class (C := fun W => Below x1.heap.size x1 W) (by kernel_rfl) (by kernel_rfl) (Below.refl _ _).drew ?_
      repeat (first | go_big_quiet_skip | (go_big_quiet_want; first | (go_big_quiet_op; go_big_quiet_on) | (refine quiet_value ?_ (fun W h => ?_) ?_; rotate_left; (· obtain ⟨f0, f1⟩ := FW.out W h; go_simp; rfl); go_simp; go_big_quiet_on)))
      refine wpQuiet_nil ?_
      intro x2 hcj
      refine ⟨rfl, ?_⟩
      have B2 := Lib.hid (B1.out.trans (hcj.mono B1.out.size))
      clear hcj FW
      go_wp2_with fail
      go_ret
      exact ⟨by rw [HN.out]; rfl, B2.out⟩
end Go.Proofs.YtendieoandclkaaDoor

namespace Go.Proofs.YtendieoandclkaaDoor
open Go.RowKit
open Pl

theorem deadK_is {m acc : Nat} {rs : List Rl} (hr : ∀ x ∈ rs, InM m x) (hm : 1 ≤ m) (ha : acc < 2 ^ m) (ha0 : acc ≠ 0) (i : Nat) (hi : i < rs.length) :
    deadK (rMs m rs) (lMs m acc rs) rs[i] = (!(rnds rStep rs m (2 ^ 0)).testBit rs[i].src.toNat || !liveB m acc rs rs[i].dst.toNat) := by
  have hx := hr _ (List.getElem_mem hi)
  unfold deadK
  rw [show (rMs m rs).testBit rs[i].src.toNat = _ from kinds_reached hr hm _, show (lMs m acc rs).testBit rs[i].dst.toNat = _ from kinds_live hr hm ha ha0 _ (by have := hx.2.2; have := hx.2.1; omega)]
/-- What comes before the place i. -/
def lastOf (xs : List Int) (i : Nat) : Int := if i = 0 then -1 else xs.getD (i - 1) 0
set_option maxHeartbeats 4000000 in
set_option maxRecDepth 100000 in
theorem RProves_any (m acc : Nat) (a : Option Addr) (c : Nat) (rs : List Rl) (p : Rep) (v : Value) (w : World) (hv : validB m acc rs = true) (hacc : acc < 256) (hx : RlsAt w w.heap.size (.slice a rs.length c) rs) (hl : rs.length ≤ 12) (hy : RepAt w v p) (h1 : p.dead.length ≤ 100) (h2 : p.stuck.length ≤ 100) (h3 : p.endless.length ≤ 10) :
    Calls Tryd.prog 16 #[.agg #[.int .i64 (m : Nat), .int .u8 (acc : Nat), .slice a rs.length c], v] w fun e w' => e = .returned (.bool (prB m acc rs p)) ∧ Below w.heap.size w w' := by
  obtain ⟨⟨hm1, hm8⟩, hIM, -, -⟩ := valid_in hv
  obtain ⟨ha, ha0⟩ := valid_acc hv
  obtain ⟨a1, a2, a3, c1, c2, c3, rfl, n1, n2, n3⟩ := hy
  have hzz : ∀ x ∈ rs, x.inp.length ≤ maxLen ∧ x.out.length ≤ maxLen := fun x hx => by
    obtain ⟨kk, hkk, rfl⟩ := List.getElem_of_mem hx
    have h := ((valid_ok hv).2.2.2.2 kk hkk).1
    have h1 := h.i
    have h2 := h.o
    unfold maxLen
    omega
  have b1 := (Below.refl w.heap.size w).alloc (Nat.le_refl _) (.cells #[.int .i64 (m : Nat), .int .u8 (acc : Nat), .slice a rs.length c] 33)
  have b2 := b1.alloc b1.size (.cells #[.slice a1 p.dead.length c1, .slice a2 p.stuck.length c2, .slice a3 p.endless.length c3] 40)
  have s1 := (SchBlock.new w (.int .i64 (m : Nat)) (.int .u8 (acc : Nat)) (.slice a rs.length c)).below ((Below.refl _ _).alloc (Nat.le_refl _) (.cells #[.slice a1 p.dead.length c1, .slice a2 p.stuck.length c2, .slice a3 p.endless.length c3] 40))
  have r1 := RpBlock.new (w.alloc (.cells #[.int .i64 (m : Nat), .int .u8 (acc : Nat), .slice a rs.length c] 33)) (.slice a1 p.dead.length c1) (.slice a2 p.stuck.length c2) (.slice a3 p.endless.length c3)
  rw [World.size_alloc] at r1
  have CV := fun W (h : Below w.heap.size w W) => Lib.hid (RValid_any m acc a c rs W (hx.on h) (by unfold maxLen; omega) hzz (by omega) (by omega))
  simp only [hv] at CV
  have CD := fun (i : Nat) (hi : i < rs.length) W (h : Below w.heap.size w W) => Lib.hid (RDead_any m acc i a c rs rs[i] W hm1 hm8 hacc (hx.on h) (by omega) hIM hi rfl)
  have CL := fun W (h : Below w.heap.size w W) => Lib.hid (RLive_any m acc a c rs W hm1 hm8 hacc (hx.on h) (by unfold maxLen; omega) hIM)
  have CH := fun W (h : Below w.heap.size w W) => Lib.hid (RChainF_any m acc a c rs 0 p.stuck a2 c2 W (hx.on h) (by omega) (n2.on h) (by omega))
  have CC := fun (hne : 0 < p.endless.length) W (h : Below w.heap.size w W) => Lib.hid (Circle_any m acc a c rs p.endless a3 c3 W hv hacc (hx.on h) hl (n3.on h) hne h3)
  have HD := Lib.hid (fun i (hi : i < rs.length) => deadK_is (m := m) (acc := acc) hIM hm1 ha ha0 i hi)
  have HLV := Lib.hid (show ∀ t, t < m → (lMs m acc rs).testBit t = liveB m acc rs t from fun t ht => kinds_live hIM hm1 ha ha0 t ht)
  have HFI := Lib.hid (fun (t : Int) (h : folL anyR rs 0 p.stuck = some t) => fol_in hIM p.stuck 0 t ⟨by omega, by omega⟩ h)
  have HN1 := Lib.hid n1
  have S1 := Lib.hid s1
  have R1 := Lib.hid r1
  have B1 := Lib.hid b2
  obtain ⟨P, hP⟩ : ∃ P, P = prB m acc rs p := ⟨_, rfl⟩
  rw [← hP]
  have HP := Lib.hid (show P = (pdB (deadK (rMs m rs) (lMs m acc rs)) rs (-1) p.dead && (psB (lMs m acc rs) rs p.stuck && peB (rMs m rs) (lMs m acc rs) rs p.endless)) by rw [hP]; rfl)
  obtain ⟨dk, hdk⟩ : ∃ dk, dk = deadK (rMs m rs) (lMs m acc rs) := ⟨_, rfl⟩
  rw [← hdk] at HP HD
  have m0 : (0 : Int) < (m : Int) := by omega
  clear hx n1 n2 n3 s1 r1 b1 b2 hv hIM ha ha0 hzz hP hdk
  go_enter Tryd.func16, Tryd.ntmps16
  go_upto_region 1 with fail
  generalize (w.alloc _).alloc _ = x1 at *
  obtain ⟨s0, sa, s2⟩ := S1.out.cells
  go_wp2_with fail
  refine ((CV x1 B1.out).out).mono ?_
  rintro e x2 ⟨rfl, hb⟩
  have S2 := Lib.hid (S1.out.below hb)
  have R2 := Lib.hid (R1.out.below hb)
  have B2 := Lib.hid (B1.out.trans (hb.mono B1.out.size))
  clear hb S1 R1 B1 s0 sa s2 CV
  go_wp2_with fail
  go_loopw [6] (fun iv wr => ∃ i : Nat, iv = .int .i64 (i : Nat) ∧ i ≤ p.dead.length ∧ pdB dk rs (-1) p.dead = pdB dk rs (lastOf p.dead i) (p.dead.drop i) ∧ Below x2.heap.size x2 wr) (fun iv _ => p.dead.length - (intOf iv).toNat)
  case atStart => exact ⟨0, rfl, Nat.zero_le _, rfl, Below.refl _ _⟩
  case round =>
    obtain ⟨i, rfl, hi, hpd, hb⟩ := hrel
    have HB := Lib.hid hb
    have HPD := Lib.hid hpd
    have S3 := Lib.hid (S2.out.below hb)
    have R3 := Lib.hid (R2.out.below hb)
    have B3 := Lib.hid (B2.out.trans (hb.mono B2.out.size))
    clear hb hpd
    have i0 : (0 : Int) ≤ (i : Int) := by omega
    obtain ⟨s0, sa, s2⟩ := S3.out.cells
    obtain ⟨t0, t1, t2⟩ := R3.out.cells
    by_cases h1' : (i : Int) < (p.dead.length : Int)
    · have hil : i < p.dead.length := by omega
      obtain ⟨ub, uo, hua, hult, pk⟩ := numsAt_cell (HN1.out.on B3.out) hil
      subst hua
      obtain ⟨y, hye⟩ : ∃ y, y = p.dead[i] := ⟨_, rfl⟩
      have hdr : p.dead.drop i = y :: p.dead.drop (i + 1) := by rw [List.drop_eq_getElem_cons hil, hye]
      rw [← hye] at pk
      have HPD2 := Lib.hid (show pdB dk rs (-1) p.dead = pdB dk rs (lastOf p.dead i) (y :: p.dead.drop (i + 1)) by rw [HPD.out, hdr])
      have HLN := Lib.hid (show lastOf p.dead (i + 1) = y by
        unfold lastOf
        rw [if_neg (by omega), Nat.add_sub_cancel, hye]
        simp [hil])
      clear hye hdr HPD
      by_cases hy0 : y < 0
      · have HN := Lib.hid (show P = false by
          rw [HP.out, HPD2.out]
          by_cases hle : y ≤ lastOf p.dead i
          · rw [pdB_low hle]; rfl
          · rw [pdB_out hle (by omega)]; rfl)
        have kn : decide (y < 0) = true := decide_eq_true hy0
        go_wp2_with fail
        go_ret
        exact ⟨by rw [HN.out]; rfl, B3.out⟩
      · by_cases hyl : (rs.length : Int) ≤ y
        · have HN := Lib.hid (show P = false by
            rw [HP.out, HPD2.out]
            by_cases hle : y ≤ lastOf p.dead i
            · rw [pdB_low hle]; rfl
            · rw [pdB_out hle (by omega)]; rfl)
          go_wp2_with fail
          go_ret
          exact ⟨by rw [HN.out]; rfl, B3.out⟩
        · obtain ⟨k, rfl⟩ : ∃ k : Nat, y = (k : Int) := ⟨y.toNat, by omega⟩
          have hkl : k < rs.length := by omega
          have k0 : (0 : Int) ≤ (k : Int) := by omega
          have kl : (k : Int) < (rs.length : Int) := by omega
          have kn : decide ((k : Int) < 0) = false := decide_eq_false hy0
          have kn2 : decide ((rs.length : Int) ≤ (k : Int)) = false := decide_eq_false hyl
          by_cases hi0 : i = 0
          · subst hi0
            have pk0 : wr.cell? ⟨ub, uo, none⟩ = some (.int .i64 (k : Int)) := pk
            clear pk
            have HLO := Lib.hid (show ¬ (k : Int) ≤ lastOf p.dead 0 by unfold lastOf; rw [if_pos rfl]; omega)
            go_wp2_with fail
            refine ((CD k hkl wr B3.out).out).mono ?_
            rintro e w4 ⟨rfl, hb⟩
            have HB4 := Lib.hid (HB.out.trans (hb.mono HB.out.size))
            have B4 := Lib.hid (B3.out.trans (hb.mono B3.out.size))
            obtain ⟨D, hD⟩ : ∃ D, D = (!(rnds rStep rs m (2 ^ 0)).testBit rs[k].src.toNat || !liveB m acc rs rs[k].dst.toNat) := ⟨_, rfl⟩
            have HDB := Lib.hid (show dk rs[k] = D by rw [HD.out k hkl, hD])
            rw [← hD]
            clear hb hD
            cases D with
            | false =>
              have HN := Lib.hid (show P = false by rw [HP.out, HPD2.out, pdB_in (show ¬ (k : Int) ≤ lastOf p.dead 0 by have := HLO.out; omega) hkl, HDB.out]; rfl)
              go_wp2_with fail
              go_ret
              exact ⟨by rw [HN.out]; rfl, B4.out⟩
            | true =>
              have HNX := Lib.hid (show pdB dk rs (-1) p.dead = pdB dk rs (lastOf p.dead (0 + 1)) (p.dead.drop (0 + 1)) by rw [HPD2.out, pdB_in (show ¬ (k : Int) ≤ lastOf p.dead 0 by have := HLO.out; omega) hkl, HDB.out, HLN.out]; rfl)
              go_wp2_with fail
              go_roundw
              case rel => exact ⟨0 + 1, by go_num, by omega, HNX.out, HB4.out⟩
              case measure => simp [intOf]; omega
          · obtain ⟨j, rfl⟩ : ∃ j, i = j + 1 := ⟨i - 1, by omega⟩
            have hjl : j < p.dead.length := by omega
            obtain ⟨ub', uo', hua', hult', pz⟩ := numsAt_cell (HN1.out.on B3.out) hjl
            obtain ⟨rfl, rfl⟩ : ub = ub' ∧ uo = uo' := by simpa using hua'
            obtain ⟨z, hze⟩ : ∃ z, z = p.dead[j] := ⟨_, rfl⟩
            rw [← hze] at pz
            have hlz : lastOf p.dead (j + 1) = z := by
              unfold lastOf
              rw [if_neg (by omega), Nat.add_sub_cancel, hze]
              simp [hjl]
            have wj : (j : Int) + 1 - 1 = (j : Int) := by omega
            have wk : IntKind.i64.wrap (j : Int) = (j : Int) := IntWalk.i64_in _ (by omega)
            have gj : (0 : Int) < (j : Int) + 1 := by omega
            have j0 : (0 : Int) ≤ (j : Int) := by omega
            have jl : (j : Int) < (p.dead.length : Int) := by omega
            clear hua' hze
            by_cases hzk : (k : Int) ≤ z
            · have HN := Lib.hid (show P = false by rw [HP.out, HPD2.out, pdB_low (by rw [hlz]; exact hzk)]; rfl)
              clear hlz
              go_wp2_with fail
              go_ret
              exact ⟨by rw [HN.out]; rfl, B3.out⟩
            · have HLO := Lib.hid (show ¬ (k : Int) ≤ lastOf p.dead (j + 1) by rw [hlz]; exact hzk)
              clear hlz
              go_wp2_with fail
              refine ((CD k hkl wr B3.out).out).mono ?_
              rintro e w4 ⟨rfl, hb⟩
              have HB4 := Lib.hid (HB.out.trans (hb.mono HB.out.size))
              have B4 := Lib.hid (B3.out.trans (hb.mono B3.out.size))
              obtain ⟨D, hD⟩ : ∃ D, D = (!(rnds rStep rs m (2 ^ 0)).testBit rs[k].src.toNat || !liveB m acc rs rs[k].dst.toNat) := ⟨_, rfl⟩
              have HDB := Lib.hid (show dk rs[k] = D by rw [HD.out k hkl, hD])
              rw [← hD]
              clear hb hD
              cases D with
              | false =>
                have HN := Lib.hid (show P = false by rw [HP.out, HPD2.out, pdB_in (show ¬ (k : Int) ≤ lastOf p.dead (j + 1) by have := HLO.out; omega) hkl, HDB.out]; rfl)
                go_wp2_with fail
                go_ret
                exact ⟨by rw [HN.out]; rfl, B4.out⟩
              | true =>
                have HNX := Lib.hid (show pdB dk rs (-1) p.dead = pdB dk rs (lastOf p.dead ((j + 1) + 1)) (p.dead.drop ((j + 1) + 1)) by rw [HPD2.out, pdB_in (show ¬ (k : Int) ≤ lastOf p.dead (j + 1) by have := HLO.out; omega) hkl, HDB.out, HLN.out]; rfl)
                go_wp2_with fail
                go_roundw
                case rel => exact ⟨(j + 1) + 1, by go_num, by omega, HNX.out, HB4.out⟩
                case measure => simp [intOf]; omega
    · have HPT := Lib.hid (show P = (psB (lMs m acc rs) rs p.stuck && peB (rMs m rs) (lMs m acc rs) rs p.endless) by
        rw [HP.out, HPD.out, List.drop_eq_nil_of_le (by omega)]
        unfold pdB; rfl)
      clear HPD HP CD HD
      by_cases hs0 : p.stuck.length = 0
      · have hsz : ¬ (0 : Int) < (p.stuck.length : Int) := by omega
        have HPE := Lib.hid (show P = peB (rMs m rs) (lMs m acc rs) rs p.endless by rw [HPT.out]; unfold psB; rw [if_pos hs0]; rfl)
        have BX := B3
        clear hs0
        by_cases he : p.endless.length = 0
        · have hz : ((p.endless.length : Int) == 0) = true := by rw [he]; rfl
          have HN := Lib.hid (show P = true by rw [HPE.out, List.eq_nil_of_length_eq_zero he]; rfl)
          clear he
          go_wp2_with fail
          go_ret
          exact ⟨by rw [HN.out]; rfl, BX.out⟩
        · have hz : ((p.endless.length : Int) == 0) = false := by simp; exact fun h => he (by rw [h]; rfl)
          have hep : 0 < p.endless.length := by omega
          clear he
          go_wp2_with fail
          refine ((CC hep wr BX.out).out).mono ?_
          rintro e wz ⟨rfl, hb⟩
          have BZ := Lib.hid (BX.out.trans (hb.mono BX.out.size))
          clear hb
          go_wp2_with fail
          go_ret
          exact ⟨by rw [HPE.out]; rfl, BZ.out⟩
      · have hsz : (0 : Int) < (p.stuck.length : Int) := by omega
        have HPS := Lib.hid (show psB (lMs m acc rs) rs p.stuck = (match folL anyR rs 0 p.stuck with
          | some t => (lMs m acc rs).testBit 0 && !(lMs m acc rs).testBit t.toNat
          | none => false) by unfold psB; rw [if_neg hs0]; rfl)
        clear hs0
        go_wp2_with fail
        refine ((CH wr B3.out).out).mono ?_
        rintro e x4 ⟨rfl, hb⟩
        have S4 := Lib.hid (S3.out.below hb)
        have R4 := Lib.hid (R3.out.below hb)
        have B4 := Lib.hid (B3.out.trans (hb.mono B3.out.size))
        clear hb S3 R3 B3 s0 sa s2 t0 t1 t2
        obtain ⟨s0, sa, s2⟩ := S4.out.cells
        obtain ⟨t0, t1, t2⟩ := R4.out.cells
        cases hfo : folL anyR rs 0 p.stuck with
        | none =>
          have HN := Lib.hid (show P = false by rw [HPT.out, HPS.out, hfo]; rfl)
          clear hfo
          go_wp2_with fail
          go_ret
          exact ⟨by rw [HN.out]; rfl, B4.out⟩
        | some t =>
          obtain ⟨ht0, htm⟩ := HFI.out t hfo
          obtain ⟨q, rfl⟩ : ∃ q : Nat, t = (q : Int) := ⟨t.toNat, by omega⟩
          have hqm : q < m := by omega
          have HPQ := Lib.hid (show P = ((liveB m acc rs 0 && !liveB m acc rs q) && peB (rMs m rs) (lMs m acc rs) rs p.endless) by
            rw [HPT.out, HPS.out, hfo]
            dsimp only
            rw [Int.toNat_natCast, HLV.out 0 (by omega), HLV.out q hqm])
          clear hfo HPT HPS
          go_wp2_with fail
          refine ((CL x4 B4.out).out).mono ?_
          rintro e x5 ⟨lb, rfl, hls, -, hb⟩
          have S5 := Lib.hid (S4.out.below hb)
          have R5 := Lib.hid (R4.out.below hb)
          have B5 := Lib.hid (B4.out.trans (hb.mono B4.out.size))
          have lv0 : x5.cell? ⟨lb, 0, none⟩ = some (.bool (liveB m acc rs 0)) := by
            have h := hls.cell 0 (by simp; omega)
            simpa using h
          clear hls hb S4 R4 B4 s0 sa s2 t0 t1 t2
          obtain ⟨s0, sa, s2⟩ := S5.out.cells
          obtain ⟨t0, t1, t2⟩ := R5.out.cells
          obtain ⟨L0, hL0⟩ : ∃ L, L = liveB m acc rs 0 := ⟨_, rfl⟩
          rw [← hL0] at lv0 HPQ
          clear hL0
          cases L0 with
          | false =>
            have HN := Lib.hid (show P = false by rw [HPQ.out]; rfl)
            go_wp2_with fail
            go_ret
            exact ⟨by rw [HN.out]; rfl, B5.out⟩
          | true =>
            go_wp2_with fail
            refine ((CL x5 B5.out).out).mono ?_
            rintro e x6 ⟨lc, rfl, hls, -, hb⟩
            have S6 := Lib.hid (S5.out.below hb)
            have R6 := Lib.hid (R5.out.below hb)
            have B6 := Lib.hid (B5.out.trans (hb.mono B5.out.size))
            have lvq : x6.cell? ⟨lc, q, none⟩ = some (.bool (liveB m acc rs q)) := by
              have h := hls.cell q (by simp; omega)
              simpa using h
            clear hls hb S5 R5 B5 s0 sa s2 t0 t1 t2 lv0
            obtain ⟨s0, sa, s2⟩ := S6.out.cells
            obtain ⟨t0, t1, t2⟩ := R6.out.cells
            obtain ⟨L1, hL1⟩ : ∃ L, L = liveB m acc rs q := ⟨_, rfl⟩
            rw [← hL1] at lvq HPQ
            clear hL1
            have q0 : (0 : Int) ≤ (q : Int) := by omega
            cases L1 with
            | true =>
              have HN := Lib.hid (show P = false by rw [HPQ.out]; rfl)
              go_wp2_with fail
              go_ret
              exact ⟨by rw [HN.out]; rfl, B6.out⟩
            | false =>
              have HPE := Lib.hid (show P = peB (rMs m rs) (lMs m acc rs) rs p.endless by rw [HPQ.out]; rfl)
              have BX := B6
              by_cases he : p.endless.length = 0
              · have hz : ((p.endless.length : Int) == 0) = true := by rw [he]; rfl
                have HN := Lib.hid (show P = true by rw [HPE.out, List.eq_nil_of_length_eq_zero he]; rfl)
                clear he
                go_wp2_with fail
                go_ret
                exact ⟨by rw [HN.out]; rfl, BX.out⟩
              · have hz : ((p.endless.length : Int) == 0) = false := by simp; exact fun h => he (by rw [h]; rfl)
                have hep : 0 < p.endless.length := by omega
                clear he
                go_wp2_with fail
                refine ((CC hep x6 BX.out).out).mono ?_
                rintro e wz ⟨rfl, hb⟩
                have BZ := Lib.hid (BX.out.trans (hb.mono BX.out.size))
                clear hb
                go_wp2_with fail
                go_ret
                exact ⟨by rw [HPE.out]; rfl, BZ.out⟩
end Go.Proofs.YtendieoandclkaaDoor
