/-
  fill: one row of the table.
-/
import Derived.Test.YtadaijepalhohaaAI
namespace Go.Proofs.Ytadaijepalhohaa
open Go.RowKit
open Pl

theorem tab_get {W : World} {T : Nat} {s : Sl} {a : Option Addr} {c bp bl : Nat} {t : ByteArray} {u v x : Value} (h : Blk W T 77 (tabC s a c bp bl t u v x)) :
    (W.cell? ⟨T, 0, none⟩ = some (.int .i64 s.swap) ∧ W.cell? ⟨T, 1, none⟩ = some (.int .i64 s.drop) ∧ W.cell? ⟨T, 2, none⟩ = some (.int .i64 s.add) ∧ W.cell? ⟨T, 3, none⟩ = some (.int .i64 s.put) ∧ W.cell? ⟨T, 4, none⟩ = some (.slice a s.alike.length c)) ∧ (W.cell? ⟨T, 5, none⟩ = some (cloV bp bl) ∧ W.cell? ⟨T, 6, none⟩ = some (.string t)) ∧ (W.cell? ⟨T, 7, none⟩ = some u ∧ W.cell? ⟨T, 8, none⟩ = some v ∧ W.cell? ⟨T, 9, none⟩ = some x) :=
  ⟨⟨h.cell 0, h.cell 1, h.cell 2, h.cell 3, h.cell 4⟩, ⟨h.cell 5, h.cell 6⟩, h.cell 7, h.cell 8, h.cell 9⟩
/-- Costs within bounds. -/
structure Bd (s : Sl) : Prop where
  pos : s.Pos
  swap : s.swap ≤ 4000
  drop : s.drop ≤ 4000
  add : s.add ≤ 4000
  put : s.put ≤ 4000
theorem ret_none {P : Program} {fn : Func} (h : fn.results = #[]) {R : Ending → World → Prop} {a : Act} {W : World} (hd : a.defers = []) (hR : R (.returned (.tuple #[])) W) : bodyPost P fn R .normal a W := by
  refine bodyPost_end ?_ hd hR
  simp [results, h]
theorem str_B (l : List UInt8) (k : Nat) (hk : k < l.length) (W : World) : (Instr.index 9 (.string (B l)) (.int .i64 (k : Nat))).run Try.prog W = .ok (.int .u8 (l[k].toNat : Nat)) W := by
  have h := str_at (B l) k (by rw [size_B]; exact hk) W
  rw [h]
  rfl
theorem ext_B (l : List UInt8) (k : Nat) : (B l).extract 0 k = B (l.take k) := by
  apply ByteArray.ext
  apply Array.toList_inj.1
  simp [B]
theorem swS_swE (m t : List UInt8) (i j : Nat) (hi : i < m.length) (hj : j < t.length) : swS (m.take (i + 1)) (t.take (j + 1)) = swE m t i j := by
  have l1 : (m.take (i + 1)).length = i + 1 := by rw [List.length_take]; omega
  have l2 : (t.take (j + 1)).length = j + 1 := by rw [List.length_take]; omega
  unfold swS swE
  rw [l1, l2]
  by_cases h1 : 0 < i
  · by_cases h2 : 0 < j
    · rw [decide_eq_true h1, decide_eq_true h2, decide_eq_true (show 1 < i + 1 by omega), decide_eq_true (show 1 < j + 1 by omega), show i + 1 - 2 = i - 1 by omega, show j + 1 - 2 = j - 1 by omega, Nat.add_sub_cancel, Nat.add_sub_cancel, List.getElem?_take_of_lt (by omega), List.getElem?_take_of_lt (by omega), List.getElem?_take_of_lt (by omega), List.getElem?_take_of_lt (by omega)]
    · rw [decide_eq_false h2, decide_eq_false (show ¬ 1 < j + 1 by omega)]; simp
  · rw [decide_eq_false h1, decide_eq_false (show ¬ 1 < i + 1 by omega)]; simp
/-- What the loop of fill keeps. -/
def FiRel (w : World) (s : Sl) (a : Option Addr) (c : Nat) (t m : List UInt8) (i x y z n gl gr j : Nat) (W : World) : Prop :=
  ∃ Z : List Int, Z.length = n ∧ Row W z Z ∧ (∀ k, k ≤ j → Z[k]? = some (E s m t (i + 1) k)) ∧ SlBlock W gl s (.slice a s.alike.length c) ∧ Blk W gr 75 [rowV x n, rowV y n, rowV z n] ∧ But [z] w W
/-- What fill's first region lays. -/
def FiCut (w : World) (s : Sl) (a : Option Addr) (c x y z n : Nat) (u v : Value) (W : World) : Prop :=
  ∃ gl gr : Nat, u = .pointer (some ⟨gl, 0, none⟩) ∧ v = .pointer (some ⟨gr, 0, none⟩) ∧ SlBlock W gl s (.slice a s.alike.length c) ∧ Blk W gr 75 [rowV x n, rowV y n, rowV z n] ∧ w.heap.size ≤ gl ∧ w.heap.size ≤ gr ∧ Below w.heap.size w W
set_option maxHeartbeats 2000000 in
set_option maxRecDepth 100000 in
theorem fill_any (s : Sl) (hs : Bd s) (a : Option Addr) (c bp bl : Nat) (t : List UInt8) (m : List UInt8) (i : Nat) (X Y : List Int) (W1 w : World) (T x y z : Nat) (hT : TabInv W1 w T x y z s a c bp bl (B t)) (hl : s.alike.length ≤ 1000000) (ht : t.length ≤ 1000) (hm : m.length ≤ 1000) (hi : i < m.length)
    (hX : Row w x X) (hXl : X.length = t.length + 1) (hY : Row w y Y) (hYl : Y.length = t.length + 1) (eX : 1 ≤ i → ∀ k, k ≤ t.length → X[k]? = some (E s m t (i - 1) k)) (eY : ∀ k, k ≤ t.length → Y[k]? = some (E s m t i k)) :
    Calls Try.prog 34 #[.pointer (some ⟨T, 0, none⟩), .string (B (m.take (i + 1)))] w fun e w' => e = .returned (.tuple #[]) ∧ But [z] w w' ∧ ∃ Z : List Int, Z.length = t.length + 1 ∧ Row w' z Z ∧ ∀ k, k ≤ t.length → Z[k]? = some (E s m t (i + 1) k) := by
  have hn := size_B t
  have HBK := hT.blk
  obtain ⟨n, hnn⟩ : ∃ n, n = t.length + 1 := ⟨_, rfl⟩
  rw [hn, ← hnn] at HBK
  rw [← hnn] at hXl hYl ⊢
  have HT := Lib.hid hT
  have HX := Lib.hid hX
  have HY := Lib.hid hY
  have EX := Lib.hid eX
  have EY := Lib.hid eY
  have HN := Lib.hid hnn
  have HSZ := Lib.hid hn
  have HXL := Lib.hid hXl
  have HYL := Lib.hid hYl
  obtain ⟨Z0, hZ0, hZr⟩ := hT.rz
  rw [hn, ← hnn] at hZ0
  have HZ := Lib.hid hZr
  have HZL := Lib.hid hZ0
  have HK := Lib.hid HBK
  clear hT hX hY eX eY hn hnn hXl hYl hZ0 hZr
  obtain ⟨⟨q0, q1, q2, q3, q4⟩, ⟨q5, q6⟩, q7, q8, q9⟩ := tab_get HBK
  have al := fun (ob : Obj) => tab_get (HBK.alloc ob)
  have l0 := fun ob => (al ob).1.1
  have l1 := fun ob => (al ob).1.2.1
  have l2 := fun ob => (al ob).1.2.2.1
  have l3 := fun ob => (al ob).1.2.2.2.1
  have l4 := fun ob => (al ob).1.2.2.2.2
  have l7 := fun ob => (al ob).2.2.1
  have l8 := fun ob => (al ob).2.2.2.1
  have l9 := fun ob => (al ob).2.2.2.2
  have al2 := fun (o1 o2 : Obj) => tab_get ((HBK.alloc o1).alloc o2)
  have m0 := fun o1 o2 => (al2 o1 o2).1.1
  have m1 := fun o1 o2 => (al2 o1 o2).1.2.1
  have m2 := fun o1 o2 => (al2 o1 o2).1.2.2.1
  have m3 := fun o1 o2 => (al2 o1 o2).1.2.2.2.1
  have m4 := fun o1 o2 => (al2 o1 o2).1.2.2.2.2
  have m7 := fun o1 o2 => (al2 o1 o2).2.2.1
  have m8 := fun o1 o2 => (al2 o1 o2).2.2.2.1
  have m9 := fun o1 o2 => (al2 o1 o2).2.2.2.2
  clear al al2 HBK
  have W0a := Lib.hid (show ∀ o1 o2 : Obj, ((w.alloc o1).alloc o2).heap.size = w.heap.size + 2 from fun _ _ => by rw [World.size_alloc, World.size_alloc])
  generalize hM : B (m.take (i + 1)) = M at *
  have HM := Lib.hid hM
  clear hM
  go_enter Try.func34, Try.ntmps34
  go_upto_region 0 with fail
  go_cut [4, 5] (fun u v wx => FiCut w s a c x y z n u v wx)
  case first =>
    go_region
    all_goals (try go_wp2_with fail)
    all_goals go_meet
    · refine ⟨_, _, rfl, rfl, (SlBlock.new w s _).alloc _, ?_, Nat.le_refl _, by omega, ?_⟩
      · have := Blk.new (w.alloc (.cells #[.int .i64 s.swap, .int .i64 s.drop, .int .i64 s.add, .int .i64 s.put, .slice a s.alike.length c] 32)) 75 [rowV x n, rowV y n, rowV z n]
        rw [World.size_alloc] at this
        exact this
      · exact (((Below.refl _ _).alloc (Nat.le_refl _) _).alloc (by simp) _).drew
    · refine ⟨_, _, rfl, rfl, ?_, (Blk.new w 75 [rowV x n, rowV y n, rowV z n]).alloc _, by omega, Nat.le_refl _, ?_⟩
      · have := SlBlock.new (w.alloc (.cells #[rowV x n, rowV y n, rowV z n] 75)) s (.slice a s.alike.length c)
        rw [World.size_alloc] at this
        exact this
      · exact (((Below.refl _ _).alloc (Nat.le_refl _) _).alloc (by simp) _).drew
  case rest =>
    obtain ⟨gl, gr, rfl, rfl, hsl, hrw, hgl, hgr, hbw⟩ := hcut
    clear l0 l1 l2 l3 l4 l7 l8 l9 m0 m1 m2 m3 m4 m7 m8 m9 q0 q1 q2 q3 q4 q5 q6 q7 q8 q9
    have SL := Lib.hid hsl
    have RW := Lib.hid hrw
    have GL := Lib.hid hgl
    have GR := Lib.hid hgr
    have BW := Lib.hid hbw
    clear hsl hrw hgl hgr hbw
    -- bounds
    have EB := Lib.hid (show ∀ p q, p ≤ 1000 → q ≤ 1000 → 0 ≤ E s m t p q ∧ E s m t p q ≤ 8000000 from fun p q hp hq => by
      have h1 := E_bounds hs.pos m t p q
      have h2 : (p : Int) * s.drop ≤ 1000 * 4000 := Int.mul_le_mul (by omega) hs.drop (by have := hs.pos.drop; omega) (by omega)
      have h3 : (q : Int) * s.add ≤ 1000 * 4000 := Int.mul_le_mul (by omega) hs.add (by have := hs.pos.add; omega) (by omega)
      omega)
    have hd0 := hs.pos.drop
    have hd1 := hs.drop
    have ha0 := hs.pos.add
    have ha1 := hs.add
    have hw0 := hs.pos.swap
    have hw1 := hs.swap
    have PB := Lib.hid (show ∀ p q, 0 ≤ putC s p q ∧ putC s p q ≤ 4000 from fun p q => ⟨putC_nonneg s hs.pos p q, Int.le_trans (putC_le s hs.pos p q) hs.put⟩)
    have HS := Lib.hid hs
    clear hs
    -- the last byte
    have hMs : M.size = i + 1 := by rw [← HM.out, size_B, List.length_take]; omega
    have hM1 : (M.size : Int) = (i : Int) + 1 := by omega
    have LB : ∀ W, (Instr.index 9 (.string M) (.int .i64 (i : Nat))).run Try.prog W = .ok (.int .u8 (m[i].toNat : Nat)) W := fun W => by
      have h := str_B (m.take (i + 1)) i (by rw [List.length_take]; omega) W
      rw [List.getElem_take, HM.out] at h
      exact h
    have wM : IntKind.i64.wrap ((M.size : Int) - 1) = (i : Int) := by rw [IntWalk.i64_in _ (by omega)]; omega
    have wM2 : (M.size : Int) - 1 = (i : Int) := by omega
    obtain ⟨lb, hlb⟩ : ∃ lb, lb = m[i] := ⟨_, rfl⟩
    rw [← hlb] at LB
    have HLB := Lib.hid hlb
    have HMS := Lib.hid hMs
    clear hlb hMs hM1
    go_upto_region 2 with fail
    have Y0 := EY.out 0 (Nat.zero_le _)
    have n0 : 0 < n := by have := HN.out; omega
    have n0i : (0 : Int) < (n : Int) := by omega
    have y0l : 0 < Y.length := by rw [HYL.out]; exact n0
    have e00 := EB.out i 0 (by omega) (by omega)
    have hE0 := Lib.hid (show E s m t (i + 1) 0 = E s m t i 0 + s.drop by
      rw [E_left _ _ _ _ (by omega), E_left _ _ _ _ (by omega), show ((i + 1 : Nat) : Int) = (i : Int) + 1 by omega, Int.add_mul, Int.one_mul])
    obtain ⟨A0, hA0⟩ : ∃ A0, A0 = E s m t i 0 := ⟨_, rfl⟩
    rw [← hA0] at Y0 e00 hE0
    have HA0 := Lib.hid hA0
    clear hA0
    have wA : IntKind.i64.wrap (A0 + s.drop) = A0 + s.drop := IntWalk.i64_in _ (by omega)
    have cY := fun (W : World) (h : Row W y Y) => (Blk.cell h 0).trans (show (Y.map intV)[0]? = some (.int .i64 A0) by rw [List.getElem?_map, Y0]; rfl)
    have FW := Lib.hid (show ∀ W, Below wc.heap.size wc W → (W.cell? ⟨gr, 2, none⟩ = some (rowV z n) ∧ W.cell? ⟨gr, 1, none⟩ = some (rowV y n)) ∧ W.cell? ⟨y, 0, none⟩ = some (.int .i64 A0) ∧ W.cell? ⟨gl, 1, none⟩ = some (.int .i64 s.drop) from fun W h =>
      ⟨⟨(RW.out.below h).cell 2, (RW.out.below h).cell 1⟩, cY W ((Blk.below HY.out BW.out).below h), (SL.out.below h).cells.2.1⟩)
    have z0l : 0 < Z0.length := by rw [HZL.out]; exact n0
    refine wp_normal ?_
    refine wp_region_phase (fun W => Below wc.heap.size wc W) (fun W => SlBlock W gl s (.slice a s.alike.length c) ∧ Blk W gr 75 [rowV x n, rowV y n, rowV z n] ∧ Row W z (Z0.set 0 (A0 + s.drop)) ∧ But [z] w W) 10 _ 31 30 (.pointer (some ⟨z, 0, none⟩)) (.int .i64 (A0 + s.drop)) 3 (by kernel_rfl) rfl rfl rfl rfl (by kernel_rfl) (by kernel_rfl) (Below.refl _ _).drew (fun W h => ?_) ?_
    · have hz := ((HZ.out.below BW.out).below h)
      have tc := hz.cell 0
      have tf := hz.free 0
      rw [List.getElem?_map, List.getElem?_eq_getElem z0l] at tc
      refine ⟨W.setCell ⟨z, 0, none⟩ (.int .i64 (A0 + s.drop)), ?_, (SL.out.below h).setCell ?_, (RW.out.below h).setCell ?_, Row.set hz 0 _, ((But.of BW.out).trans (But.of (h.mono (Nat.le_refl _)))).setCell (by simp) _⟩
      · simp only [Option.map_some, intV] at tc
        go_simp
      · have := GL.out; have := hz.lt; have := Blk.lt HZ.out; omega
      · have := GR.out; have := Blk.lt HZ.out; omega
    · simp only [List.set_cons_succ, List.set_cons_zero, nopOf]
      repeat (first | go_big_quiet_skip | (go_big_quiet_want; first | (go_big_quiet_op; go_big_quiet_on) | (refine quiet_value ?_ (fun W h => ?_) ?_; rotate_left; (· obtain ⟨⟨f0, f1⟩, f2, f3⟩ := FW.out W h; go_simp; rfl); go_simp; go_big_quiet_on)))
      refine wpQuiet_nil ⟨rfl, rfl, ?_⟩
      intro W h
      refine ⟨trivial, ?_⟩
      have RR := Lib.hid (show FiRel w s a c t m i x y z n gl gr 0 W from ⟨Z0.set 0 (A0 + s.drop), by rw [List.length_set]; exact HZL.out, h.2.2.1, fun k hk => by
        obtain rfl : k = 0 := by omega
        rw [List.getElem?_set_self z0l, hE0.out], h.1, h.2.1, h.2.2.2⟩)
      have KP := Lib.hid (show ∀ V, But [z] w V → (Row V y Y ∧ Row V x X) ∧ Blk V T 77 (tabC s a c bp bl (B t) (rowV x n) (rowV y n) (rowV z n)) ∧ PutsOk V s a c bp bl from fun V hV => by
        obtain ⟨d1, d2, d3, d4, d5, d6⟩ := HT.out.ne
        refine ⟨⟨Blk.but HY.out hV (by simpa using d6), Blk.but HX.out hV (by simpa using d5)⟩, Blk.but HK.out hV (by simpa using d3), ?_⟩
        exact HT.out.ok.below (HT.out.low.trans (hV.low HT.out.low.size (fun k hk => by obtain rfl : k = z := by simpa using hk
                                                                                        exact HT.out.ge.2.2.2))))
      clear h FW cY wA Y0 y0l z0l e00 hE0 HA0 HZ HZL SL RW BW
      obtain ⟨⟨-, -⟩, hk1, -⟩ := KP.out W (by obtain ⟨_, _, _, _, _, _, h⟩ := RR.out; exact h)
      obtain ⟨-, ⟨-, q6⟩, -⟩ := tab_get hk1
      have hsz := HSZ.out
      clear hk1
      go_wp2_with fail
      clear q6
      go_loopw [37] (fun jv wr => ∃ j : Nat, jv = .int .i64 (j : Nat) ∧ j ≤ t.length ∧ FiRel w s a c t m i x y z n gl gr j wr) (fun jv _ => t.length - (intOf jv).toNat)
      case atStart => exact ⟨0, rfl, Nat.zero_le _, RR.out⟩
      case round =>
        obtain ⟨j, rfl, hj, hr⟩ := hrel
        clear RR
        obtain ⟨Z, hZl, hZr, hZe, hsl, hrw, hbt⟩ := hr
        obtain ⟨⟨hyr, hxr⟩, htb, hpo⟩ := KP.out wr hbt
        have ZL := Lib.hid hZl
        have ZR := Lib.hid hZr
        have ZE := Lib.hid hZe
        have SL := Lib.hid hsl
        have RW := Lib.hid hrw
        have BT := Lib.hid hbt
        have YR := Lib.hid hyr
        have XR := Lib.hid hxr
        have TB := Lib.hid htb
        have PO := Lib.hid hpo
        clear hZl hZr hZe hsl hrw hbt hyr hxr htb hpo
        have j0 : (0 : Int) ≤ (j : Int) := by omega
        by_cases h1 : (j : Int) < (t.length : Int)
        · have jl : j < t.length := by omega
          have nn := HN.out
          have jn : (j : Int) < (n : Int) := by omega
          have jn1 : (j : Int) + 1 < (n : Int) := by omega
          have j1 : (0 : Int) ≤ (j : Int) + 1 := by omega
          have wj1 : IntKind.i64.wrap ((j : Int) + 1) = (j : Int) + 1 := IntWalk.i64_in _ (by omega)
          have tj1 : ((j : Int) + 1).toNat = j + 1 := by omega
          have eA := EY.out j (by omega)
          have eB := EY.out (j + 1) (by omega)
          have eC := ZE.out j (Nat.le_refl _)
          have bA := EB.out i j (by omega) (by omega)
          have bB := EB.out i (j + 1) (by omega) (by omega)
          have bC := EB.out (i + 1) j (by omega) (by omega)
          have bP := PB.out m[i] t[j]
          have hES := E_step s m t i j hi jl
          have TI := fun W => str_B t j jl W
          have CP := fun W (h : PutsOk W s a c bp bl) => puts1_any s a c bp bl m[i] t[j] W h hl
          have hlb := HLB.out
          rw [← hlb] at bP hES CP
          obtain ⟨tj, htj⟩ : ∃ tj, tj = t[j] := ⟨_, rfl⟩
          rw [← htj] at bP hES TI CP
          obtain ⟨vA, hvA⟩ : ∃ v, v = E s m t i j := ⟨_, rfl⟩
          obtain ⟨vB, hvB⟩ : ∃ v, v = E s m t i (j + 1) := ⟨_, rfl⟩
          obtain ⟨vC, hvC⟩ : ∃ v, v = E s m t (i + 1) j := ⟨_, rfl⟩
          obtain ⟨vP, hvP⟩ : ∃ v, v = putC s lb tj := ⟨_, rfl⟩
          rw [← hvA] at eA bA hES
          rw [← hvB] at eB bB hES
          rw [← hvC] at eC bC hES
          rw [← hvP] at bP hES CP
          have HES := Lib.hid hES
          have HP := Lib.hid CP
          clear hvA hvB hvC hvP htj hlb nn hES CP
          have sA : IntKind.i64.wrap (vA + vP) = vA + vP := IntWalk.i64_in _ (by omega)
          have sB : IntKind.i64.wrap (vB + s.drop) = vB + s.drop := IntWalk.i64_in _ (by omega)
          have sC : IntKind.i64.wrap (vC + s.add) = vC + s.add := IntWalk.i64_in _ (by omega)
          have cA := fun (V : World) (h : Row V y Y) => (Blk.cell h j).trans (show (Y.map intV)[j]? = some (.int .i64 vA) by rw [List.getElem?_map, eA]; rfl)
          have cB := fun (V : World) (h : Row V y Y) => (Blk.cell h (j + 1)).trans (show (Y.map intV)[j + 1]? = some (.int .i64 vB) by rw [List.getElem?_map, eB]; rfl)
          have cC := fun (V : World) (h : Row V z Z) => (Blk.cell h j).trans (show (Z.map intV)[j]? = some (.int .i64 vC) by rw [List.getElem?_map, eC]; rfl)
          have FW := Lib.hid (show ∀ W, Below wr.heap.size wr W → (W.cell? ⟨gr, 0, none⟩ = some (rowV x n) ∧ W.cell? ⟨gr, 1, none⟩ = some (rowV y n) ∧ W.cell? ⟨gr, 2, none⟩ = some (rowV z n)) ∧ (W.cell? ⟨y, j, none⟩ = some (.int .i64 vA) ∧ W.cell? ⟨y, j + 1, none⟩ = some (.int .i64 vB) ∧ W.cell? ⟨z, j, none⟩ = some (.int .i64 vC)) ∧ (W.cell? ⟨T, 5, none⟩ = some (cloV bp bl) ∧ W.cell? ⟨T, 6, none⟩ = some (.string (B t))) ∧ (W.cell? ⟨gl, 0, none⟩ = some (.int .i64 s.swap) ∧ W.cell? ⟨gl, 1, none⟩ = some (.int .i64 s.drop) ∧ W.cell? ⟨gl, 2, none⟩ = some (.int .i64 s.add)) from fun W h =>
            ⟨⟨(RW.out.below h).cell 0, (RW.out.below h).cell 1, (RW.out.below h).cell 2⟩, ⟨cA W (Blk.below YR.out h), cB W (Blk.below YR.out h), cC W (Blk.below ZR.out h)⟩, (tab_get (TB.out.below h)).2.1, (SL.out.below h).cells.1, (SL.out.below h).cells.2.1, (SL.out.below h).cells.2.2.1⟩)
          have C1 : ∀ W, Below wr.heap.size wr W → Calls Try.prog 39 #[.int .u8 (lb.toNat : Nat), .int .u8 (tj.toNat : Nat), .pointer (some ⟨bp, 0, none⟩), .pointer (some ⟨bl, 0, none⟩)] W fun e w' => e = .returned (.int .i64 vP) ∧ Below wr.heap.size wr w' := fun W h => (HP.out W (PO.out.below h)).mono fun e w' h' => ⟨h'.1, h.trans (h'.2.mono h.size)⟩
          have EN : ∀ args W, (callFunc 39 args).run Try.prog W = .ok (.enter 39 args) W := fun args W => by kernel_rfl
          clear cA cB cC eA eB eC
          go_upto_region 6 with fail
          go_cut [8] (fun u wx => u = .int .i64 (min (vA + vP) (min (vB + s.drop) (vC + s.add))) ∧ Below wr.heap.size wr wx)
          case first =>
            rcases Int.lt_or_le (vB + s.drop) (vA + vP) with o1 | o1
            · rcases Int.lt_or_le (vC + s.add) (vB + s.drop) with o2 | o2
              · have hmn := Lib.hid (show min (vA + vP) (min (vB + s.drop) (vC + s.add)) = vC + s.add by omega)
                refine wp_normal ?_
                refine wp_region_class (C := fun W => Below wr.heap.size wr W) (by kernel_rfl) (by kernel_rfl) (Below.refl _ _).drew ?_
                repeat (first | go_big_quiet_skip | (go_big_quiet_want; first | (go_big_quiet_op; go_big_quiet_on) | (refine quiet_value ?_ (fun W h => ?_) ?_; rotate_left; (· obtain ⟨⟨f0, f1, f2⟩, ⟨f3, f4, f5⟩, ⟨f6, f7⟩, f8, f9, f10⟩ := FW.out W h; go_simp; rfl); go_simp; go_big_quiet_on) | (refine quiet_call _ _ _ (fun W => ?_) C1 ?_; (· go_simp; done); go_simp; go_big_quiet_on)))
                refine wpQuiet_nil ?_
                intro W h
                refine ⟨rfl, ?_⟩
                have HW := Lib.hid h
                clear h
                try go_wp2_with fail
                go_meet
                exact ⟨by rw [hmn.out], HW.out⟩
              · have hmn := Lib.hid (show min (vA + vP) (min (vB + s.drop) (vC + s.add)) = vB + s.drop by omega)
                refine wp_normal ?_
                refine wp_region_class (C := fun W => Below wr.heap.size wr W) (by kernel_rfl) (by kernel_rfl) (Below.refl _ _).drew ?_
                repeat (first | go_big_quiet_skip | (go_big_quiet_want; first | (go_big_quiet_op; go_big_quiet_on) | (refine quiet_value ?_ (fun W h => ?_) ?_; rotate_left; (· obtain ⟨⟨f0, f1, f2⟩, ⟨f3, f4, f5⟩, ⟨f6, f7⟩, f8, f9, f10⟩ := FW.out W h; go_simp; rfl); go_simp; go_big_quiet_on) | (refine quiet_call _ _ _ (fun W => ?_) C1 ?_; (· go_simp; done); go_simp; go_big_quiet_on)))
                refine wpQuiet_nil ?_
                intro W h
                refine ⟨rfl, ?_⟩
                have HW := Lib.hid h
                clear h
                try go_wp2_with fail
                go_meet
                exact ⟨by rw [hmn.out], HW.out⟩
            · rcases Int.lt_or_le (vC + s.add) (vA + vP) with o2 | o2
              · have hmn := Lib.hid (show min (vA + vP) (min (vB + s.drop) (vC + s.add)) = vC + s.add by omega)
                refine wp_normal ?_
                refine wp_region_class (C := fun W => Below wr.heap.size wr W) (by kernel_rfl) (by kernel_rfl) (Below.refl _ _).drew ?_
                repeat (first | go_big_quiet_skip | (go_big_quiet_want; first | (go_big_quiet_op; go_big_quiet_on) | (refine quiet_value ?_ (fun W h => ?_) ?_; rotate_left; (· obtain ⟨⟨f0, f1, f2⟩, ⟨f3, f4, f5⟩, ⟨f6, f7⟩, f8, f9, f10⟩ := FW.out W h; go_simp; rfl); go_simp; go_big_quiet_on) | (refine quiet_call _ _ _ (fun W => ?_) C1 ?_; (· go_simp; done); go_simp; go_big_quiet_on)))
                refine wpQuiet_nil ?_
                intro W h
                refine ⟨rfl, ?_⟩
                have HW := Lib.hid h
                clear h
                try go_wp2_with fail
                go_meet
                exact ⟨by rw [hmn.out], HW.out⟩
              · have hmn := Lib.hid (show min (vA + vP) (min (vB + s.drop) (vC + s.add)) = vA + vP by omega)
                refine wp_normal ?_
                refine wp_region_class (C := fun W => Below wr.heap.size wr W) (by kernel_rfl) (by kernel_rfl) (Below.refl _ _).drew ?_
                repeat (first | go_big_quiet_skip | (go_big_quiet_want; first | (go_big_quiet_op; go_big_quiet_on) | (refine quiet_value ?_ (fun W h => ?_) ?_; rotate_left; (· obtain ⟨⟨f0, f1, f2⟩, ⟨f3, f4, f5⟩, ⟨f6, f7⟩, f8, f9, f10⟩ := FW.out W h; go_simp; rfl); go_simp; go_big_quiet_on) | (refine quiet_call _ _ _ (fun W => ?_) C1 ?_; (· go_simp; done); go_simp; go_big_quiet_on)))
                refine wpQuiet_nil ?_
                intro W h
                refine ⟨rfl, ?_⟩
                have HW := Lib.hid h
                clear h
                try go_wp2_with fail
                go_meet
                exact ⟨by rw [hmn.out], HW.out⟩
          case rest =>
            obtain ⟨rfl, hbc⟩ := hcut
            obtain ⟨mn, hmn⟩ : ∃ mn, mn = min (vA + vP) (min (vB + s.drop) (vC + s.add)) := ⟨_, rfl⟩
            have hES := HES.out
            rw [← hmn] at hES ⊢
            have bmn : 0 ≤ mn ∧ mn ≤ 8004000 := by omega
            have HES2 := Lib.hid hES
            have BC := Lib.hid hbc
            clear hmn hES hbc HES C1 FW sA sB sC HP EN
            obtain ⟨hsl, hrw, hzr, hbt⟩ := (show SlBlock wc gl s (.slice a s.alike.length c) ∧ Blk wc gr 75 [rowV x n, rowV y n, rowV z n] ∧ Row wc z Z ∧ But [z] w wc from ⟨SL.out.below BC.out, RW.out.below BC.out, Blk.below ZR.out BC.out, BT.out.trans (But.of BC.out)⟩)
            have SL2 := Lib.hid hsl
            have RW2 := Lib.hid hrw
            have ZR2 := Lib.hid hzr
            have BT2 := Lib.hid hbt
            obtain ⟨⟨hyr, hxr⟩, htb, hpo⟩ := KP.out wc hbt
            have XR2 := Lib.hid hxr
            have TB2 := Lib.hid htb
            obtain ⟨-, ⟨-, q6⟩, -⟩ := tab_get htb
            clear hsl hrw hzr hbt hyr hxr htb hpo SL RW BT YR XR TB PO ZR BC
            generalize wc = w7 at *
            have jz : (j : Int) + 1 ≤ (t.length : Int) := by omega
            have CS : Calls Try.prog 40 #[.string M, .string ((B t).extract 0 (j + 1))] w7 fun e w' => e = .returned (.bool (swE m t i j)) ∧ Below w7.heap.size w7 w' := by
              have h := swapped_any M ((B t).extract 0 (j + 1)) (by have := HMS.out; omega) (by rw [ext_B, size_B, List.length_take]; omega) w7
              have e : swS M.data.toList ((B t).extract 0 (j + 1)).data.toList = swE m t i j := by
                rw [ext_B, ← HM.out, toList_B, toList_B]
                exact swS_swE m t i j hi jl
              rw [e] at h
              exact h
            go_wp2_with fail
            refine CS.mono ?_
            rintro e w8 ⟨rfl, hb⟩
            clear CS q6
            obtain ⟨hsl, hrw, hzr, hbt, hxr⟩ := (show SlBlock w8 gl s (.slice a s.alike.length c) ∧ Blk w8 gr 75 [rowV x n, rowV y n, rowV z n] ∧ Row w8 z Z ∧ But [z] w w8 ∧ Row w8 x X from ⟨SL2.out.below hb, RW2.out.below hb, Blk.below ZR2.out hb, BT2.out.trans (But.of hb), Blk.below XR2.out hb⟩)
            have SL3 := Lib.hid hsl
            have RW3 := Lib.hid hrw
            have ZR3 := Lib.hid hzr
            have BT3 := Lib.hid hbt
            have XR3 := Lib.hid hxr
            clear hsl hrw hzr hbt hxr hb SL2 RW2 ZR2 BT2 XR2 TB2
            cases hsw : swE m t i j with
            | false =>
              have HE := Lib.hid (show E s m t (i + 1) (j + 1) = mn by have := HES2.out; rw [hsw] at this; exact this)
              clear HES2 hsw
              have r2 := RW3.out.cell 2
              simp only [List.getElem?_cons_succ, List.getElem?_cons_zero] at r2
              have zc := ZR3.out.cell (j + 1)
              rw [List.getElem?_map, List.getElem?_eq_getElem (by rw [ZL.out]; have := HN.out; omega), Option.map_some] at zc
              have zf := ZR3.out.free (j + 1)
              have RN := Lib.hid (show FiRel w s a c t m i x y z n gl gr (j + 1) (w8.setCell ⟨z, j + 1, none⟩ (.int .i64 mn)) from ⟨Z.set (j + 1) mn, by rw [List.length_set]; exact ZL.out, Row.set ZR3.out _ _, fun k hk => by
                rcases Nat.lt_or_ge k (j + 1) with q | q
                · rw [List.getElem?_set_ne (by omega)]; exact ZE.out k (by omega)
                · obtain rfl : k = j + 1 := by omega
                  rw [List.getElem?_set_self (by rw [ZL.out]; have := HN.out; omega), HE.out], SL3.out.setCell (by have := GL.out; have := HT.out.rz; obtain ⟨_, _, h⟩ := this; have := Blk.lt h; omega), RW3.out.setCell (by have := GR.out; have := HT.out.rz; obtain ⟨_, _, h⟩ := this; have := Blk.lt h; omega), BT3.out.setCell (by simp) _⟩)
              clear SL3 RW3 ZR3 BT3 XR3
              go_wp2_with fail
              go_roundw
              case rel => exact ⟨j + 1, by go_num, by omega, RN.out⟩
              case measure => simp [intOf]; omega
            | true =>
              have hij : 0 < i ∧ 0 < j := by
                unfold swE at hsw
                simp only [Bool.and_eq_true, decide_eq_true_eq] at hsw
                exact ⟨hsw.1, hsw.2.1⟩
              obtain ⟨vX, hvX⟩ : ∃ v, v = E s m t (i - 1) (j - 1) := ⟨_, rfl⟩
              have bX := EB.out (i - 1) (j - 1) (by omega) (by omega)
              have eX := EX.out hij.1 (j - 1) (by omega)
              rw [← hvX] at bX eX
              have HE := Lib.hid (show E s m t (i + 1) (j + 1) = min mn (vX + s.swap) by have := HES2.out; rw [hsw, if_pos rfl, ← hvX] at this; exact this)
              obtain ⟨jp, hjp⟩ : ∃ jp, jp = j - 1 := ⟨_, rfl⟩
              rw [← hjp] at eX
              have wj : IntKind.i64.wrap ((j : Int) - 1) = (jp : Int) := by rw [IntWalk.i64_in _ (by omega)]; omega
              have jp0 : (0 : Int) ≤ (jp : Int) := by omega
              have jpn : (jp : Int) < (n : Int) := by have := HN.out; omega
              have sX : IntKind.i64.wrap (vX + s.swap) = vX + s.swap := IntWalk.i64_in _ (by omega)
              have cX := fun (V : World) (h : Row V x X) => (Blk.cell h jp).trans (show (X.map intV)[jp]? = some (.int .i64 vX) by rw [List.getElem?_map, eX]; rfl)
              have FW := Lib.hid (show ∀ W, Below w8.heap.size w8 W → (W.cell? ⟨gr, 0, none⟩ = some (rowV x n) ∧ W.cell? ⟨x, jp, none⟩ = some (.int .i64 vX)) ∧ W.cell? ⟨gl, 0, none⟩ = some (.int .i64 s.swap) from fun W h => ⟨⟨(RW3.out.below h).cell 0, cX W (Blk.below XR3.out h)⟩, (SL3.out.below h).cells.1⟩)
              clear hvX HES2 hsw hjp cX eX
              go_upto_region 8 with fail
              rcases Int.lt_or_le (vX + s.swap) mn with o1 | o1
              · rw [show min mn (vX + s.swap) = vX + s.swap by omega] at HE
                refine wp_normal ?_
                refine wp_region_class (C := fun W => Below w8.heap.size w8 W) (by kernel_rfl) (by kernel_rfl) (Below.refl _ _).drew ?_
                repeat (first | go_big_quiet_skip | (go_big_quiet_want; first | (go_big_quiet_op; go_big_quiet_on) | (refine quiet_value ?_ (fun W h => ?_) ?_; rotate_left; (· obtain ⟨⟨f0, f1⟩, f2⟩ := FW.out W h; go_simp; rfl); go_simp; go_big_quiet_on)))
                refine wpQuiet_nil ?_
                intro W9 hb
                refine ⟨rfl, ?_⟩
                have r2 := (RW3.out.below hb).cell 2
                simp only [List.getElem?_cons_succ, List.getElem?_cons_zero] at r2
                have zc := (Blk.below ZR3.out hb).cell (j + 1)
                rw [List.getElem?_map, List.getElem?_eq_getElem (by rw [ZL.out]; have := HN.out; omega), Option.map_some] at zc
                have zf := (Blk.below ZR3.out hb).free (j + 1)
                have RN := Lib.hid (show FiRel w s a c t m i x y z n gl gr (j + 1) (W9.setCell ⟨z, j + 1, none⟩ (.int .i64 (vX + s.swap))) from ⟨Z.set (j + 1) (vX + s.swap), by rw [List.length_set]; exact ZL.out, Row.set (Blk.below ZR3.out hb) _ _, fun k hk => by
                  rcases Nat.lt_or_ge k (j + 1) with q | q
                  · rw [List.getElem?_set_ne (by omega)]; exact ZE.out k (by omega)
                  · obtain rfl : k = j + 1 := by omega
                    rw [List.getElem?_set_self (by rw [ZL.out]; have := HN.out; omega), HE.out], (SL3.out.below hb).setCell (by have := GL.out; have := HT.out.rz; obtain ⟨_, _, h⟩ := this; have := Blk.lt h; omega), (RW3.out.below hb).setCell (by have := GR.out; have := HT.out.rz; obtain ⟨_, _, h⟩ := this; have := Blk.lt h; omega), (BT3.out.trans (But.of hb)).setCell (by simp) _⟩)
                clear SL3 RW3 ZR3 BT3 XR3 FW hb
                go_wp2_with fail
                go_roundw
                case rel => exact ⟨j + 1, by go_num, by omega, RN.out⟩
                case measure => simp [intOf]; omega
              · rw [show min mn (vX + s.swap) = mn by omega] at HE
                refine wp_normal ?_
                refine wp_region_class (C := fun W => Below w8.heap.size w8 W) (by kernel_rfl) (by kernel_rfl) (Below.refl _ _).drew ?_
                repeat (first | go_big_quiet_skip | (go_big_quiet_want; first | (go_big_quiet_op; go_big_quiet_on) | (refine quiet_value ?_ (fun W h => ?_) ?_; rotate_left; (· obtain ⟨⟨f0, f1⟩, f2⟩ := FW.out W h; go_simp; rfl); go_simp; go_big_quiet_on)))
                refine wpQuiet_nil ?_
                intro W9 hb
                refine ⟨rfl, ?_⟩
                have r2 := (RW3.out.below hb).cell 2
                simp only [List.getElem?_cons_succ, List.getElem?_cons_zero] at r2
                have zc := (Blk.below ZR3.out hb).cell (j + 1)
                rw [List.getElem?_map, List.getElem?_eq_getElem (by rw [ZL.out]; have := HN.out; omega), Option.map_some] at zc
                have zf := (Blk.below ZR3.out hb).free (j + 1)
                have RN := Lib.hid (show FiRel w s a c t m i x y z n gl gr (j + 1) (W9.setCell ⟨z, j + 1, none⟩ (.int .i64 (mn))) from ⟨Z.set (j + 1) (mn), by rw [List.length_set]; exact ZL.out, Row.set (Blk.below ZR3.out hb) _ _, fun k hk => by
                  rcases Nat.lt_or_ge k (j + 1) with q | q
                  · rw [List.getElem?_set_ne (by omega)]; exact ZE.out k (by omega)
                  · obtain rfl : k = j + 1 := by omega
                    rw [List.getElem?_set_self (by rw [ZL.out]; have := HN.out; omega), HE.out], (SL3.out.below hb).setCell (by have := GL.out; have := HT.out.rz; obtain ⟨_, _, h⟩ := this; have := Blk.lt h; omega), (RW3.out.below hb).setCell (by have := GR.out; have := HT.out.rz; obtain ⟨_, _, h⟩ := this; have := Blk.lt h; omega), (BT3.out.trans (But.of hb)).setCell (by simp) _⟩)
                clear SL3 RW3 ZR3 BT3 XR3 FW hb
                go_wp2_with fail
                go_roundw
                case rel => exact ⟨j + 1, by go_num, by omega, RN.out⟩
                case measure => simp [intOf]; omega
        · have hje : j = t.length := by omega
          have HJ := Lib.hid hje
          clear hje
          go_wp2_with fail
          exact ret_none Try.results34 rfl ⟨rfl, BT.out, Z, ZL.out, ZR.out, fun k hk => ZE.out k (by rw [HJ.out]; exact hk)⟩
end Go.Proofs.Ytadaijepalhohaa
