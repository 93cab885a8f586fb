/-
  SlipSingles' walk.
-/
import Derived.Test.YtadaijepalhohaaBH
namespace Go.Proofs.Ytadaijepalhohaa
open Go.RowKit
open Pl

theorem ext_mid (l : List UInt8) (i j : Nat) : (B l).extract i j = B ((l.take j).drop i) := by
  apply ByteArray.ext
  apply Array.toList_inj.1
  simp [B, List.drop_take]
theorem mix1 (l : List UInt8) (i : Nat) (c : List UInt8) : (B l).extract 0 i ++ B c ++ (B l).extract i l.length = B (l.take i ++ (c ++ l.drop i)) := by
  rw [ext_mid, ext_mid, List.drop_zero, List.take_length, ← B_append, ← B_append, List.append_assoc]
theorem mix2 (l : List UInt8) (i : Nat) (c : List UInt8) : (B l).extract 0 i ++ B c ++ (B l).extract (i + 1) l.length = B (l.take i ++ (c ++ l.drop (i + 1))) := by
  rw [ext_mid, ext_mid, List.drop_zero, List.take_length, ← B_append, ← B_append, List.append_assoc]
section
variable {P : Program} {ops : Array Oper} {Q : Exit → Act → World → Prop}
/-- Each operation waits only for earlier ones. -/
def earlyC (ops : Array Oper) (n : Nat) : Bool :=
  (List.range n).all (fun j => match ops[j]? with
    | some o => o.after.all (fun e => !Region.binds .any e || decide (e.on < j))
    | none => false)
theorem any_of_inv3 {n : Nat} (hsz : ops.size = n) (hE : earlyC ops n = true) {J : Array Bool → Act → World → Prop}
    (step : ∀ listed a w i, J listed a w → i ∈ Region.ready .any ops listed → i < n → wpOp P ops Q i (fun a' w' => J (listed.setIfInBounds i true) a' w') a w)
    (fin : ∀ listed a w, J listed a w → (∀ i, i < n → listed.getD i false = true) → Q .normal a w) :
    ∀ (f : Nat) (listed : Array Bool) (a : Act) (w : World), listed.size = n → cntU n (fun k => listed.getD k false) = f → J listed a w → wpAny P .any ops Q f listed a w := by
  unfold earlyC at hE
  have early : ∀ j o, j < n → ops[j]? = some o → ∀ e ∈ o.after, Region.binds .any e = true → e.on < j := fun j o hj ho e he hb => by
    have h := List.all_eq_true.1 hE j (List.mem_range.2 hj)
    rw [ho] at h
    have h2 := Array.all_eq_true'.1 h e he
    rw [hb] at h2
    simpa using h2
  have isr : ∀ (listed : Array Bool) j, listed.size = n → j < n → listed.getD j false = false → (∀ k, k < j → listed.getD k false = true) → j ∈ Region.ready .any ops listed := fun listed j hs hj hl hk => by
    have hlt : j < ops.size := by omega
    exact mem_ready.2 ⟨by rw [getD_same listed j (by omega)]; exact hl, ops[j], by simp [hlt], fun e he hb => hk _ (early j ops[j] hj (by simp [hlt]) e he hb)⟩
  have inb : ∀ listed i, i ∈ Region.ready .any ops listed → i < n ∧ listed.getD i false = false := fun listed i hi => by
    obtain ⟨h1, o, ho, -⟩ := mem_ready.1 hi
    have : i < ops.size := (Array.getElem?_eq_some_iff.1 ho).1
    exact ⟨by omega, getD_low h1⟩
  intro f
  induction f with
  | zero =>
    intro listed a w hs hc hJ
    have hall := cntU_zero n _ hc
    refine ⟨List.eq_nil_iff_forall_not_mem.2 fun j hj => ?_, fin listed a w hJ hall⟩
    obtain ⟨h3, h4⟩ := inb _ j hj
    rw [hall j h3] at h4; cases h4
  | succ f ih =>
    intro listed a w hs hc hJ
    refine ⟨fun h => ?_, fun i hi => ?_⟩
    · exfalso
      have hex : ∃ j, j < n ∧ listed.getD j false = false := by
        refine Classical.byContradiction fun hno => ?_
        have : cntU n (fun k => listed.getD k false) = 0 := cntU_all n _ fun k hk => by
          cases hb : listed.getD k false with
          | true => rfl
          | false => exact absurd ⟨k, hk, hb⟩ hno
        omega
      have hleast : ∀ m j, j ≤ m → j < n → listed.getD j false = false → ∃ j, j < n ∧ listed.getD j false = false ∧ ∀ k, k < j → listed.getD k false = true := by
        intro m
        induction m with
        | zero => intro j hj hjn hl; exact ⟨j, hjn, hl, fun k hk => by omega⟩
        | succ m ihm =>
          intro j hj hjn hl
          by_cases hsm : ∃ k, k < j ∧ listed.getD k false = false
          · obtain ⟨k, hk, hkl⟩ := hsm
            exact ihm k (by omega) (by omega) hkl
          · refine ⟨j, hjn, hl, fun k hk => ?_⟩
            cases hb : listed.getD k false with
            | true => rfl
            | false => exact absurd ⟨k, hk, hb⟩ hsm
      obtain ⟨j, hj, hl⟩ := hex
      obtain ⟨j, hj, hl, hk⟩ := hleast j j (Nat.le_refl _) hj hl
      have := isr listed j hs hj hl hk
      rw [h] at this; cases this
    · obtain ⟨h1, h2⟩ := inb listed i hi
      refine wpOp_mono (fun a' w' h => ?_) (step listed a w i hJ hi h1)
      have hset : ∀ k, k ≠ i → (listed.setIfInBounds i true).getD k false = listed.getD k false := fun k hk => by
        rw [Array.getD_eq_getD_getElem?, Array.getElem?_setIfInBounds_ne (fun q => hk q.symm), ← Array.getD_eq_getD_getElem?]
      refine ih _ a' w' (by simp [hs]) ?_ h
      have := cntU_one n i (fun k => listed.getD k false) (fun k => (listed.setIfInBounds i true).getD k false) h1 h2 (by simp [hs]; omega) hset
      omega
/-- A drawn region whose operations, in any order, keep an invariant over what is listed. -/
theorem wp_region_inv3 {id : Nat} {a : Act} {w : World} {l : List Oper} (n : Nat) (hm : P.follows .mixedOrders = true) (hn : l.toArray.size = n) (hE : earlyC l.toArray n = true) (J : Array Bool → Act → World → Prop)
    (start : J (Array.replicate l.toArray.size false) a w.drew)
    (step : ∀ listed a w i, J listed a w → i ∈ Region.ready .any l.toArray listed → i < n → wpOp P l.toArray Q i (fun a' w' => J (listed.setIfInBounds i true) a' w') a w)
    (fin : ∀ listed a w, J listed a w → (∀ i, i < n → listed.getD i false = true) → Q .normal a w) : (Code.region id l.toArray true).wp P Q a w := by
  refine wp_region_any hm ?_
  rw [hn] at start
  have H := any_of_inv3 hn hE step fin n (Array.replicate n false) a w.drew (by simp) (cntU_none n _ fun k hk => by simp [hk]) start
  rw [hn]
  exact H
end
theorem BtsOwn.below {W W' : World} {b : Nat} {v : Value} {l : List UInt8} (h : BtsOwn W b v l) (hb : Below W.heap.size W W') : BtsOwn W' b v l := by
  refine ⟨h.1, ?_⟩
  rcases h.2 with h0 | ⟨g, cap, cur, hv, hg, hh, h1, h2, h3, h4⟩
  · exact Or.inl h0
  · exact Or.inr ⟨g, cap, cur, hv, hg, by rw [hb.block g (lt_of_heap hh)]; exact hh, h1, h2, h3, h4⟩
theorem sg_new (V : World) (base : Nat) (c : UInt8) (hb : base ≤ V.heap.size) : BtsOwn (V.alloc (.cells #[.int .u8 (c.toNat : Nat)] 5)) base (.slice (some ⟨V.heap.size, 0, none⟩) 1 1) [c] :=
  ⟨rfl, Or.inr ⟨V.heap.size, 1, #[.int .u8 (c.toNat : Nat)], rfl, hb, heap_alloc_new V _, Nat.le_refl _, by unfold maxLen; omega, rfl, rfl⟩⟩
theorem sg_upd {F : List Value} {listed : Array Bool} {f : Nat → Value} {i : Nat} {v : Value} (hF : ∀ j, j < 34 ∧ j ≠ 6 ∧ j ≠ 19 → listed.getD j false = true → f j = F.getD j undef) (hv : v = F.getD i undef) : ∀ j, j < 34 ∧ j ≠ 6 ∧ j ≠ 19 → (listed.setIfInBounds i true).getD j false = true → upd f i v j = F.getD j undef := fun j hj hl => by
  unfold upd
  by_cases e : j = i
  · rw [if_pos e, e]; exact hv
  · rw [if_neg e]; exact hF j hj ((listed_set hl).resolve_left (fun h => e h.symm))
theorem sg_skip {F : List Value} {listed : Array Bool} {f : Nat → Value} {i : Nat} {v : Value} (hF : ∀ j, j < 34 ∧ j ≠ 6 ∧ j ≠ 19 → listed.getD j false = true → f j = F.getD j undef) (hi : i = 6 ∨ i = 19) : ∀ j, j < 34 ∧ j ≠ 6 ∧ j ≠ 19 → (listed.setIfInBounds i true).getD j false = true → upd f i v j = F.getD j undef := fun j hj hl => by
  unfold upd
  rw [if_neg (by omega)]; exact hF j hj ((listed_set hl).resolve_left (fun h => by omega))
theorem sg_own {V V' : World} {listed : Array Bool} {f : Nat → Value} {i m base : Nat} {v : Value} {c : UInt8} (h : listed.getD m false = true → BtsOwn V base (f m) [c]) (hb : Below V.heap.size V V') (hi : i ≠ m) : (listed.setIfInBounds i true).getD m false = true → BtsOwn V' base (upd f i v m) [c] := fun hl => by
  unfold upd
  rw [if_neg (fun e => hi e.symm)]
  exact (h ((listed_set hl).resolve_left hi)).below hb
theorem one_at (l : List UInt8) (k : Nat) (h : k < l.length) : (l.take (k + 1)).drop k = [l[k]] := by
  have hl : (l.take k).length = k := by rw [List.length_take]; omega
  rw [List.take_succ_eq_append_getElem h, List.drop_append_of_le_length (by omega), List.drop_of_length_le (by omega), List.nil_append]
theorem mix3 (l : List UInt8) (i : Nat) (h : i + 1 < l.length) : (B l).extract 0 i ++ (B l).extract (i + 1) (i + 2) ++ (B l).extract i (i + 1) ++ (B l).extract (i + 2) l.length = B (l.take i ++ ([l[i + 1], l[i]] ++ l.drop (i + 2))) := by
  rw [ext_mid, ext_mid, ext_mid, ext_mid, List.drop_zero, List.take_length, one_at l i (by omega), one_at l (i + 1) h, ← B_append, ← B_append, ← B_append]
  simp
theorem two_at (l : List UInt8) (i : Nat) (h : i + 1 < l.length) : l = l.take i ++ ([l[i], l[i + 1]] ++ l.drop (i + 2)) := by
  have h1 : l.drop i = l[i] :: l.drop (i + 1) := List.drop_eq_getElem_cons (by omega)
  have h2 : l.drop (i + 1) = l[i + 1] :: l.drop (i + 2) := List.drop_eq_getElem_cons h
  conv => lhs; rw [← List.take_append_drop i l, h1, h2]
  rfl
set_option maxHeartbeats 4000000 in
set_option maxRecDepth 100000 in
theorem SlipSingles_any (c0 c1 c2 c3 : Nat) (ra : Option Addr) (rn rc : Nat) (a1 : Option Addr) (n1 k1 : Nat) (e0 e1 : Nat) (w : World) (hx : c0 < 256 ∧ c1 < 256 ∧ c2 < 256 ∧ c3 < 256 ∧ rn ≤ maxLen ∧ TrisAt w w.heap.size (.slice ra rn rc) rn) (h1 : n1 ≤ maxLen ∧ U8At w w.heap.size (.slice a1 n1 k1) n1) (he : e0 < 256 ∧ e1 < 256) :
    Calls Try.prog 6 #[.agg #[.int .u8 (c0 : Nat), .int .u8 (c1 : Nat), .int .u8 (c2 : Nat), .int .u8 (c3 : Nat), .slice ra rn rc], .slice a1 n1 k1, .agg #[.int .u8 (e0 : Nat), .int .u8 (e1 : Nat)]] w fun e w' => e = .returned (.bool true) ∧ Below w.heap.size w w' := by
  obtain ⟨hx0, hx1, hx2, hx3, hxn, hxt⟩ := hx
  have HX := Lib.hid hxt
  clear hxt
  obtain ⟨hn1, hu1⟩ := h1
  obtain ⟨he0, he1⟩ := he
  have U1 := Lib.hid hu1
  clear hu1
  have B1 := Lib.hid (((Below.refl w.heap.size w).alloc (Nat.le_refl _) (.cells #[.int .u8 (c0 : Nat), .int .u8 (c1 : Nat), .int .u8 (c2 : Nat), .int .u8 (c3 : Nat), .slice ra rn rc] 25)).alloc (by simp) (.cells #[.int .u8 (e0 : Nat), .int .u8 (e1 : Nat)] 50))
  have K0 := (Blk.new w 25 [.int .u8 (c0 : Nat), .int .u8 (c1 : Nat), .int .u8 (c2 : Nat), .int .u8 (c3 : Nat), .slice ra rn rc]).alloc (.cells #[.int .u8 (e0 : Nat), .int .u8 (e1 : Nat)] 50)
  have K0 := Lib.hid K0
  have K1 := Blk.new (w.alloc (.cells #[.int .u8 (c0 : Nat), .int .u8 (c1 : Nat), .int .u8 (c2 : Nat), .int .u8 (c3 : Nat), .slice ra rn rc] 25)) 50 [.int .u8 (e0 : Nat), .int .u8 (e1 : Nat)]
  rw [World.size_alloc] at K1
  have K1 := Lib.hid K1
  go_enter Try.func6, Try.ntmps6
  go_upto_region 1 with fail
  generalize hgw : (w.alloc _).alloc _ = w1 at *
  clear hgw
  have CS := San_any w1
  go_wp2_with fail
  refine CS.mono ?_
  rintro e w2 ⟨rfl, hb⟩
  clear CS
  have K0 := Lib.hid (K0.out.below hb)
  have K1 := Lib.hid (K1.out.below hb)
  have B2 := Lib.hid (B1.out.trans (hb.mono B1.out.size))
  clear hb B1
  have q0 := K0.out.cell 0
  have q1 := K0.out.cell 1
  have q2 := K0.out.cell 2
  have q3 := K0.out.cell 3
  have q4 := K0.out.cell 4
  simp only [List.getElem?_cons_succ, List.getElem?_cons_zero] at q0 q1 q2 q3 q4
  have CM := Made_any c0 c1 c2 c3 ra rn rc w2 hx0 hx1 hx2 hx3 (HX.out.on B2.out) hxn
  clear hx0 hx1 hx2 hx3
  go_wp2_with fail
  refine CM.mono ?_
  rintro e w3 ⟨⟨s, sa, sc, rfl, hs, hso⟩, hb⟩
  have B3 := Lib.hid (B2.out.trans (hb.mono B2.out.size))
  have HS := Lib.hid hs
  have b4 := (Below.refl w3.heap.size w3).alloc (Nat.le_refl _) (.cells #[.int .i64 s.swap, .int .i64 s.drop, .int .i64 s.add, .int .i64 s.put, .slice sa s.alike.length sc] 32)
  have AL := Lib.hid (hso.at.on b4)
  have SB := Lib.hid (SlBlock.new w3 s (.slice sa s.alike.length sc))
  have K1 := Lib.hid ((K1.out.below hb).below b4)
  have B4 := Lib.hid (B3.out.trans (b4.mono B3.out.size))
  clear CM hb hs hso b4 q0 q1 q2 q3 q4 K0 B2 B3
  go_upto_region 3 with fail
  generalize hgw : w3.alloc _ = w4 at *
  generalize hgb : w3.heap.size = sb at *
  clear hgw hgb
  have PK := fun (W : World) (h : Below w4.heap.size w4 W) => (show AlsAt W W.heap.size (.slice sa s.alike.length sc) s.alike from AL.out.on h)
  have PC := fun (W : World) (h : Below w4.heap.size w4 W) => (SB.out.below h).cells
  have CT := Text_any a1 n1 k1 12 w4 (U1.out.on B4.out) hn1 (by decide)
  go_wp2_with fail
  refine CT.mono ?_
  rintro e w5 ⟨⟨ta, rfl, hta⟩, hb⟩
  have B5 := Lib.hid hb
  have K1 := Lib.hid (K1.out.below hb)
  clear CT hb U1
  have LS : s.alike.length ≤ 1000000 := Nat.le_trans HS.out.len (by decide)
  have m0 := K1.out.cell 0
  have m1 := K1.out.cell 1
  simp only [List.getElem?_cons_succ, List.getElem?_cons_zero] at m0 m1
  have sz := size_B ta
  have o1 : (0 : Int) ≤ (e0 : Int) := by omega
  have o2 : (e0 : Int) ≤ 255 := by omega
  have o3 : (0 : Int) ≤ (e1 : Int) := by omega
  have o4 : (e1 : Int) ≤ 255 := by omega
  have o5 : (0 : Int) ≤ (ta.length : Int) := by omega
  have o6 : (ta.length : Int) ≤ 12 := by omega
  obtain ⟨i, hi⟩ : ∃ i, i = e0 % (ta.length + 1) := ⟨_, rfl⟩
  have il : i ≤ ta.length := by have := Nat.mod_lt e0 (show 0 < ta.length + 1 by omega); omega
  have wi : (e0 : Int).tmod ((ta.length : Int) + 1) = (i : Int) := by rw [Int.tmod_eq_emod_of_nonneg (by omega), hi]; rfl
  obtain ⟨f1, hf1⟩ : ∃ f, f = e1 % 4 := ⟨_, rfl⟩
  have wf : (e1 : Int) % 4 = (f1 : Int) := by omega
  have p1 : (0 : Int) ≤ (f1 : Int) := by omega
  have p2 : (f1 : Int) ≤ 3 := by omega
  obtain ⟨c, hc⟩ : ∃ c : UInt8, (97 : Int) + (f1 : Int) = (c.toNat : Nat) := ⟨(97 + f1).toUInt8, (letter_of f1 (by omega)).symm⟩
  have ST := (BtsOwn.str (W := w5.alloc (.cells #[.int .u8 (c.toNat : Nat)] 5)) (b := w5.heap.size) (a := some ⟨w5.heap.size, 0, none⟩) (c := 1) (n := 1) (l := [c]) ⟨rfl, Or.inr ⟨w5.heap.size, 1, #[.int .u8 (c.toNat : Nat)], rfl, Nat.le_refl _, heap_alloc_new w5 _, Nat.le_refl _, by unfold maxLen; omega, rfl, rfl⟩⟩)
  clear hi hf1
  go_upto_region 6 with fail
  have b6 := (Below.refl w5.heap.size w5).alloc (Nat.le_refl _) (.cells #[.int .u8 (c.toNat : Nat)] 5)
  have B6 := Lib.hid (B5.out.trans (b6.mono B5.out.size))
  clear b6 ST m0 m1 B5 K1 wi wf o1 o2 o3 o4
  have i0 : (0 : Int) ≤ (i : Int) := by omega
  have i1 : (i : Int) ≤ (ta.length : Int) := by omega
  generalize hgw : w5.alloc _ = w6 at *
  generalize hgb : w5.heap.size = cb at *
  clear hgw hgb
  have FW := Lib.hid (show ∀ W, Below w6.heap.size w6 W → (W.cell? ⟨sb, 0, none⟩ = some (.int .i64 s.swap) ∧ W.cell? ⟨sb, 1, none⟩ = some (.int .i64 s.drop) ∧ W.cell? ⟨sb, 2, none⟩ = some (.int .i64 s.add) ∧ W.cell? ⟨sb, 3, none⟩ = some (.int .i64 s.put) ∧ W.cell? ⟨sb, 4, none⟩ = some (.slice sa s.alike.length sc)) from fun W h => PC W (B6.out.trans (h.mono B6.out.size)))
  have sc1 : (B [c]).size = 1 := size_B [c]
  have hp := HS.out.bd.pos
  obtain ⟨d1, hd1⟩ : ∃ d, d = D s ta (ta.take i ++ ([c] ++ ta.drop i)) := ⟨_, rfl⟩
  obtain ⟨d2, hd2⟩ : ∃ d, d = D s (ta.take i ++ ([c] ++ ta.drop i)) ta := ⟨_, rfl⟩
  have G1 : ¬ (s.add < d1) := by
    have h := one_add hp (ta.take i) (ta.drop i) c
    rw [List.take_append_drop] at h
    omega
  have G2 : ¬ (s.drop < d2) := by
    have h := one_drop hp (ta.take i) (ta.drop i) c
    rw [List.take_append_drop] at h
    omega
  have lm : (ta.take i ++ ([c] ++ ta.drop i)).length ≤ 1000 := by simp; omega
  have C1 := Lib.hid (show ∀ W, Below w6.heap.size w6 W → Calls Try.prog 15 #[.agg #[.int .i64 s.swap, .int .i64 s.drop, .int .i64 s.add, .int .i64 s.put, .slice sa s.alike.length sc], .string ((B ta).extract 0 i ++ B [c] ++ (B ta).extract i ta.length), .string (B ta)] W fun e w' => e = .returned (.int .i64 d1) ∧ Below w6.heap.size w6 w' from fun W h => by
    rw [mix1]
    exact (Distance_any s HS.out.bd sa sc _ ta W (PK W (B6.out.trans (h.mono B6.out.size))) LS lm (by omega)).mono fun e w' h2 => ⟨by rw [h2.1, hd1], h.trans (h2.2.mono h.size)⟩)
  have C2 := Lib.hid (show ∀ W, Below w6.heap.size w6 W → Calls Try.prog 15 #[.agg #[.int .i64 s.swap, .int .i64 s.drop, .int .i64 s.add, .int .i64 s.put, .slice sa s.alike.length sc], .string (B ta), .string ((B ta).extract 0 i ++ B [c] ++ (B ta).extract i ta.length)] W fun e w' => e = .returned (.int .i64 d2) ∧ Below w6.heap.size w6 w' from fun W h => by
    rw [mix1]
    exact (Distance_any s HS.out.bd sa sc ta _ W (PK W (B6.out.trans (h.mono B6.out.size))) LS (by omega) lm).mono fun e w' h2 => ⟨by rw [h2.1, hd2], h.trans (h2.2.mono h.size)⟩)
  clear hd1 hd2 lm
  have L1 : ¬ 9223372036854775807 < i + 1 := by omega
  have L2 : ¬ 9223372036854775807 < i + 1 + (ta.length - i) := by omega
  have L3 : ¬ 9223372036854775807 < i + (1 + (ta.length - i)) := by omega
  refine wp_normal ?_
  refine wp_region_class (C := fun W => Below w6.heap.size w6 W) (by kernel_rfl) (by kernel_rfl) (Below.refl _ _).drew ?_
  repeat (first | go_big_quiet_skip | (go_big_quiet_want; first | (go_big_quiet_op; go_big_quiet_on) | (refine quiet_value ?_ (fun W h => ?_) ?_; rotate_left; (· obtain ⟨f0, f1, f2, f3, f4⟩ := FW.out W h; go_simp; rfl); go_simp; go_big_quiet_on) | (refine quiet_call _ _ _ (fun W => ?_) C1.out ?_; (· go_simp; done); go_simp; go_big_quiet_on) | (refine quiet_call _ _ _ (fun W => ?_) C2.out ?_; (· go_simp; done); go_simp; go_big_quiet_on)))
  refine wpQuiet_nil ?_
  intro W hb
  refine ⟨rfl, ?_⟩
  have B7 := Lib.hid (B6.out.trans (hb.mono B6.out.size))
  clear FW C1 C2 hb G1 G2 L1 L2 L3 B6
  generalize W = w7 at *
  by_cases hil : i = ta.length
  · go_wp2_with fail
    go_ret
    exact ⟨rfl, B4.out.trans (B7.out.mono B4.out.size)⟩
  · have il2 : i < ta.length := by omega
    have il3 : (i : Int) + 1 ≤ (ta.length : Int) := by omega
    have wi : IntKind.i64.wrap ((i : Int) + 1) = (i : Int) + 1 := IntWalk.i64_in _ (by omega)
    have i1' : (0 : Int) ≤ (i : Int) + 1 := by omega
    have ti : ((i : Int) + 1).toNat = i + 1 := by omega
    have L1 : ¬ 9223372036854775807 < i + 1 := by omega
    have L2 : ¬ 9223372036854775807 < i + 1 + (ta.length - (i + 1)) := by omega
    have hsp : ta = ta.take i ++ ([ta[i]] ++ ta.drop (i + 1)) := by
      rw [List.singleton_append, ← List.drop_eq_getElem_cons il2, List.take_append_drop]
    obtain ⟨x, hx⟩ : ∃ x, x = ta[i] := ⟨_, rfl⟩
    rw [← hx] at hsp
    have HSP := Lib.hid hsp
    obtain ⟨d3, hd3⟩ : ∃ d, d = D s ta (ta.take i ++ ([c] ++ ta.drop (i + 1))) := ⟨_, rfl⟩
    have G3 : ¬ (s.put < d3) := by
      have h := one_put hp (ta.take i) (ta.drop (i + 1)) x c
      have h2 := putC_le s hp x c
      rw [← HSP.out] at h
      omega
    have lm : (ta.take i ++ ([c] ++ ta.drop (i + 1))).length ≤ 1000 := by simp; omega
    have C3 := Lib.hid (show ∀ W, Below w7.heap.size w7 W → Calls Try.prog 15 #[.agg #[.int .i64 s.swap, .int .i64 s.drop, .int .i64 s.add, .int .i64 s.put, .slice sa s.alike.length sc], .string ((B ta).extract 0 i ++ B [c] ++ (B ta).extract (i + 1) ta.length), .string (B ta)] W fun e w' => e = .returned (.int .i64 d3) ∧ Below w7.heap.size w7 w' from fun W h => by
      rw [mix2]
      exact (Distance_any s HS.out.bd sa sc _ ta W (PK W (B7.out.trans (h.mono B7.out.size))) LS lm (by omega)).mono fun e w' h2 => ⟨by rw [h2.1, hd3], h.trans (h2.2.mono h.size)⟩)
    have FW := Lib.hid (show ∀ W, Below w7.heap.size w7 W → (W.cell? ⟨sb, 0, none⟩ = some (.int .i64 s.swap) ∧ W.cell? ⟨sb, 1, none⟩ = some (.int .i64 s.drop) ∧ W.cell? ⟨sb, 2, none⟩ = some (.int .i64 s.add) ∧ W.cell? ⟨sb, 3, none⟩ = some (.int .i64 s.put) ∧ W.cell? ⟨sb, 4, none⟩ = some (.slice sa s.alike.length sc)) from fun W h => PC W (B7.out.trans (h.mono B7.out.size)))
    clear hd3 lm hsp hx
    go_upto_region 10 with fail
    refine wp_normal ?_
    refine wp_region_class (C := fun W => Below w7.heap.size w7 W) (by kernel_rfl) (by kernel_rfl) (Below.refl _ _).drew ?_
    repeat (first | go_big_quiet_skip | (go_big_quiet_want; first | (go_big_quiet_op; go_big_quiet_on) | (refine quiet_value ?_ (fun W h => ?_) ?_; rotate_left; (· obtain ⟨f0, f1, f2, f3, f4⟩ := FW.out W h; go_simp; rfl); go_simp; go_big_quiet_on) | (refine quiet_call _ _ _ (fun W => ?_) C3.out ?_; (· go_simp; done); go_simp; go_big_quiet_on)))
    refine wpQuiet_nil ?_
    intro W hb
    refine ⟨rfl, ?_⟩
    have B8 := Lib.hid (B7.out.trans (hb.mono B7.out.size))
    clear FW C3 hb G3 L1 L2 B7
    generalize W = w8 at *
    have RR := Lib.hid (Below.refl w8.heap.size w8)
    go_wp2_with fail
    go_loopw [12] (fun kv wr => ∃ k : Nat, kv = .int .i64 (k : Nat) ∧ k ≤ s.alike.length ∧ Below w8.heap.size w8 wr) (fun kv _ => s.alike.length - (intOf kv).toNat)
    case atStart => exact ⟨0, rfl, Nat.zero_le _, RR.out⟩
    case round =>
      obtain ⟨k, rfl, hk, hb⟩ := hrel
      clear RR
      have HB := Lib.hid hb
      have BD := Lib.hid (B8.out.trans (hb.mono B8.out.size))
      clear hb
      have k0 : (0 : Int) ≤ (k : Int) := by omega
      obtain ⟨q0, q1, q2, q3, q4⟩ := PC wr BD.out
      by_cases h1 : (k : Int) < (s.alike.length : Int)
      · obtain ⟨a', c', hv, hP⟩ := PK wr BD.out
        obtain ⟨rfl, rfl⟩ : sa = a' ∧ sc = c' := by simpa using hv
        have hks : k < s.alike.length := by omega
        obtain ⟨b, off, ha, hlt, hc⟩ := hP (by omega)
        subst ha
        obtain ⟨p0, p1, p2⟩ := hc k hks
        have AC := alike_cost s hp HS.out.alike k hks
        obtain ⟨y, hye⟩ : ∃ y, y = s.alike[k] := ⟨_, rfl⟩
        rw [← hye] at p0 p1 p2 AC
        clear hc hP hv hlt hye
        go_upto_region 16 with fail
        have YB := Lib.hid (Blk.new wr 46 [.int .u8 (y.a.toNat : Nat), .int .u8 (y.b.toNat : Nat), .int .i64 y.c])
        have b9 := (Below.refl wr.heap.size wr).alloc (Nat.le_refl _) (.cells #[.int .u8 (y.a.toNat : Nat), .int .u8 (y.b.toNat : Nat), .int .i64 y.c] 46)
        have HB9 := Lib.hid (HB.out.trans (b9.mono HB.out.size))
        have BD9 := Lib.hid (BD.out.trans (b9.mono BD.out.size))
        clear b9 p0 p1 p2 q0 q1 q2 q3 q4
        generalize hgw : wr.alloc _ = w9 at *
        generalize hgb : wr.heap.size = yb at *
        clear hgw hgb
        refine wp_normal ?_
        obtain ⟨d5, hd5⟩ : ∃ d, d = D s (ta.take i ++ ([y.a] ++ ta.drop (i + 1))) (ta.take i ++ ([y.b] ++ ta.drop (i + 1))) := ⟨_, rfl⟩
        have G5 : ¬ (min y.c s.put < d5) := by
          have h := one_put hp (ta.take i) (ta.drop (i + 1)) y.a y.b
          omega
        have lm1 : (ta.take i ++ ([y.b] ++ ta.drop (i + 1))).length ≤ 1000 := by simp; omega
        have lm2 : (ta.take i ++ ([y.a] ++ ta.drop (i + 1))).length ≤ 1000 := by simp; omega
        have sb1 : (B [y.b]).size = 1 := size_B [y.b]
        have sa1 : (B [y.a]).size = 1 := size_B [y.a]
        have L1 : ¬ 9223372036854775807 < i + 1 := by omega
        have L2 : ¬ 9223372036854775807 < i + 1 + (ta.length - (i + 1)) := by omega
        have C5 := Lib.hid (show ∀ W, Below w9.heap.size w9 W → Calls Try.prog 15 #[.agg #[.int .i64 s.swap, .int .i64 s.drop, .int .i64 s.add, .int .i64 s.put, .slice (some ⟨b, off, none⟩) s.alike.length sc], .string ((B ta).extract 0 i ++ B [y.b] ++ (B ta).extract (i + 1) ta.length), .string ((B ta).extract 0 i ++ B [y.a] ++ (B ta).extract (i + 1) ta.length)] W fun e w' => e = .returned (.int .i64 d5) ∧ Below W.heap.size W w' from fun W h => by
          rw [mix2, mix2]
          exact (Distance_any s HS.out.bd _ sc _ _ W (PK W (BD9.out.trans (h.mono BD9.out.size))) LS lm1 lm2).mono fun e w' h2 => ⟨by rw [h2.1, hd5], h2.2⟩)
        have FW := Lib.hid (show ∀ W, Below w9.heap.size w9 W → (W.cell? ⟨sb, 0, none⟩ = some (.int .i64 s.swap) ∧ W.cell? ⟨sb, 1, none⟩ = some (.int .i64 s.drop) ∧ W.cell? ⟨sb, 2, none⟩ = some (.int .i64 s.add) ∧ W.cell? ⟨sb, 3, none⟩ = some (.int .i64 s.put) ∧ W.cell? ⟨sb, 4, none⟩ = some (.slice (some ⟨b, off, none⟩) s.alike.length sc)) ∧ W.cell? ⟨yb, 0, none⟩ = some (.int .u8 (y.a.toNat : Nat)) ∧ W.cell? ⟨yb, 1, none⟩ = some (.int .u8 (y.b.toNat : Nat)) ∧ W.cell? ⟨yb, 2, none⟩ = some (.int .i64 y.c) from fun W h => ⟨PC W (BD9.out.trans (h.mono BD9.out.size)), (YB.out.below h).cell 0, (YB.out.below h).cell 1, (YB.out.below h).cell 2⟩)
        clear hd5 lm1 lm2 AC
        refine wp_region_inv3 34 (by kernel_rfl) (by kernel_rfl) (by kernel_rfl) (fun listed a V => ∃ f : Nat → Value, a = ({ tmps := #[Value.agg #[Value.int IntKind.u8 ↑c0, Value.int IntKind.u8 ↑c1, Value.int IntKind.u8 ↑c2, Value.int IntKind.u8 ↑c3, Value.slice ra rn rc], Value.slice a1 n1 k1, Value.agg #[Value.int IntKind.u8 ↑e0, Value.int IntKind.u8 ↑e1], Value.pointer (some { block := w.heap.size, off := 0 }), undef, Value.pointer (some { block := w.heap.size + 1, off := 0 }), u6, Value.bool true, Value.pointer (some { block := sb, off := 0 }), Value.string (B ta), Value.int IntKind.i64 ↑i, Value.string (B [c]), Value.int IntKind.i64 ↑k, Value.pointer (some { block := yb, off := 0 }), undef, Value.bool true, Value.agg #[Value.int IntKind.u8 ↑c0, Value.int IntKind.u8 ↑c1, Value.int IntKind.u8 ↑c2, Value.int IntKind.u8 ↑c3, Value.slice ra rn rc], Value.agg #[Value.int IntKind.i64 s.swap, Value.int IntKind.i64 s.drop, Value.int IntKind.i64 s.add, Value.int IntKind.i64 s.put, Value.slice (some { block := b, off := off }) s.alike.length sc], Value.slice a1 n1 k1, Value.string (B ta), Value.pointer (some { block := w.heap.size + 1, off := 0 }), Value.int IntKind.u8 ↑e0, Value.int IntKind.i64 ↑e0, Value.string (B ta), Value.int IntKind.i64 ↑ta.length, Value.int IntKind.i64 (↑ta.length + 1), Value.int IntKind.i64 ↑i, Value.pointer (some { block := w.heap.size + 1, off := 1 }), Value.int IntKind.u8 ↑e1, Value.int IntKind.u8 (↑e1 % 4), Value.int IntKind.u8 ↑c.toNat, Value.slice (some { block := cb, off := 0 }) 1 1, Value.string (B [c]), Value.agg #[Value.int IntKind.i64 s.swap, Value.int IntKind.i64 s.drop, Value.int IntKind.i64 s.add, Value.int IntKind.i64 s.put, Value.slice (some { block := b, off := off }) s.alike.length sc], Value.string (B ta), Value.int IntKind.i64 ↑i, Value.string ((B ta).extract 0 i), Value.string (B [c]), Value.string ((B ta).extract 0 i ++ B [c]), Value.string (B ta), Value.int IntKind.i64 ↑i, Value.string ((B ta).extract i ta.length), Value.string ((B ta).extract 0 i ++ B [c] ++ (B ta).extract i ta.length), Value.string (B ta), Value.int IntKind.i64 d1, Value.pointer (some { block := sb, off := 2 }), Value.int IntKind.i64 s.add, Value.bool false, Value.bool false, Value.agg #[Value.int IntKind.i64 s.swap, Value.int IntKind.i64 s.drop, Value.int IntKind.i64 s.add, Value.int IntKind.i64 s.put, Value.slice (some { block := b, off := off }) s.alike.length sc], Value.string (B ta), Value.string (B ta), Value.int IntKind.i64 ↑i, Value.string ((B ta).extract 0 i), Value.string (B [c]), Value.string ((B ta).extract 0 i ++ B [c]), Value.string (B ta), Value.int IntKind.i64 ↑i, Value.string ((B ta).extract i ta.length), Value.string ((B ta).extract 0 i ++ B [c] ++ (B ta).extract i ta.length), Value.int IntKind.i64 d2, Value.pointer (some { block := sb, off := 1 }), Value.int IntKind.i64 s.drop, Value.bool false, Value.bool false, Value.int IntKind.i64 ↑i, Value.string (B ta), Value.int IntKind.i64 ↑ta.length, Value.bool false, undef, Value.agg #[Value.int IntKind.i64 s.swap, Value.int IntKind.i64 s.drop, Value.int IntKind.i64 s.add, Value.int IntKind.i64 s.put, Value.slice (some { block := b, off := off }) s.alike.length sc], Value.string (B ta), Value.int IntKind.i64 ↑i, Value.string ((B ta).extract 0 i), Value.string (B [c]), Value.string ((B ta).extract 0 i ++ B [c]), Value.string (B ta), Value.int IntKind.i64 ↑i, Value.int IntKind.i64 (↑i + 1), Value.string ((B ta).extract (i + 1) ta.length), Value.string ((B ta).extract 0 i ++ B [c] ++ (B ta).extract (i + 1) ta.length), Value.string (B ta), Value.int IntKind.i64 d3, Value.pointer (some { block := sb, off := 3 }), Value.int IntKind.i64 s.put, Value.bool false, Value.int IntKind.i64 ↑k, Value.pointer (some { block := sb, off := 4 }), Value.slice (some { block := b, off := off }) s.alike.length sc, Value.int IntKind.i64 ↑s.alike.length, Value.bool true, u91, u92, Value.pointer (some { block := sb, off := 4 }), Value.slice (some { block := b, off := off }) s.alike.length sc, Value.int IntKind.i64 ↑k, Value.pointer (some { block := b, off := off + k * 3 }), Value.agg #[Value.int IntKind.u8 ↑y.a.toNat, Value.int IntKind.u8 ↑y.b.toNat, Value.int IntKind.i64 y.c], (f 0), (f 1), (f 2), (f 3), (f 4), (f 5), (f 6), (f 7), (f 8), (f 9), (f 10), (f 11), (f 12), (f 13), (f 14), (f 15), (f 16), (f 17), (f 18), (f 19), (f 20), (f 21), (f 22), (f 23), (f 24), (f 25), (f 26), (f 27), (f 28), (f 29), (f 30), (f 31), (f 32), (f 33), undef, undef, undef, undef, undef, undef, undef, undef, undef, undef, undef, undef, undef, undef, undef, undef, undef, undef, undef, undef, undef, undef, undef, undef, undef, undef, undef, undef, undef, undef, undef, undef, undef, undef, undef, undef, undef], defers := [] } : Act) ∧ (∀ j, j < 34 ∧ j ≠ 6 ∧ j ≠ 19 → listed.getD j false = true → f j = ([.agg #[.int .i64 s.swap, .int .i64 s.drop, .int .i64 s.add, .int .i64 s.put, .slice (some ⟨b, off, none⟩) s.alike.length sc], .string (B ta), .int .i64 (i : Int), .string ((B ta).extract 0 i), .pointer (some ⟨yb, 1, none⟩), .int .u8 (y.b.toNat : Int), undef, .string (B [y.b]), .string ((B ta).extract 0 i ++ B [y.b]), .string (B ta), .int .i64 (i : Int), .int .i64 ((i : Int) + 1), .string ((B ta).extract (i + 1) ta.length), .string ((B ta).extract 0 i ++ B [y.b] ++ (B ta).extract (i + 1) ta.length), .string (B ta), .int .i64 (i : Int), .string ((B ta).extract 0 i), .pointer (some ⟨yb, 0, none⟩), .int .u8 (y.a.toNat : Int), undef, .string (B [y.a]), .string ((B ta).extract 0 i ++ B [y.a]), .string (B ta), .int .i64 (i : Int), .int .i64 ((i : Int) + 1), .string ((B ta).extract (i + 1) ta.length), .string ((B ta).extract 0 i ++ B [y.a] ++ (B ta).extract (i + 1) ta.length), .int .i64 d5, .pointer (some ⟨yb, 2, none⟩), .int .i64 y.c, .pointer (some ⟨sb, 3, none⟩), .int .i64 s.put, .int .i64 (min y.c s.put), .bool false] : List Value).getD j undef) ∧ (listed.getD 6 false = true → BtsOwn V w9.heap.size (f 6) [y.b]) ∧ (listed.getD 19 false = true → BtsOwn V w9.heap.size (f 19) [y.a]) ∧ Below w9.heap.size w9 V) ?_ ?_ ?_
        · exact ⟨fun k => (#[u98, u99, u100, u101, u102, u103, u104, u105, u106, u107, u108, u109, u110, u111, u112, u113, u114, u115, u116, u117, u118, u119, u120, u121, u122, u123, u124, u125, u126, u127, u128, u129, u130, u131] : Array Value).getD k undef, rfl, fun j _ h => (none_listed h).elim, fun h => (none_listed h).elim, fun h => (none_listed h).elim, (Below.refl _ _).drew⟩
        · rintro listed a V k ⟨f, rfl, hF, h6, h19, hB⟩ hr hk
          obtain ⟨⟨q0, q1, q2, q3, q4⟩, y0, y1, y2⟩ := FW.out V hB
          rcases (show k = 0 ∨ k = 1 ∨ k = 2 ∨ k = 3 ∨ k = 4 ∨ k = 5 ∨ k = 6 ∨ k = 7 ∨ k = 8 ∨ k = 9 ∨ k = 10 ∨ k = 11 ∨ k = 12 ∨ k = 13 ∨ k = 14 ∨ k = 15 ∨ k = 16 ∨ k = 17 ∨ k = 18 ∨ k = 19 ∨ k = 20 ∨ k = 21 ∨ k = 22 ∨ k = 23 ∨ k = 24 ∨ k = 25 ∨ k = 26 ∨ k = 27 ∨ k = 28 ∨ k = 29 ∨ k = 30 ∨ k = 31 ∨ k = 32 ∨ k = 33 by omega) with rfl | rfl | rfl | rfl | rfl | rfl | rfl | rfl | rfl | rfl | rfl | rfl | rfl | rfl | rfl | rfl | rfl | rfl | rfl | rfl | rfl | rfl | rfl | rfl | rfl | rfl | rfl | rfl | rfl | rfl | rfl | rfl | rfl | rfl
          · exact wpOp_value (w' := V) (.agg #[.int .i64 s.swap, .int .i64 s.drop, .int .i64 s.add, .int .i64 s.put, .slice (some ⟨b, off, none⟩) s.alike.length sc]) rfl rfl (by go_simp) ⟨upd f 0 (.agg #[.int .i64 s.swap, .int .i64 s.drop, .int .i64 s.add, .int .i64 s.put, .slice (some ⟨b, off, none⟩) s.alike.length sc]), by kernel_rfl, sg_upd hF (by rfl), sg_own h6 (Below.refl _ _) (by decide), sg_own h19 (Below.refl _ _) (by decide), hB⟩
          · exact wpOp_value (w' := V) (.string (B ta)) rfl rfl (by go_simp) ⟨upd f 1 (.string (B ta)), by kernel_rfl, sg_upd hF (by rfl), sg_own h6 (Below.refl _ _) (by decide), sg_own h19 (Below.refl _ _) (by decide), hB⟩
          · exact wpOp_value (w' := V) (.int .i64 (i : Int)) rfl rfl (by go_simp) ⟨upd f 2 (.int .i64 (i : Int)), by kernel_rfl, sg_upd hF (by rfl), sg_own h6 (Below.refl _ _) (by decide), sg_own h19 (Below.refl _ _) (by decide), hB⟩
          · have d1_ := hF 1 (by decide) (ready_dep hr rfl (k := 1) (by kernel_rfl))
            change f 1 = .string (B ta) at d1_
            have d2_ := hF 2 (by decide) (ready_dep hr rfl (k := 2) (by kernel_rfl))
            change f 2 = .int .i64 (i : Int) at d2_
            exact wpOp_value (w' := V) (.string ((B ta).extract 0 i)) rfl rfl (by rw [d1_, d2_]; go_simp) ⟨upd f 3 (.string ((B ta).extract 0 i)), by kernel_rfl, sg_upd hF (by rfl), sg_own h6 (Below.refl _ _) (by decide), sg_own h19 (Below.refl _ _) (by decide), hB⟩
          · exact wpOp_value (w' := V) (.pointer (some ⟨yb, 1, none⟩)) rfl rfl (by go_simp) ⟨upd f 4 (.pointer (some ⟨yb, 1, none⟩)), by kernel_rfl, sg_upd hF (by rfl), sg_own h6 (Below.refl _ _) (by decide), sg_own h19 (Below.refl _ _) (by decide), hB⟩
          · have d4_ := hF 4 (by decide) (ready_dep hr rfl (k := 4) (by kernel_rfl))
            change f 4 = .pointer (some ⟨yb, 1, none⟩) at d4_
            exact wpOp_value (w' := V) (.int .u8 (y.b.toNat : Int)) rfl rfl (by rw [d4_]; go_simp) ⟨upd f 5 (.int .u8 (y.b.toNat : Int)), by kernel_rfl, sg_upd hF (by rfl), sg_own h6 (Below.refl _ _) (by decide), sg_own h19 (Below.refl _ _) (by decide), hB⟩
          · have d5_ := hF 5 (by decide) (ready_dep hr rfl (k := 5) (by kernel_rfl))
            change f 5 = .int .u8 (y.b.toNat : Int) at d5_
            have bn := (Below.refl V.heap.size V).alloc (Nat.le_refl _) (.cells #[.int .u8 (y.b.toNat : Nat)] 5)
            have nw := sg_new V w9.heap.size y.b hB.size
            exact wpOp_value (w' := (V.alloc (.cells #[.int .u8 (y.b.toNat : Nat)] 5))) (.slice (some ⟨V.heap.size, 0, none⟩) 1 1) rfl rfl (by rw [d5_]; go_simp) ⟨upd f 6 (.slice (some ⟨V.heap.size, 0, none⟩) 1 1), by kernel_rfl, sg_skip hF (by decide), fun _ => nw, sg_own h19 bn (by decide), hB.alloc hB.size _⟩
          · have ow := h6 (ready_dep hr rfl (k := 6) (by kernel_rfl))
            obtain ⟨xa, xc, hx⟩ := ow.shape
            rw [hx] at ow
            have hx' : f 6 = .slice xa 1 xc := hx
            have st : (convert 26 9 (.slice xa 1 xc)).run Try.prog V = .ok (.string (B [y.b])) V := ow.str
            exact wpOp_value (w' := V) (.string (B [y.b])) rfl rfl (by rw [hx']; go_simp) ⟨upd f 7 (.string (B [y.b])), by kernel_rfl, sg_upd hF (by rfl), sg_own h6 (Below.refl _ _) (by decide), sg_own h19 (Below.refl _ _) (by decide), hB⟩
          · have d3_ := hF 3 (by decide) (ready_dep hr rfl (k := 3) (by kernel_rfl))
            change f 3 = .string ((B ta).extract 0 i) at d3_
            have d7_ := hF 7 (by decide) (ready_dep hr rfl (k := 7) (by kernel_rfl))
            change f 7 = .string (B [y.b]) at d7_
            exact wpOp_value (w' := V) (.string ((B ta).extract 0 i ++ B [y.b])) rfl rfl (by rw [d3_, d7_]; go_simp) ⟨upd f 8 (.string ((B ta).extract 0 i ++ B [y.b])), by kernel_rfl, sg_upd hF (by rfl), sg_own h6 (Below.refl _ _) (by decide), sg_own h19 (Below.refl _ _) (by decide), hB⟩
          · exact wpOp_value (w' := V) (.string (B ta)) rfl rfl (by go_simp) ⟨upd f 9 (.string (B ta)), by kernel_rfl, sg_upd hF (by rfl), sg_own h6 (Below.refl _ _) (by decide), sg_own h19 (Below.refl _ _) (by decide), hB⟩
          · exact wpOp_value (w' := V) (.int .i64 (i : Int)) rfl rfl (by go_simp) ⟨upd f 10 (.int .i64 (i : Int)), by kernel_rfl, sg_upd hF (by rfl), sg_own h6 (Below.refl _ _) (by decide), sg_own h19 (Below.refl _ _) (by decide), hB⟩
          · have d10_ := hF 10 (by decide) (ready_dep hr rfl (k := 10) (by kernel_rfl))
            change f 10 = .int .i64 (i : Int) at d10_
            exact wpOp_value (w' := V) (.int .i64 ((i : Int) + 1)) rfl rfl (by rw [d10_]; go_simp) ⟨upd f 11 (.int .i64 ((i : Int) + 1)), by kernel_rfl, sg_upd hF (by rfl), sg_own h6 (Below.refl _ _) (by decide), sg_own h19 (Below.refl _ _) (by decide), hB⟩
          · have d9_ := hF 9 (by decide) (ready_dep hr rfl (k := 9) (by kernel_rfl))
            change f 9 = .string (B ta) at d9_
            have d11_ := hF 11 (by decide) (ready_dep hr rfl (k := 11) (by kernel_rfl))
            change f 11 = .int .i64 ((i : Int) + 1) at d11_
            exact wpOp_value (w' := V) (.string ((B ta).extract (i + 1) ta.length)) rfl rfl (by rw [d9_, d11_]; go_simp) ⟨upd f 12 (.string ((B ta).extract (i + 1) ta.length)), by kernel_rfl, sg_upd hF (by rfl), sg_own h6 (Below.refl _ _) (by decide), sg_own h19 (Below.refl _ _) (by decide), hB⟩
          · have d8_ := hF 8 (by decide) (ready_dep hr rfl (k := 8) (by kernel_rfl))
            change f 8 = .string ((B ta).extract 0 i ++ B [y.b]) at d8_
            have d12_ := hF 12 (by decide) (ready_dep hr rfl (k := 12) (by kernel_rfl))
            change f 12 = .string ((B ta).extract (i + 1) ta.length) at d12_
            exact wpOp_value (w' := V) (.string ((B ta).extract 0 i ++ B [y.b] ++ (B ta).extract (i + 1) ta.length)) rfl rfl (by rw [d8_, d12_]; go_simp) ⟨upd f 13 (.string ((B ta).extract 0 i ++ B [y.b] ++ (B ta).extract (i + 1) ta.length)), by kernel_rfl, sg_upd hF (by rfl), sg_own h6 (Below.refl _ _) (by decide), sg_own h19 (Below.refl _ _) (by decide), hB⟩
          · exact wpOp_value (w' := V) (.string (B ta)) rfl rfl (by go_simp) ⟨upd f 14 (.string (B ta)), by kernel_rfl, sg_upd hF (by rfl), sg_own h6 (Below.refl _ _) (by decide), sg_own h19 (Below.refl _ _) (by decide), hB⟩
          · exact wpOp_value (w' := V) (.int .i64 (i : Int)) rfl rfl (by go_simp) ⟨upd f 15 (.int .i64 (i : Int)), by kernel_rfl, sg_upd hF (by rfl), sg_own h6 (Below.refl _ _) (by decide), sg_own h19 (Below.refl _ _) (by decide), hB⟩
          · have d14_ := hF 14 (by decide) (ready_dep hr rfl (k := 14) (by kernel_rfl))
            change f 14 = .string (B ta) at d14_
            have d15_ := hF 15 (by decide) (ready_dep hr rfl (k := 15) (by kernel_rfl))
            change f 15 = .int .i64 (i : Int) at d15_
            exact wpOp_value (w' := V) (.string ((B ta).extract 0 i)) rfl rfl (by rw [d14_, d15_]; go_simp) ⟨upd f 16 (.string ((B ta).extract 0 i)), by kernel_rfl, sg_upd hF (by rfl), sg_own h6 (Below.refl _ _) (by decide), sg_own h19 (Below.refl _ _) (by decide), hB⟩
          · exact wpOp_value (w' := V) (.pointer (some ⟨yb, 0, none⟩)) rfl rfl (by go_simp) ⟨upd f 17 (.pointer (some ⟨yb, 0, none⟩)), by kernel_rfl, sg_upd hF (by rfl), sg_own h6 (Below.refl _ _) (by decide), sg_own h19 (Below.refl _ _) (by decide), hB⟩
          · have d17_ := hF 17 (by decide) (ready_dep hr rfl (k := 17) (by kernel_rfl))
            change f 17 = .pointer (some ⟨yb, 0, none⟩) at d17_
            exact wpOp_value (w' := V) (.int .u8 (y.a.toNat : Int)) rfl rfl (by rw [d17_]; go_simp) ⟨upd f 18 (.int .u8 (y.a.toNat : Int)), by kernel_rfl, sg_upd hF (by rfl), sg_own h6 (Below.refl _ _) (by decide), sg_own h19 (Below.refl _ _) (by decide), hB⟩
          · have d18_ := hF 18 (by decide) (ready_dep hr rfl (k := 18) (by kernel_rfl))
            change f 18 = .int .u8 (y.a.toNat : Int) at d18_
            have bn := (Below.refl V.heap.size V).alloc (Nat.le_refl _) (.cells #[.int .u8 (y.a.toNat : Nat)] 5)
            have nw := sg_new V w9.heap.size y.a hB.size
            exact wpOp_value (w' := (V.alloc (.cells #[.int .u8 (y.a.toNat : Nat)] 5))) (.slice (some ⟨V.heap.size, 0, none⟩) 1 1) rfl rfl (by rw [d18_]; go_simp) ⟨upd f 19 (.slice (some ⟨V.heap.size, 0, none⟩) 1 1), by kernel_rfl, sg_skip hF (by decide), sg_own h6 bn (by decide), fun _ => nw, hB.alloc hB.size _⟩
          · have ow := h19 (ready_dep hr rfl (k := 19) (by kernel_rfl))
            obtain ⟨xa, xc, hx⟩ := ow.shape
            rw [hx] at ow
            have hx' : f 19 = .slice xa 1 xc := hx
            have st : (convert 26 9 (.slice xa 1 xc)).run Try.prog V = .ok (.string (B [y.a])) V := ow.str
            exact wpOp_value (w' := V) (.string (B [y.a])) rfl rfl (by rw [hx']; go_simp) ⟨upd f 20 (.string (B [y.a])), by kernel_rfl, sg_upd hF (by rfl), sg_own h6 (Below.refl _ _) (by decide), sg_own h19 (Below.refl _ _) (by decide), hB⟩
          · have d16_ := hF 16 (by decide) (ready_dep hr rfl (k := 16) (by kernel_rfl))
            change f 16 = .string ((B ta).extract 0 i) at d16_
            have d20_ := hF 20 (by decide) (ready_dep hr rfl (k := 20) (by kernel_rfl))
            change f 20 = .string (B [y.a]) at d20_
            exact wpOp_value (w' := V) (.string ((B ta).extract 0 i ++ B [y.a])) rfl rfl (by rw [d16_, d20_]; go_simp) ⟨upd f 21 (.string ((B ta).extract 0 i ++ B [y.a])), by kernel_rfl, sg_upd hF (by rfl), sg_own h6 (Below.refl _ _) (by decide), sg_own h19 (Below.refl _ _) (by decide), hB⟩
          · exact wpOp_value (w' := V) (.string (B ta)) rfl rfl (by go_simp) ⟨upd f 22 (.string (B ta)), by kernel_rfl, sg_upd hF (by rfl), sg_own h6 (Below.refl _ _) (by decide), sg_own h19 (Below.refl _ _) (by decide), hB⟩
          · exact wpOp_value (w' := V) (.int .i64 (i : Int)) rfl rfl (by go_simp) ⟨upd f 23 (.int .i64 (i : Int)), by kernel_rfl, sg_upd hF (by rfl), sg_own h6 (Below.refl _ _) (by decide), sg_own h19 (Below.refl _ _) (by decide), hB⟩
          · have d23_ := hF 23 (by decide) (ready_dep hr rfl (k := 23) (by kernel_rfl))
            change f 23 = .int .i64 (i : Int) at d23_
            exact wpOp_value (w' := V) (.int .i64 ((i : Int) + 1)) rfl rfl (by rw [d23_]; go_simp) ⟨upd f 24 (.int .i64 ((i : Int) + 1)), by kernel_rfl, sg_upd hF (by rfl), sg_own h6 (Below.refl _ _) (by decide), sg_own h19 (Below.refl _ _) (by decide), hB⟩
          · have d22_ := hF 22 (by decide) (ready_dep hr rfl (k := 22) (by kernel_rfl))
            change f 22 = .string (B ta) at d22_
            have d24_ := hF 24 (by decide) (ready_dep hr rfl (k := 24) (by kernel_rfl))
            change f 24 = .int .i64 ((i : Int) + 1) at d24_
            exact wpOp_value (w' := V) (.string ((B ta).extract (i + 1) ta.length)) rfl rfl (by rw [d22_, d24_]; go_simp) ⟨upd f 25 (.string ((B ta).extract (i + 1) ta.length)), by kernel_rfl, sg_upd hF (by rfl), sg_own h6 (Below.refl _ _) (by decide), sg_own h19 (Below.refl _ _) (by decide), hB⟩
          · have d21_ := hF 21 (by decide) (ready_dep hr rfl (k := 21) (by kernel_rfl))
            change f 21 = .string ((B ta).extract 0 i ++ B [y.a]) at d21_
            have d25_ := hF 25 (by decide) (ready_dep hr rfl (k := 25) (by kernel_rfl))
            change f 25 = .string ((B ta).extract (i + 1) ta.length) at d25_
            exact wpOp_value (w' := V) (.string ((B ta).extract 0 i ++ B [y.a] ++ (B ta).extract (i + 1) ta.length)) rfl rfl (by rw [d21_, d25_]; go_simp) ⟨upd f 26 (.string ((B ta).extract 0 i ++ B [y.a] ++ (B ta).extract (i + 1) ta.length)), by kernel_rfl, sg_upd hF (by rfl), sg_own h6 (Below.refl _ _) (by decide), sg_own h19 (Below.refl _ _) (by decide), hB⟩
          · have d0_ := hF 0 (by decide) (ready_dep hr rfl (k := 0) (by kernel_rfl))
            change f 0 = .agg #[.int .i64 s.swap, .int .i64 s.drop, .int .i64 s.add, .int .i64 s.put, .slice (some ⟨b, off, none⟩) s.alike.length sc] at d0_
            have d13_ := hF 13 (by decide) (ready_dep hr rfl (k := 13) (by kernel_rfl))
            change f 13 = .string ((B ta).extract 0 i ++ B [y.b] ++ (B ta).extract (i + 1) ta.length) at d13_
            have d26_ := hF 26 (by decide) (ready_dep hr rfl (k := 26) (by kernel_rfl))
            change f 26 = .string ((B ta).extract 0 i ++ B [y.a] ++ (B ta).extract (i + 1) ta.length) at d26_
            refine wpOp_call 15 #[.agg #[.int .i64 s.swap, .int .i64 s.drop, .int .i64 s.add, .int .i64 s.put, .slice (some ⟨b, off, none⟩) s.alike.length sc], .string ((B ta).extract 0 i ++ B [y.b] ++ (B ta).extract (i + 1) ta.length), .string ((B ta).extract 0 i ++ B [y.a] ++ (B ta).extract (i + 1) ta.length)] rfl rfl (by rw [d0_, d13_, d26_]; go_simp) (C5.out V hB) fun e w' h => ?_
            exact ⟨.int .i64 d5, h.1, ⟨upd f 27 (.int .i64 d5), by kernel_rfl, sg_upd hF (by rfl), sg_own h6 h.2 (by decide), sg_own h19 h.2 (by decide), hB.trans (h.2.mono hB.size)⟩⟩
          · exact wpOp_value (w' := V) (.pointer (some ⟨yb, 2, none⟩)) rfl rfl (by go_simp) ⟨upd f 28 (.pointer (some ⟨yb, 2, none⟩)), by kernel_rfl, sg_upd hF (by rfl), sg_own h6 (Below.refl _ _) (by decide), sg_own h19 (Below.refl _ _) (by decide), hB⟩
          · have d28_ := hF 28 (by decide) (ready_dep hr rfl (k := 28) (by kernel_rfl))
            change f 28 = .pointer (some ⟨yb, 2, none⟩) at d28_
            exact wpOp_value (w' := V) (.int .i64 y.c) rfl rfl (by rw [d28_]; go_simp) ⟨upd f 29 (.int .i64 y.c), by kernel_rfl, sg_upd hF (by rfl), sg_own h6 (Below.refl _ _) (by decide), sg_own h19 (Below.refl _ _) (by decide), hB⟩
          · exact wpOp_value (w' := V) (.pointer (some ⟨sb, 3, none⟩)) rfl rfl (by go_simp) ⟨upd f 30 (.pointer (some ⟨sb, 3, none⟩)), by kernel_rfl, sg_upd hF (by rfl), sg_own h6 (Below.refl _ _) (by decide), sg_own h19 (Below.refl _ _) (by decide), hB⟩
          · have d30_ := hF 30 (by decide) (ready_dep hr rfl (k := 30) (by kernel_rfl))
            change f 30 = .pointer (some ⟨sb, 3, none⟩) at d30_
            exact wpOp_value (w' := V) (.int .i64 s.put) rfl rfl (by rw [d30_]; go_simp) ⟨upd f 31 (.int .i64 s.put), by kernel_rfl, sg_upd hF (by rfl), sg_own h6 (Below.refl _ _) (by decide), sg_own h19 (Below.refl _ _) (by decide), hB⟩
          · have d29_ := hF 29 (by decide) (ready_dep hr rfl (k := 29) (by kernel_rfl))
            change f 29 = .int .i64 y.c at d29_
            have d31_ := hF 31 (by decide) (ready_dep hr rfl (k := 31) (by kernel_rfl))
            change f 31 = .int .i64 s.put at d31_
            exact wpOp_value (w' := V) (.int .i64 (min y.c s.put)) rfl rfl (by rw [d29_, d31_]; go_simp; split <;> (rw [Int.min_def]; split <;> omega)) ⟨upd f 32 (.int .i64 (min y.c s.put)), by kernel_rfl, sg_upd hF (by rfl), sg_own h6 (Below.refl _ _) (by decide), sg_own h19 (Below.refl _ _) (by decide), hB⟩
          · have d27_ := hF 27 (by decide) (ready_dep hr rfl (k := 27) (by kernel_rfl))
            change f 27 = .int .i64 d5 at d27_
            have d32_ := hF 32 (by decide) (ready_dep hr rfl (k := 32) (by kernel_rfl))
            change f 32 = .int .i64 (min y.c s.put) at d32_
            exact wpOp_value (w' := V) (.bool false) rfl rfl (by rw [d27_, d32_]; go_simp) ⟨upd f 33 (.bool false), by kernel_rfl, sg_upd hF (by rfl), sg_own h6 (Below.refl _ _) (by decide), sg_own h19 (Below.refl _ _) (by decide), hB⟩
        · rintro listed a V ⟨f, rfl, hF, h6, h19, hB⟩ hall
          have d33 := hF 33 (by decide) (hall 33 (by decide))
          change f 33 = .bool false at d33
          refine ⟨rfl, ?_⟩
          obtain ⟨z0, z1, z2, z3, z4, z5, z6, z7, z8, z9, z10, z11, z12, z13, z14, z15, z16, z17, z18, z19, z20, z21, z22, z23, z24, z25, z26, z27, z28, z29, z30, z31, z32, z33, hz⟩ : ∃ z0 z1 z2 z3 z4 z5 z6 z7 z8 z9 z10 z11 z12 z13 z14 z15 z16 z17 z18 z19 z20 z21 z22 z23 z24 z25 z26 z27 z28 z29 z30 z31 z32 z33 : Value, f 0 = z0 ∧ f 1 = z1 ∧ f 2 = z2 ∧ f 3 = z3 ∧ f 4 = z4 ∧ f 5 = z5 ∧ f 6 = z6 ∧ f 7 = z7 ∧ f 8 = z8 ∧ f 9 = z9 ∧ f 10 = z10 ∧ f 11 = z11 ∧ f 12 = z12 ∧ f 13 = z13 ∧ f 14 = z14 ∧ f 15 = z15 ∧ f 16 = z16 ∧ f 17 = z17 ∧ f 18 = z18 ∧ f 19 = z19 ∧ f 20 = z20 ∧ f 21 = z21 ∧ f 22 = z22 ∧ f 23 = z23 ∧ f 24 = z24 ∧ f 25 = z25 ∧ f 26 = z26 ∧ f 27 = z27 ∧ f 28 = z28 ∧ f 29 = z29 ∧ f 30 = z30 ∧ f 31 = z31 ∧ f 32 = z32 ∧ f 33 = z33 := ⟨_, _, _, _, _, _, _, _, _, _, _, _, _, _, _, _, _, _, _, _, _, _, _, _, _, _, _, _, _, _, _, _, _, _, rfl, rfl, rfl, rfl, rfl, rfl, rfl, rfl, rfl, rfl, rfl, rfl, rfl, rfl, rfl, rfl, rfl, rfl, rfl, rfl, rfl, rfl, rfl, rfl, rfl, rfl, rfl, rfl, rfl, rfl, rfl, rfl, rfl, rfl⟩
          obtain ⟨h0_, h1_, h2_, h3_, h4_, h5_, h6_, h7_, h8_, h9_, h10_, h11_, h12_, h13_, h14_, h15_, h16_, h17_, h18_, h19_, h20_, h21_, h22_, h23_, h24_, h25_, h26_, h27_, h28_, h29_, h30_, h31_, h32_, h33_⟩ := hz
          rw [d33] at h33_
          subst h33_
          rw [h0_, h1_, h2_, h3_, h4_, h5_, h6_, h7_, h8_, h9_, h10_, h11_, h12_, h13_, h14_, h15_, h16_, h17_, h18_, h19_, h20_, h21_, h22_, h23_, h24_, h25_, h26_, h27_, h28_, h29_, h30_, h31_, h32_, d33]
          have HN := Lib.hid (HB9.out.trans (hB.mono HB9.out.size))
          clear hF h6 h19 hB hall d33 h0_ h1_ h2_ h3_ h4_ h5_ h6_ h7_ h8_ h9_ h10_ h11_ h12_ h13_ h14_ h15_ h16_ h17_ h18_ h19_ h20_ h21_ h22_ h23_ h24_ h25_ h26_ h27_ h28_ h29_ h30_ h31_ h32_ FW C5
          generalize V = w10 at *
          dsimp only [Act.put]
          go_wp2_with fail
          go_roundw
          case rel => exact ⟨k + 1, by go_num, by omega, HN.out⟩
          case measure => simp [intOf]; omega
      · by_cases hi2 : i + 1 = ta.length
        · have hi3 : (i : Int) + 1 = (ta.length : Int) := by omega
          go_wp2_with fail
          go_ret
          exact ⟨rfl, B4.out.trans (BD.out.mono B4.out.size)⟩
        · have il4 : i + 1 < ta.length := by omega
          have hi3 : ¬ ((i : Int) + 1 = (ta.length : Int)) := by omega
          have il5 : (i : Int) + 2 ≤ (ta.length : Int) := by omega
          have w2i : IntKind.i64.wrap ((i : Int) + 2) = (i : Int) + 2 := IntWalk.i64_in _ (by omega)
          have t2i : ((i : Int) + 2).toNat = i + 2 := by omega
          have i2' : (0 : Int) ≤ (i : Int) + 2 := by omega
          have i3' : (i : Int) ≤ (i : Int) + 1 := by omega
          have i4' : (i : Int) + 1 ≤ (i : Int) + 2 := by omega
          have L3 : ¬ 9223372036854775807 < i + (min (i + 2) ta.length - (i + 1)) := by omega
          have L4 : ¬ 9223372036854775807 < i + (min (i + 2) ta.length - (i + 1)) + (min (i + 1) ta.length - i) := by omega
          have L5 : ¬ 9223372036854775807 < i + (min (i + 2) ta.length - (i + 1)) + (min (i + 1) ta.length - i) + (ta.length - (i + 2)) := by omega
          have FW := Lib.hid (show ∀ W, Below wr.heap.size wr W → (W.cell? ⟨sb, 0, none⟩ = some (.int .i64 s.swap) ∧ W.cell? ⟨sb, 1, none⟩ = some (.int .i64 s.drop) ∧ W.cell? ⟨sb, 2, none⟩ = some (.int .i64 s.add) ∧ W.cell? ⟨sb, 3, none⟩ = some (.int .i64 s.put) ∧ W.cell? ⟨sb, 4, none⟩ = some (.slice sa s.alike.length sc)) from fun W h => PC W (BD.out.trans (h.mono BD.out.size)))
          go_upto_region 20 with fail
          refine wp_normal ?_
          refine wp_region_class (C := fun W => Below wr.heap.size wr W) (by kernel_rfl) (by kernel_rfl) (Below.refl _ _).drew ?_
          repeat (first | go_big_quiet_skip | (go_big_quiet_want; first | (go_big_quiet_op; go_big_quiet_on) | (refine quiet_value ?_ (fun W h => ?_) ?_; rotate_left; (· obtain ⟨f0, f1, f2, f3, f4⟩ := FW.out W h; go_simp; rfl); go_simp; go_big_quiet_on)))
          refine wpQuiet_nil ?_
          intro W hb
          refine ⟨rfl, ?_⟩
          have B9 := Lib.hid (BD.out.trans (hb.mono BD.out.size))
          clear FW hb L3 L4 L5 q0 q1 q2 q3 q4
          generalize W = w9 at *
          obtain ⟨d4, hd4⟩ : ∃ d, d = D s ta (ta.take i ++ ([ta[i + 1], ta[i]] ++ ta.drop (i + 2))) := ⟨_, rfl⟩
          have G4 : (d4 ≤ s.swap) = True := by
            have h := one_swap hp (ta.take i) (ta.drop (i + 2)) ta[i] ta[i + 1]
            rw [← two_at ta i il4, ← hd4] at h
            exact eq_true h
          have lm : (ta.take i ++ ([ta[i + 1], ta[i]] ++ ta.drop (i + 2))).length ≤ 1000 := by simp; omega
          have C4 := Lib.hid (show ∀ W, Below w9.heap.size w9 W → Calls Try.prog 15 #[.agg #[.int .i64 s.swap, .int .i64 s.drop, .int .i64 s.add, .int .i64 s.put, .slice sa s.alike.length sc], .string ((B ta).extract 0 i ++ (B ta).extract (i + 1) (i + 2) ++ (B ta).extract i (i + 1) ++ (B ta).extract (i + 2) ta.length), .string (B ta)] W fun e w' => e = .returned (.int .i64 d4) ∧ Below w9.heap.size w9 w' from fun W h => by
            rw [mix3 ta i il4]
            exact (Distance_any s HS.out.bd sa sc _ ta W (PK W (B9.out.trans (h.mono B9.out.size))) LS lm (by omega)).mono fun e w' h2 => ⟨by rw [h2.1, hd4], h.trans (h2.2.mono h.size)⟩)
          have FW := Lib.hid (show ∀ W, Below w9.heap.size w9 W → (W.cell? ⟨sb, 0, none⟩ = some (.int .i64 s.swap) ∧ W.cell? ⟨sb, 1, none⟩ = some (.int .i64 s.drop) ∧ W.cell? ⟨sb, 2, none⟩ = some (.int .i64 s.add) ∧ W.cell? ⟨sb, 3, none⟩ = some (.int .i64 s.put) ∧ W.cell? ⟨sb, 4, none⟩ = some (.slice sa s.alike.length sc)) from fun W h => PC W (B9.out.trans (h.mono B9.out.size)))
          clear hd4 lm
          go_upto_region 21 with fail
          refine wp_normal ?_
          refine wp_region_class (C := fun W => Below w9.heap.size w9 W) (by kernel_rfl) (by kernel_rfl) (Below.refl _ _).drew ?_
          repeat (first | go_big_quiet_skip | (go_big_quiet_want; first | (go_big_quiet_op; go_big_quiet_on) | (refine quiet_value ?_ (fun W h => ?_) ?_; rotate_left; (· obtain ⟨f0, f1, f2, f3, f4⟩ := FW.out W h; go_simp; rfl); go_simp; go_big_quiet_on) | (refine quiet_call _ _ _ (fun W => ?_) C4.out ?_; (· go_simp; done); go_simp; go_big_quiet_on)))
          refine wpQuiet_nil ?_
          intro W hb
          refine ⟨rfl, ?_⟩
          have B10 := Lib.hid (B4.out.trans ((B9.out.trans (hb.mono B9.out.size)).mono B4.out.size))
          clear FW hb C4
          go_wp2_with fail
          go_ret
          exact ⟨rfl, B10.out⟩
end Go.Proofs.Ytadaijepalhohaa
