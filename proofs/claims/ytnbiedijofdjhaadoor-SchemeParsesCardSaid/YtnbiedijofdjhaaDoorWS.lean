/-
  The reference's head and rule: the lines of a text.
-/
import Derived.Test.YtnbiedijofdjhaaDoorWQ
import Derived.Test.YtnbiedijofdjhaaDoorWT
namespace Go.Proofs.YtnbiedijofdjhaaDoor
open Go.RowKit
open Pl

theorem StrsOwn.cell {W : World} {base g n c : Nat} {ps : List (List UInt8)} (h : StrsOwn W base (.slice (some ⟨g, 0, none⟩) n c) ps) (j : Nat) (hj : j < ps.length) : W.cell? ⟨g, j, none⟩ = some (.string (B ps[j])) := by
  have := World.ownsRow.cells h (g := g) rfl j (.string (B ps[j])) (by unfold strCells; rw [List.getElem?_map, List.getElem?_eq_getElem hj]; rfl)
  rw [show (⟨g, 0, none⟩ : Addr).add j = ⟨g, j, none⟩ by unfold Addr.add; split <;> simp_all] at this
  exact this
theorem ret_sch2 {fn : Func} {p q : Tmp} (h : fn.results = #[.cell p 24, .tmp q]) {R : Ending → World → Prop} {a : Act} {W : World} {b : Nat} {c0 c1 c2 : Value}
    (hp : a.tmps.getD p undef = .pointer (some ⟨b, 0, none⟩)) (hd : a.defers = []) (hb : SchBlock W b c0 c1 c2)
    (hR : R (.returned (.tuple #[.agg #[c0, c1, c2], a.tmps.getD q undef])) W) : bodyPost Tryd.prog fn R .ret a W := by
  refine bodyPost_ret ?_ hd hR
  have hp' : a.tmps[p]?.getD undef = .pointer (some ⟨b, 0, none⟩) := by simpa using hp
  have hl := run_loadVar_row (P := Tryd.prog) W b 24 24 #[c0, c1, c2] (0, 0) _ hb Tryd.underlying24 rfl info24
  simp [results, h, hp', asAddr, hl]
theorem ret_rl2 {fn : Func} {p q : Tmp} (h : fn.results = #[.cell p 29, .tmp q]) {R : Ending → World → Prop} {a : Act} {W : World} {b : Nat} {r : Rl}
    (hp : a.tmps.getD p undef = .pointer (some ⟨b, 0, none⟩)) (hd : a.defers = []) (hb : RlBlock W b r)
    (hR : R (.returned (.tuple #[rlV r, a.tmps.getD q undef])) W) : bodyPost Tryd.prog fn R .ret a W := by
  refine bodyPost_ret ?_ hd hR
  have hp' : a.tmps[p]?.getD undef = .pointer (some ⟨b, 0, none⟩) := by simpa using hp
  have hl := run_loadVar_row (P := Tryd.prog) W b 29 29 _ (0, 0) _ hb Tryd.underlying29 rfl info29
  simp [results, h, hp', asAddr, hl]
/-- What head answers. -/
def HeadE (o : Option (Nat × Nat)) (e : Ending) : Prop := ∃ m x : Int, ∃ b : Bool, e = .returned (.tuple #[.agg #[.int .i64 m, .int .u8 x, .slice none 0 0], .bool b]) ∧ ((b = false ∧ o = none) ∨ (b = true ∧ ∃ m' x' : Nat, o = some (m', x') ∧ m = (m' : Int) ∧ x = (x' : Int)))
/-- What rule answers. -/
def RuleE (o : Option Rl) (e : Ending) : Prop := ∃ r b, e = .returned (.tuple #[rlV r, .bool b]) ∧ ((b = false ∧ o = none) ∨ (b = true ∧ o = some r))
theorem first_split (l : List UInt8) (ps : List (List UInt8)) (h : ps = splitS 32 [] l) : firstW l = if ps.length = 3 ∧ ps.head? = some [115, 99, 104, 101, 109, 101] then firstF (some ps.tail) else none := by
  subst h
  unfold firstW
  rw [fieldsW_split]
  split <;> rfl
theorem rule_split (l : List UInt8) (ps : List (List UInt8)) (h : ps = splitS 32 [] l) : ruleW l = if ps.length = 6 ∧ ps.head? = some [114, 117, 108, 101] then ruleF (some ps.tail) else none := by
  subst h
  unfold ruleW
  rw [fieldsW_split]
  split <;> rfl
theorem rnum_le (most : Nat) (f : List UInt8) : (rnum most f).2 = true → (rnum most f).1 ≤ most := by
  unfold rnum
  split
  · simp only [Bool.and_eq_true, decide_eq_true_eq]
    exact fun h => h.2.2
  · intro h; cases h
theorem firstF_is (a b : List UInt8) : firstF (some [a, b]) = if ((rnum 9999 a).2 && (rnum 255 b).2) = true then some ((rnum 9999 a).1, (rnum 255 b).1) else none := by
  simp only [firstF]
  rw [num_is, mask_is]
  cases (rnum 9999 a).2 <;> cases (rnum 255 b).2 <;> rfl
theorem parts_short (c : UInt8) (l : List UInt8) : ∀ x ∈ splitS c [] l, x.length ≤ l.length := fun x hx => by
  obtain ⟨h1, -⟩ := splitS_join c l [] rfl
  rw [List.nil_append] at h1
  have key : ∀ (xs : List (List UInt8)), x ∈ xs → x.length ≤ (Lib.join xs [c]).length := by
    intro xs
    induction xs with
    | nil => intro h; cases h
    | cons y t ih =>
      intro h
      cases t with
      | nil => rw [List.mem_singleton.1 h, join_one]; exact Nat.le_refl _
      | cons z r =>
        rw [join_more, List.length_append, List.length_cons]
        rcases List.mem_cons.1 h with rfl | h
        · omega
        · have := ih h; omega
  have := key _ hx
  rw [h1] at this
  exact this
set_option maxHeartbeats 1000000 in
set_option maxRecDepth 100000 in
theorem head_any (l : List UInt8) (w : World) (hs : l.length ≤ 1000000) :
    Calls Tryd.prog 64 #[.string (B l)] w fun e w' => HeadE (firstW l) e ∧ Below w.heap.size w w' := by
  have hb : Below w.heap.size w (w.alloc (.cells #[.int .i64 0, .int .u8 0, .slice none 0 0] 24)) := (Below.refl _ _).alloc (Nat.le_refl _) _
  have SB0 := Lib.hid (SchBlock.new w (.int .i64 0) (.int .u8 0) (.slice none 0 0))
  have CS := fun W => Lib.hid (Split_any (B l) 32 W (by rw [size_B]; exact hs))
  rw [toList_B] at CS
  obtain ⟨ps, hps⟩ : ∃ ps, ps = splitS 32 [] l := ⟨_, rfl⟩
  have FS := Lib.hid (first_split l ps hps)
  have SH := Lib.hid (parts_short 32 l)
  rw [← hps] at CS SH
  have HB := Lib.hid hb
  generalize firstW l = fw at *
  clear hb hps
  go_enter Tryd.func64, Tryd.ntmps64
  go_wp2_with fail
  generalize w.alloc _ = w1 at *
  refine ((CS w1).out).mono ?_
  rintro e x1 ⟨⟨g, cap, rfl, ho⟩, hb⟩
  have HB1 := Lib.hid (HB.out.trans (hb.mono HB.out.size))
  have SB1 := Lib.hid (SB0.out.below hb)
  have HO := Lib.hid ho
  have hcl := fun j hj => ho.cell j hj
  clear hb CS HB SB0 ho
  by_cases h3 : ps.length = 3
  rotate_left
  · have e3 : (((ps.length : Nat) : Int) == 3) = false := by rw [beq_eq_false_iff_ne]; omega
    have F := Lib.hid (show fw = none by rw [FS.out, if_neg (fun q => h3 q.1)])
    have SB2 := SB1.out
    clear hcl
    go_wp2_with (first | (refine wpList_store_sch rfl _ _ rfl _ _ _ _ SB2 rfl _ _ _ _ _ rfl ?_; intro W' hB' hg' hs'; clear SB2))
    refine ret_sch2 rfl rfl rfl hB' ?_
    exact ⟨⟨0, 0, false, rfl, Or.inl ⟨rfl, F.out⟩⟩, HB1.out.grown hg' HB1.out.size (by simp)⟩
  obtain ⟨p0, p1, p2, rfl⟩ : ∃ a b c, ps = [a, b, c] := by
    match ps, h3 with
    | [a, b, c], _ => exact ⟨a, b, c, rfl⟩
  have y0 := hcl 0 (by simp)
  have y1 := hcl 1 (by simp)
  have y2 := hcl 2 (by simp)
  have z1 := SH.out p1 (by simp)
  have z2 := SH.out p2 (by simp)
  have CN1 := fun W => Lib.hid (Number_any (B p1) 9999 W (by rw [size_B]; omega))
  have CN2 := fun W => Lib.hid (Number_any (B p2) 255 W (by rw [size_B]; omega))
  rw [toList_B] at CN1 CN2
  have hq := lit_eq p0 [115, 99, 104, 101, 109, 101]
  simp only [List.getElem_cons_zero, List.getElem_cons_succ, List.length_cons, List.length_nil, List.head?_cons, List.tail_cons] at y0 y1 y2 FS
  clear hcl h3 SH
  by_cases hp0 : p0 = [115, 99, 104, 101, 109, 101]
  rotate_left
  · have F := Lib.hid (show fw = none by rw [FS.out, if_neg (fun q => hp0 (Option.some.inj q.2))])
    rw [decide_eq_false hp0] at hq
    have SB2 := SB1.out
    clear hp0
    go_wp2_with (first | (refine wpList_store_sch rfl _ _ rfl _ _ _ _ SB2 rfl _ _ _ _ _ rfl ?_; intro W' hB' hg' hs'; clear SB2))
    refine ret_sch2 rfl rfl rfl hB' ?_
    exact ⟨⟨0, 0, false, rfl, Or.inl ⟨rfl, F.out⟩⟩, HB1.out.grown hg' HB1.out.size (by simp)⟩
  rw [decide_eq_true hp0] at hq
  have F := Lib.hid (show fw = firstF (some [p1, p2]) by rw [FS.out, if_pos (by simp [hp0])])
  rw [firstF_is] at F
  have L2 := Lib.hid (rnum_le 255 p2)
  clear hp0 FS
  obtain ⟨⟨n1, b1⟩, hn1⟩ : ∃ r, rnum 9999 p1 = r := ⟨_, rfl⟩
  obtain ⟨⟨n2, b2⟩, hn2⟩ : ∃ r, rnum 255 p2 = r := ⟨_, rfl⟩
  rw [hn1] at CN1 F
  rw [hn2] at CN2 F L2
  dsimp only at CN1 CN2 F L2
  clear hn1 hn2
  go_wp2_with fail
  refine ((CN1 _).out).mono ?_
  rintro e x2 ⟨rfl, rfl⟩
  go_wp2_with fail
  refine ((CN2 _).out).mono ?_
  rintro e x2 ⟨rfl, rfl⟩
  have SB2 := SB1.out
  clear y0 y1 y2 CN1 CN2
  cases b1 <;> cases b2
  all_goals
    go_wp2_with (first | (refine wpList_store_sch rfl _ _ rfl _ _ _ _ SB2 rfl _ _ _ _ _ rfl ?_; intro W' hB' hg' hs'; clear SB2))
    refine ret_sch2 rfl rfl rfl hB' ?_
    refine ⟨?_, HB1.out.grown hg' HB1.out.size (by simp)⟩
    first
      | exact ⟨_, _, false, rfl, Or.inl ⟨rfl, F.out⟩⟩
      | exact ⟨_, _, true, rfl, Or.inr ⟨rfl, n1, n2, F.out, rfl, by have := L2.out trivial; exact IntWalk.u8_in _ (by omega)⟩⟩
theorem ruleF_is (a b c d e : List UInt8) : ruleF (some [a, b, c, d, e]) = if c = [] ∨ d = [] ∨ ((rnum 9999 a).2 && ((rnum 9999 b).2 && (rnum 9999 e).2)) = false then none else some ⟨((rnum 9999 a).1 : Nat), ((rnum 9999 b).1 : Nat), rtext c, rtext d, ((rnum 9999 e).1 : Nat)⟩ := by
  simp only [ruleF]
  rw [num_is a, num_is b, num_is e, text_is, text_is]
  by_cases hc : c = []
  · simp [hc]
  · by_cases hd : d = []
    · simp [hc, hd]
    · cases (rnum 9999 a).2 <;> cases (rnum 9999 b).2 <;> cases (rnum 9999 e).2 <;> simp [hc, hd]
set_option maxHeartbeats 1000000 in
set_option maxRecDepth 100000 in
theorem rule_any (l : List UInt8) (w : World) (hs : l.length ≤ 1000000) :
    Calls Tryd.prog 65 #[.string (B l)] w fun e w' => RuleE (ruleW l) e ∧ Below w.heap.size w w' := by
  have hb : Below w.heap.size w (w.alloc (.cells #[.int .i64 0, .int .i64 0, .string ⟨#[]⟩, .string ⟨#[]⟩, .int .i64 0] 29)) := (Below.refl _ _).alloc (Nat.le_refl _) _
  have RB0 := Lib.hid (show RlBlock (w.alloc (.cells #[.int .i64 0, .int .i64 0, .string ⟨#[]⟩, .string ⟨#[]⟩, .int .i64 0] 29)) w.heap.size ⟨0, 0, [], [], 0⟩ from heap_alloc_new w _)
  have CS := fun W => Lib.hid (Split_any (B l) 32 W (by rw [size_B]; exact hs))
  rw [toList_B] at CS
  obtain ⟨ps, hps⟩ : ∃ ps, ps = splitS 32 [] l := ⟨_, rfl⟩
  have FS := Lib.hid (rule_split l ps hps)
  have SH := Lib.hid (parts_short 32 l)
  rw [← hps] at CS SH
  have HB := Lib.hid hb
  generalize ruleW l = fw at *
  clear hb hps
  go_enter Tryd.func65, Tryd.ntmps65
  go_wp2_with fail
  generalize w.alloc _ = w1 at *
  refine ((CS w1).out).mono ?_
  rintro e x1 ⟨⟨g, cap, rfl, ho⟩, hb⟩
  have HB1 := Lib.hid (HB.out.trans (hb.mono HB.out.size))
  have RB1 := Lib.hid (RB0.out.below hb)
  have hcl := fun j hj => ho.cell j hj
  have hgl := ho.block.2
  clear hb CS HB RB0 ho
  by_cases h3 : ps.length = 6
  rotate_left
  · have e3 : (((ps.length : Nat) : Int) == 6) = false := by rw [beq_eq_false_iff_ne]; omega
    have F := Lib.hid (show fw = none by rw [FS.out, if_neg (fun q => h3 q.1)])
    have RB2 := RB1.out
    clear hcl
    go_wp2_with (first | (refine wpList_store_rl rfl _ _ rfl _ _ RB2 rfl ⟨0, 0, [], [], 0⟩ rfl ?_; intro W' hB' hg' hs'; clear RB2))
    refine ret_rl2 rfl rfl rfl hB' ?_
    exact ⟨⟨_, false, rfl, Or.inl ⟨rfl, F.out⟩⟩, HB1.out.grown hg' HB1.out.size (by simp)⟩
  obtain ⟨p0, p1, p2, p3, p4, p5, rfl⟩ : ∃ a b c d e f, ps = [a, b, c, d, e, f] := by
    match ps, h3 with
    | [a, b, c, d, e, f], _ => exact ⟨a, b, c, d, e, f, rfl⟩
  have y0 := hcl 0 (by simp)
  have y1 := hcl 1 (by simp)
  have y2 := hcl 2 (by simp)
  have y3 := hcl 3 (by simp)
  have y4 := hcl 4 (by simp)
  have y5 := hcl 5 (by simp)
  have z1 := SH.out p1 (by simp)
  have z2 := SH.out p2 (by simp)
  have z5 := SH.out p5 (by simp)
  have CN1 := fun W => Lib.hid (Number_any (B p1) 9999 W (by rw [size_B]; omega))
  have CN2 := fun W => Lib.hid (Number_any (B p2) 9999 W (by rw [size_B]; omega))
  have CN5 := fun W => Lib.hid (Number_any (B p5) 9999 W (by rw [size_B]; omega))
  have CT3 := fun W => Lib.hid (rtext_any p3 W)
  have CT4 := fun W => Lib.hid (rtext_any p4 W)
  rw [toList_B] at CN1 CN2 CN5
  have hq := lit_eq p0 [114, 117, 108, 101]
  simp only [List.getElem_cons_zero, List.getElem_cons_succ, List.length_cons, List.length_nil, List.head?_cons, List.tail_cons] at y0 y1 y2 y3 y4 y5 FS
  clear hcl h3 SH
  have hne : ∀ q : List UInt8, (B q).toList.isEmpty = decide (q = []) := fun q => by
    cases q with
    | nil => rw [ByteArray.toList_eq, toList_B]; rfl
    | cons a t => rw [ByteArray.toList_eq, toList_B]; rfl
  have hq3 := hne p3
  have hq4 := hne p4
  by_cases hp0 : p0 = [114, 117, 108, 101]
  rotate_left
  · have F := Lib.hid (show fw = none by rw [FS.out, if_neg (fun q => hp0 (Option.some.inj q.2))])
    rw [decide_eq_false hp0] at hq
    have RB2 := RB1.out
    clear hp0 hne
    go_wp2_with (first | (refine wpList_store_rl rfl _ _ rfl _ _ RB2 rfl ⟨0, 0, [], [], 0⟩ rfl ?_; intro W' hB' hg' hs'; clear RB2))
    refine ret_rl2 rfl rfl rfl hB' ?_
    exact ⟨⟨_, false, rfl, Or.inl ⟨rfl, F.out⟩⟩, HB1.out.grown hg' HB1.out.size (by simp)⟩
  rw [decide_eq_true hp0] at hq
  have F := Lib.hid (show fw = ruleF (some [p1, p2, p3, p4, p5]) by rw [FS.out, if_pos (by simp [hp0])])
  rw [ruleF_is] at F
  clear hp0 FS hne
  by_cases h3 : p3 = []
  · have F2 := Lib.hid (show fw = none by rw [F.out, if_pos (Or.inl h3)])
    rw [decide_eq_true h3] at hq3
    have RB2 := RB1.out
    clear h3
    go_wp2_with (first | (refine wpList_store_rl rfl _ _ rfl _ _ RB2 rfl ⟨0, 0, [], [], 0⟩ rfl ?_; intro W' hB' hg' hs'; clear RB2))
    refine ret_rl2 rfl rfl rfl hB' ?_
    exact ⟨⟨_, false, rfl, Or.inl ⟨rfl, F2.out⟩⟩, HB1.out.grown hg' HB1.out.size (by simp)⟩
  by_cases h4 : p4 = []
  · have F2 := Lib.hid (show fw = none by rw [F.out, if_pos (Or.inr (Or.inl h4))])
    rw [decide_eq_false h3] at hq3
    rw [decide_eq_true h4] at hq4
    have RB2 := RB1.out
    clear h3 h4
    go_wp2_with (first | (refine wpList_store_rl rfl _ _ rfl _ _ RB2 rfl ⟨0, 0, [], [], 0⟩ rfl ?_; intro W' hB' hg' hs'; clear RB2))
    refine ret_rl2 rfl rfl rfl hB' ?_
    exact ⟨⟨_, false, rfl, Or.inl ⟨rfl, F2.out⟩⟩, HB1.out.grown hg' HB1.out.size (by simp)⟩
  have H34 := Lib.hid (And.intro h3 h4)
  rw [decide_eq_false h3] at hq3
  rw [decide_eq_false h4] at hq4
  obtain ⟨⟨n1, b1⟩, hn1⟩ : ∃ r, rnum 9999 p1 = r := ⟨_, rfl⟩
  obtain ⟨⟨n2, b2⟩, hn2⟩ : ∃ r, rnum 9999 p2 = r := ⟨_, rfl⟩
  obtain ⟨⟨n5, b5⟩, hn5⟩ : ∃ r, rnum 9999 p5 = r := ⟨_, rfl⟩
  rw [hn1] at CN1 F
  rw [hn2] at CN2 F
  rw [hn5] at CN5 F
  dsimp only at CN1 CN2 CN5 F
  clear hn1 hn2 hn5 h3 h4 z1 z2 z5
  go_wp2_with fail
  refine ((CN1 _).out).mono ?_
  rintro e x2 ⟨rfl, rfl⟩
  go_wp2_with fail
  refine ((CN2 _).out).mono ?_
  rintro e x2 ⟨rfl, rfl⟩
  go_wp2_with fail
  refine ((CN5 _).out).mono ?_
  rintro e x2 ⟨rfl, rfl⟩
  clear y0 y1 y2 y5 CN1 CN2 CN5 hq hq3 hq4
  go_upto_region 7 with fail
  have F2 := Lib.hid (show fw = if ((b1 && (b2 && b5)) = false) then none else some ⟨(n1 : Int), (n2 : Int), rtext p3, rtext p4, (n5 : Int)⟩ by
    rw [F.out]
    simp [H34.out.1, H34.out.2])
  clear F
  have FW := Lib.hid (show ∀ W, Below x2.heap.size x2 W → W.cell? ⟨g, 3, none⟩ = some (.string (B p3)) ∧ W.cell? ⟨g, 4, none⟩ = some (.string (B p4)) from fun W h => ⟨(h.cell (p := ⟨g, 3, none⟩) hgl).trans y3, (h.cell (p := ⟨g, 4, none⟩) hgl).trans y4⟩)
  have C1 : ∀ W, Below x2.heap.size x2 W → Calls Tryd.prog 92 #[.string (B p3)] W fun e w' => e = .returned (.string (B (rtext p3))) ∧ Below x2.heap.size x2 w' := fun W h => ((CT3 W).out).mono fun e w' h' => ⟨h'.1, by rw [h'.2]; exact h⟩
  have C2 : ∀ W, Below x2.heap.size x2 W → Calls Tryd.prog 92 #[.string (B p4)] W fun e w' => e = .returned (.string (B (rtext p4))) ∧ Below x2.heap.size x2 w' := fun W h => ((CT4 W).out).mono fun e w' h' => ⟨h'.1, by rw [h'.2]; exact h⟩
  clear CT3 CT4 y3 y4
  refine wp_normal ?_
  refine wp_region_phase (fun W => Below x2.heap.size x2 W) (fun W => RlBlock W w.heap.size ⟨n1, n2, rtext p3, rtext p4, n5⟩ ∧ Below w.heap.size w W) 19 _ 2 67 (.pointer (some ⟨w.heap.size, 0, none⟩)) (rlV ⟨n1, n2, rtext p3, rtext p4, n5⟩) 29 (by kernel_rfl) rfl rfl rfl rfl (by kernel_rfl) (by kernel_rfl) (Below.refl _ _).drew (fun W h => ?_) ?_
  · have hbk := RB1.out.below h
    refine ⟨_, ?_, setRow_heap W w.heap.size _ #[.int .i64 n1, .int .i64 n2, .string (B (rtext p3)), .string (B (rtext p4)), .int .i64 n5] 29 _ hbk, ?_⟩
    · simp only [Instr.storeAt, Instr.sureAddr, Sem.run_bind, Sem.run_pure, Result.andThen_ok]
      exact run_storeVar_row W w.heap.size 29 29 _ _ hbk info29 rfl (by simp [Value.oneCell'])
    · refine (HB1.out.trans (h.mono HB1.out.size)).grown (row := some w.heap.size) ⟨rfl, rfl, rfl, by simp, fun i hi hne => ?_⟩ (by have := HB1.out.size; have := h.size; omega) (by simp)
      simp only [World.setRow, Array.getElem?_modify]
      rw [if_neg (fun e => hne (by rw [e]))]
  simp only [List.set_cons_succ, List.set_cons_zero, nopOf]
  cases b1 <;> cases b2 <;> cases b5
  all_goals
    repeat (first | go_big_quiet_skip | (go_big_quiet_want; first | (go_big_quiet_op; go_big_quiet_on) | (refine quiet_value ?_ (fun W h => ?_) ?_; rotate_left; (· obtain ⟨f0, f1⟩ := FW.out W h; go_simp; rfl); go_simp; go_big_quiet_on) | (refine quiet_call _ _ _ (fun W => ?_) C1 ?_; (· go_simp; done); go_simp; go_big_quiet_on) | (refine quiet_call _ _ _ (fun W => ?_) C2 ?_; (· go_simp; done); go_simp; go_big_quiet_on)))
    refine wpQuiet_nil ⟨rfl, rfl, ?_⟩
    rintro W ⟨hrl, hbw⟩
    clear C1 C2 FW
    refine ⟨trivial, ?_⟩
    go_wp2_with fail
    refine ret_rl2 rfl rfl rfl hrl ?_
    first
      | exact ⟨⟨_, false, rfl, Or.inl ⟨rfl, F2.out⟩⟩, hbw⟩
      | exact ⟨⟨_, true, rfl, Or.inr ⟨rfl, F2.out⟩⟩, hbw⟩
end Go.Proofs.YtnbiedijofdjhaaDoor
