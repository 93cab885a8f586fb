/-
  The library's insertion sort at words that are near, and what calls it for short lists.
-/
import Derived.Test.YtadaijepalhohaaAM
namespace Go.Proofs.Ytadaijepalhohaa
open Go.RowKit
open Pl

theorem info57 : (Try.prog.info? 57).map (·.size) = some 2 := by kernel_rfl
theorem none_listed {n j : Nat} (h : (Array.replicate n false).getD j false = true) : False := by
  by_cases hj : j < n
  · simp [hj] at h
  · simp [hj] at h
theorem ready_dep {ops : Array Oper} {listed : Array Bool} {i k : Nat} {o : Oper} (h : i ∈ Region.ready .any ops listed) (ho : ops[i]? = some o) (hk : o.after.any (fun e => Region.binds .any e && e.on == k) = true) : listed.getD k false = true := by
  obtain ⟨-, o', ho', hall⟩ := mem_ready.1 h
  obtain rfl : o' = o := Option.some.inj (ho'.symm.trans ho)
  obtain ⟨e, he, hb⟩ := Array.any_eq_true'.1 hk
  simp only [Bool.and_eq_true, beq_iff_eq] at hb
  rw [← hb.2]
  exact hall e he hb.1
def upd (f : Nat → Value) (i : Nat) (v : Value) : Nat → Value := fun j => if j = i then v else f j
theorem listed_mono {listed : Array Bool} {i j : Nat} (h : listed.getD j false = true) : (listed.setIfInBounds i true).getD j false = true := by
  by_cases e : i = j
  · subst e
    have hlt : i < listed.size := by
      rcases Nat.lt_or_ge i listed.size with q | q
      · exact q
      · simp [Nat.not_lt.2 q] at h
    simp [hlt]
  · rw [getD_set_ne false e]; exact h
theorem listed_self {ops : Array Oper} {listed : Array Bool} {i : Nat} (h : i ∈ Region.ready .any ops listed) : ¬ listed.getD i false = true ∧ (listed.setIfInBounds i true).getD i false = true := by
  have h1 := (mem_ready.1 h).1
  have hlt : i < listed.size := by
    rcases Nat.lt_or_ge i listed.size with q | q
    · exact q
    · simp [Nat.not_lt.2 q] at h1
  refine ⟨fun h2 => ?_, by simp [hlt]⟩
  rw [getD_both h1] at h2; cases h2
theorem inv_upd {F : List Value} {listed : Array Bool} {f : Nat → Value} {i : Nat} {v : Value} (hF : ∀ j, j < 17 ∧ j ≠ 15 → listed.getD j false = true → f j = F.getD j undef) (hv : v = F.getD i undef) : ∀ j, j < 17 ∧ j ≠ 15 → (listed.setIfInBounds i true).getD j false = true → upd f i v j = F.getD j undef := fun j hj hl => by
  unfold upd
  by_cases e : j = i
  · rw [if_pos e, e]; exact hv
  · rw [if_neg e]; exact hF j hj ((listed_set hl).resolve_left (fun h => e h.symm))
theorem inv_world {listed : Array Bool} {i : Nat} (hi : i ≠ 15) {V A C : World} (h : (listed.getD 15 false = false ∧ V = A) ∨ (listed.getD 15 false = true ∧ listed.getD 9 false = true ∧ listed.getD 13 false = true ∧ V = C)) : ((listed.setIfInBounds i true).getD 15 false = false ∧ V = A) ∨ ((listed.setIfInBounds i true).getD 15 false = true ∧ (listed.setIfInBounds i true).getD 9 false = true ∧ (listed.setIfInBounds i true).getD 13 false = true ∧ V = C) := by
  rcases h with ⟨h1, h2⟩ | ⟨h1, h2, h3, h4⟩
  · exact Or.inl ⟨by rw [getD_set_ne false hi]; exact h1, h2⟩
  · exact Or.inr ⟨listed_mono h1, listed_mono h2, listed_mono h3, h4⟩
theorem seqI_done_as {P : Program} {ops : Array Oper} {C : World → Prop} {dep : Nat → Bool} {Q : Exit → Act → World → Prop} {a b : Act} {w : World} (hab : a = b) (h : Q .normal b w) : wpSeqI P ops C dep Q [] a w := seqI_done (by rw [hab]; exact h)
theorem store_skip {P : Program} {a : Act} {o : Oper} {w : World} (ty : TypeId) (x y : Operand) (ho : o.op = .store ty x y) (b off : Nat) (cells : Array Value) (hx : a.eval x = .pointer (some ⟨b, off, none⟩)) (hy : a.eval y = .agg cells)
    (ht : w.there b off cells.size) (hi : (P.info? ty).map (·.size) = some cells.size) (h1 : cells.all (·.oneCell') = true) : (execOp a.eval o).run P w = .ok .skip (w.setCells b off cells.toList) := by
  unfold execOp
  simp only [ho, hx, hy, Instr.storeAt, Instr.sureAddr, Sem.run_bind, Sem.run_pure, Result.andThen_ok, run_storeVar_mid w b off ty cells ht hi h1]
/-- An element put in at place j. -/
def insF (P : List Fd) (x : Fd) (j : Nat) : List Fd := P.take j ++ x :: P.drop j
theorem insF_len (P : List Fd) (x : Fd) (j : Nat) (h : j ≤ P.length) : (insF P x j).length = P.length + 1 := by
  simp [insF]; omega
theorem insF_end (P : List Fd) (x : Fd) : insF P x P.length = P ++ [x] := by simp [insF]
theorem insF_at (P : List Fd) (x : Fd) (j : Nat) (R : List Fd) (h : j ≤ P.length) : (insF P x j ++ R)[j]? = some x := by
  unfold insF
  rw [List.getElem?_append_left (by simp; omega), List.getElem?_append_right (by simp; omega)]
  simp [Nat.min_eq_left h]
theorem insF_before (P : List Fd) (x : Fd) (j : Nat) (R : List Fd) (h : j < P.length) : (insF P x (j + 1) ++ R)[j]? = some P[j] := by
  unfold insF
  rw [List.getElem?_append_left (by simp; omega), List.getElem?_append_left (by simp; omega), List.getElem?_take_of_lt (by omega), List.getElem?_eq_getElem h]
theorem insF_swap (P : List Fd) (x : Fd) (j : Nat) (R : List Fd) (h : j < P.length) : ((insF P x (j + 1) ++ R).set (j + 1) P[j]).set j x = insF P x j ++ R := by
  unfold insF
  have e1 : P.take (j + 1) = P.take j ++ [P[j]] := List.take_succ_eq_append_getElem h
  have e2 : P.drop j = P[j] :: P.drop (j + 1) := List.drop_eq_getElem_cons h
  rw [e1, e2]
  have l1 : (P.take j).length = j := by rw [List.length_take]; omega
  generalize P.take j = A at *
  generalize P.drop (j + 1) = C at *
  subst l1
  simp
theorem insF_mem (P : List Fd) (x : Fd) (j : Nat) (y : Fd) : y ∈ insF P x j ↔ y ∈ P ∨ y = x := by
  unfold insF
  rw [List.mem_append, List.mem_cons]
  constructor
  · rintro (h | h | h)
    · exact Or.inl (List.mem_of_mem_take h)
    · exact Or.inr h
    · exact Or.inl (List.mem_of_mem_drop h)
  · rintro (h | h)
    · rw [← List.take_append_drop j P, List.mem_append] at h
      rcases h with h | h
      · exact Or.inl h
      · exact Or.inr (Or.inr h)
    · exact Or.inr (Or.inl h)
theorem insF_sorted (P : List Fd) (x : Fd) (j : Nat) (hj : j ≤ P.length) (hP : P.Pairwise ltF) (hw : ∀ y ∈ P, y.word < x.word) (hd : ∀ y ∈ P.drop j, x.cost < y.cost) (hb : j = 0 ∨ ∃ h : j - 1 < P.length, ¬ x.cost < P[j - 1].cost) : (insF P x j).Pairwise ltF := by
  have hP' := hP
  rw [← List.take_append_drop j P, List.pairwise_append] at hP'
  obtain ⟨p1, p2, p3⟩ := hP'
  have low : ∀ y ∈ P.take j, ltF y x := fun y hy => by
    rcases hb with rfl | ⟨h, hb⟩
    · simp at hy
    · have hyw := hw y (List.mem_of_mem_take hy)
      obtain ⟨k, hk, rfl⟩ := List.mem_iff_getElem.1 hy
      rw [List.length_take] at hk
      rw [List.getElem_take] at hyw ⊢
      rcases Nat.lt_or_ge k (j - 1) with q | q
      · have := List.pairwise_iff_getElem.1 hP k (j - 1) (by omega) h q
        unfold ltF at this ⊢; omega
      · have e : k = j - 1 := by omega
        subst e
        unfold ltF; omega
  unfold insF
  rw [List.pairwise_append]
  refine ⟨p1, ?_, fun y hy z hz => ?_⟩
  · rw [List.pairwise_cons]
    exact ⟨fun z hz => Or.inl (hd z hz), p2⟩
  · rcases List.mem_cons.1 hz with rfl | hz
    · exact low y hy
    · exact p3 y hy z hz
/-- What is sorted. -/
def SortOf (fs R : List Fd) : Prop := R.length = fs.length ∧ (∀ x, x ∈ R ↔ x ∈ fs) ∧ R.Pairwise ltF
/-- What the outer loop keeps. -/
def OuRel (w : World) (g : Nat) (fs : List Fd) (i : Nat) (W : World) : Prop :=
  ∃ P : List Fd, P.length = i ∧ (∀ x, x ∈ P ↔ x ∈ fs.take i) ∧ P.Pairwise ltF ∧ FBlk W g (P ++ fs.drop i) ∧ But [g] w W
abbrev cmpV : Value := .func (.func 27) #[] #[]
set_option maxHeartbeats 1000000 in
set_option maxRecDepth 100000 in
theorem insertion_any (fs : List Fd) (g cap : Nat) (w : World) (hf : FBlk w g fs) (hl : fs.length ≤ 1000) (hw : fs.Pairwise fun x y => x.word < y.word) :
    Calls Try.prog 41 #[.slice (some ⟨g, 0, none⟩) fs.length cap, .int .i64 0, .int .i64 (fs.length : Nat), cmpV] w fun e w' => e = .returned (.tuple #[]) ∧ (∃ R, SortOf fs R ∧ FBlk w' g R) ∧ But [g] w w' := by
  by_cases h0 : fs.length = 0
  · have HF := Lib.hid (show SortOf fs fs from ⟨rfl, fun _ => Iff.rfl, by rw [List.length_eq_zero_iff.1 h0]; exact List.Pairwise.nil⟩)
    have FB := Lib.hid hf
    have z : ¬ (1 : Int) < (fs.length : Int) := by omega
    clear hf h0 hw
    go_enter Try.func41, Try.ntmps41
    go_wp2_with fail
    go_loopw [8] (fun iv wr => iv = .int .i64 1 ∧ wr = w) (fun _ _ => 0)
    case atStart => exact ⟨rfl, rfl⟩
    case round =>
      obtain ⟨rfl, rfl⟩ := hrel
      go_wp2_with fail
      exact ret_none Try.results41 rfl ⟨rfl, ⟨fs, HF.out, FB.out⟩, But.refl _ _⟩
  · have RR := Lib.hid (show OuRel w g fs 1 w from ⟨fs.take 1, by rw [List.length_take]; omega, fun _ => Iff.rfl, by
      rcases fs with _ | ⟨x, l⟩
      · simp
      · simp, by rw [List.take_append_drop]; exact hf, But.refl _ _⟩)
    have HW := Lib.hid hw
    have n1 : 1 ≤ fs.length := by omega
    clear hf hw h0
    go_enter Try.func41, Try.ntmps41
    go_wp2_with fail
    go_loopw [8] (fun iv wr => ∃ i : Nat, iv = .int .i64 (i : Nat) ∧ 1 ≤ i ∧ i ≤ fs.length ∧ OuRel w g fs i wr) (fun iv _ => fs.length - (intOf iv).toNat)
    case atStart => exact ⟨1, rfl, Nat.le_refl _, n1, RR.out⟩
    case round =>
      obtain ⟨i, rfl, hi1, hi, P, hPl, hPm, hPs, hPf, hbt⟩ := hrel
      have PL := Lib.hid hPl
      have PM := Lib.hid hPm
      have PS := Lib.hid hPs
      have PF := Lib.hid hPf
      have BT := Lib.hid hbt
      clear RR hPl hPm hPs hPf hbt
      have i0 : (0 : Int) ≤ (i : Int) := by omega
      by_cases h1 : (i : Int) < (fs.length : Int)
      · have hin : i < fs.length := by omega
        have hdr : fs.drop i = fs[i] :: fs.drop (i + 1) := List.drop_eq_getElem_cons hin
        have hxw : ∀ y ∈ P, y.word < fs[i].word := fun y hy => by
          have := (PM.out y).1 hy
          obtain ⟨k, hk, rfl⟩ := List.mem_iff_getElem.1 this
          rw [List.length_take] at hk
          rw [List.getElem_take]
          exact List.pairwise_iff_getElem.1 HW.out k i (by omega) hin (by omega)
        have hxm : ∀ y, (y ∈ P ∨ y = fs[i]) ↔ y ∈ fs.take (i + 1) := fun y => by
          rw [List.take_succ_eq_append_getElem hin, List.mem_append, List.mem_singleton, PM.out y]
        obtain ⟨x, hx⟩ : ∃ x, x = fs[i] := ⟨_, rfl⟩
        rw [← hx] at hdr hxw hxm
        have XW := Lib.hid hxw
        have XM := Lib.hid hxm
        have hst : P ++ fs.drop i = insF P x i ++ fs.drop (i + 1) := by
          rw [hdr, ← PL.out, insF_end]; simp
        have PF2 := Lib.hid (show FBlk wr g (insF P x i ++ fs.drop (i + 1)) by rw [← hst]; exact PF.out)
        clear hdr hxw hxm hx hst PF
        go_wp2_with fail
        go_loopw [9] (fun jv wr => ∃ j : Nat, jv = .int .i64 (j : Nat) ∧ j ≤ i ∧ FBlk wr g (insF P x j ++ fs.drop (i + 1)) ∧ (∀ y ∈ P.drop j, x.cost < y.cost) ∧ But [g] w wr) (fun jv _ => (intOf jv).toNat)
        case atStart => exact ⟨i, rfl, Nat.le_refl _, PF2.out, (fun y hy => by rw [← PL.out, List.drop_length] at hy; cases hy), BT.out⟩
        case round =>
          obtain ⟨j, rfl, hj, hfb, hdc, hbt⟩ := hrel
          have FB := Lib.hid hfb
          have DC := Lib.hid hdc
          have BT2 := Lib.hid hbt
          clear hfb hdc hbt BT PF2
          have j0 : (0 : Int) ≤ (j : Int) := by omega
          by_cases h2 : (0 : Int) < (j : Int)
          · obtain ⟨jp, rfl⟩ : ∃ jp, j = jp + 1 := ⟨j - 1, by omega⟩
            have hjP : jp < P.length := by rw [PL.out]; omega
            have jl : jp + 1 < fs.length := by omega
            have L := Lib.hid (show (insF P x (jp + 1) ++ fs.drop (i + 1)).length = fs.length by rw [List.length_append, insF_len _ _ _ (by omega), PL.out, List.length_drop]; omega)
            have a1 := insF_at P x (jp + 1) (fs.drop (i + 1)) (by omega)
            have a0 := insF_before P x jp (fs.drop (i + 1)) hjP
            have cells := fun (V : World) (h : FBlk V g (insF P x (jp + 1) ++ fs.drop (i + 1))) => And.intro (h.cells jp (by rw [L.out]; omega)) (h.cells (jp + 1) (by rw [L.out]; omega))
            have g0 : (insF P x (jp + 1) ++ fs.drop (i + 1))[jp]'(by rw [L.out]; omega) = P[jp] := by rw [List.getElem?_eq_getElem (by rw [L.out]; omega)] at a0; exact Option.some.inj a0
            have g1 : (insF P x (jp + 1) ++ fs.drop (i + 1))[jp + 1]'(by rw [L.out]; omega) = x := by rw [List.getElem?_eq_getElem (by rw [L.out]; omega)] at a1; exact Option.some.inj a1
            simp only [g0, g1] at cells
            have SW := Lib.hid (insF_swap P x jp (fs.drop (i + 1)) hjP)
            have IS := Lib.hid (show ¬ x.cost < P[jp].cost → (insF P x (jp + 1)).Pairwise ltF from fun hn => insF_sorted P x (jp + 1) (by omega) PS.out XW.out DC.out (Or.inr ⟨by simpa using hjP, by simpa using hn⟩))
            have DD := Lib.hid (show x.cost < P[jp].cost → ∀ y ∈ P.drop jp, x.cost < y.cost from fun hc y hy => by
              rw [List.drop_eq_getElem_cons hjP] at hy
              rcases List.mem_cons.1 hy with rfl | hy
              · exact hc
              · exact DC.out y hy)
            obtain ⟨y, hy⟩ : ∃ y, y = P[jp] := ⟨_, rfl⟩
            rw [← hy] at cells SW IS DD
            have FW := Lib.hid (show ∀ W, Below wr.heap.size wr W → (W.cell? ⟨g, jp * 2, none⟩ = some (.int .i64 y.word) ∧ W.cell? ⟨g, jp * 2 + 1, none⟩ = some (.int .i64 y.cost)) ∧ W.cell? ⟨g, (jp + 1) * 2, none⟩ = some (.int .i64 x.word) ∧ W.cell? ⟨g, (jp + 1) * 2 + 1, none⟩ = some (.int .i64 x.cost) from fun W h => cells W (FB.out.below h))
            clear a0 a1 g0 g1 cells hy
            have D1 : decide ((0 : Int) < (jp : Int) + 1) = true := decide_eq_true h2
            have D2 : decide (0 < jp + 1) = true := decide_eq_true (by omega)
            have jp0 : (0 : Int) ≤ (jp : Int) := by omega
            have jpn : (jp : Int) < (fs.length : Int) := by omega
            have jpn1 : (jp : Int) + 1 < (fs.length : Int) := by omega
            have wj : IntKind.i64.wrap ((jp : Int) + 1 - 1) = (jp : Int) := by rw [IntWalk.i64_in _ (by omega)]; omega
            have wj2 : IntKind.i64.wrap (jp : Int) = (jp : Int) := IntWalk.i64_in _ (by omega)
            have jq0 : (0 : Int) ≤ (jp : Int) + 1 := by omega
            have tj : ((jp : Int) + 1).toNat = jp + 1 := by omega
            obtain ⟨v, hv⟩ : ∃ v, v = cmpI x.cost y.cost := ⟨_, rfl⟩
            have C1 : ∀ W, Below wr.heap.size wr W → Calls Try.prog 27 #[fdV x, fdV y] W fun e w' => e = .returned (.int .i64 v) ∧ Below wr.heap.size wr w' := fun W h => (near1_any x y W).mono fun e w' h' => ⟨by rw [hv]; exact h'.1, h.trans (h'.2.mono h.size)⟩
            have EN : ∀ args W, (callFunc 27 args).run Try.prog W = .ok (.enter 27 args) W := fun args W => by kernel_rfl
            by_cases hc : x.cost < y.cost
            · have hvn : v < 0 := by rw [hv]; unfold cmpI; rw [if_pos hc]; decide
              have dv : decide (v < 0) = true := decide_eq_true hvn
              have HC := Lib.hid hc
              clear hc hv
              go_upto_region 4 with fail
              refine wp_normal ?_
              refine wp_region_class (C := fun W => Below wr.heap.size wr W) (by kernel_rfl) (by kernel_rfl) (Below.refl _ _).drew ?_
              repeat (first | go_big_quiet_skip | (go_big_quiet_want; first | (go_big_quiet_op; go_big_quiet_on) | (refine quiet_value ?_ (fun W h => ?_) ?_; rotate_left; (· obtain ⟨⟨f0, f1⟩, f2, f3⟩ := FW.out W h; go_simp; rfl); go_simp; go_big_quiet_on) | (refine quiet_call _ _ _ (fun W => ?_) C1 ?_; (· go_simp; done); go_simp; go_big_quiet_on)))
              refine wpQuiet_nil ?_
              intro W hb
              refine ⟨rfl, ?_⟩
              have FB2 := Lib.hid (FB.out.below hb)
              have BT3 := Lib.hid (BT2.out.trans (But.of hb))
              have FX := Lib.hid (show ∀ V, Below W.heap.size W V → (V.cell? ⟨g, jp * 2, none⟩ = some (.int .i64 y.word) ∧ V.cell? ⟨g, jp * 2 + 1, none⟩ = some (.int .i64 y.cost)) ∧ V.cell? ⟨g, (jp + 1) * 2, none⟩ = some (.int .i64 x.word) ∧ V.cell? ⟨g, (jp + 1) * 2 + 1, none⟩ = some (.int .i64 x.cost) from fun V h => FW.out V (hb.trans (h.mono hb.size)))
              clear hb FW C1 FB BT2
              go_upto_region 6 with fail
              refine wp_normal ?_
              have FBd : FBlk W.drew g (insF P x (jp + 1) ++ fs.drop (i + 1)) := FB2.out
              have th1 := FBd.there (jp + 1) (by rw [L.out]; omega)
              have FB3 := FBd.put (jp + 1) (by rw [L.out]; omega) y
              have th2 := FB3.there jp (by rw [List.length_set, L.out]; omega)
              have FB4 := FB3.put jp (by rw [List.length_set, L.out]; omega) x
              rw [SW.out] at FB4
              have BT4 := Lib.hid ((((BT3.out).drew.cells (g := g) (by simp) [.int .i64 y.word, .int .i64 y.cost] ((jp + 1) * 2))).cells (g := g) (by simp) [.int .i64 x.word, .int .i64 x.cost] (jp * 2))
              refine wp_region_inv2 17 (by kernel_rfl) (by kernel_rfl) (by kernel_rfl) (fun listed a V => ∃ f : Nat → Value, a = ({ tmps := #[.slice (some ⟨g, 0, none⟩) fs.length cap, .int .i64 0, .int .i64 (fs.length : Int), cmpV, undef, undef, undef, undef, .int .i64 (i : Int), .int .i64 ((jp : Int) + 1), .int .i64 0, .int .i64 1, .int .i64 (i : Int), .int .i64 (fs.length : Int), .bool true, u15, u16, .int .i64 (i : Int), .int .i64 ((jp : Int) + 1), .int .i64 0, .bool true, .bool true, cmpV, .slice (some ⟨g, 0, none⟩) fs.length cap, .int .i64 ((jp : Int) + 1), .pointer (some ⟨g, (jp + 1) * 2, none⟩), fdV x, .slice (some ⟨g, 0, none⟩) fs.length cap, .int .i64 ((jp : Int) + 1), .int .i64 (jp : Int), .pointer (some ⟨g, jp * 2, none⟩), fdV y, .int .i64 v, .bool true, .bool true, u35, u36, f 0, f 1, f 2, f 3, f 4, f 5, f 6, f 7, f 8, f 9, f 10, f 11, f 12, f 13, f 14, f 16], defers := [] } : Act) ∧ (∀ j, j < 17 ∧ j ≠ 15 → listed.getD j false = true → f j = ([.slice (some ⟨g, 0, none⟩) fs.length cap, .int .i64 ((jp : Int) + 1), .slice (some ⟨g, 0, none⟩) fs.length cap, .int .i64 ((jp : Int) + 1), .int .i64 (jp : Int), .slice (some ⟨g, 0, none⟩) fs.length cap, .int .i64 ((jp : Int) + 1), .int .i64 (jp : Int), .pointer (some ⟨g, jp * 2, none⟩), fdV y, .slice (some ⟨g, 0, none⟩) fs.length cap, .int .i64 ((jp : Int) + 1), .pointer (some ⟨g, (jp + 1) * 2, none⟩), fdV x, .pointer (some ⟨g, (jp + 1) * 2, none⟩), undef, .pointer (some ⟨g, jp * 2, none⟩)] : List Value).getD j undef) ∧ ((listed.getD 15 false = false ∧ V = W.drew) ∨ (listed.getD 15 false = true ∧ listed.getD 9 false = true ∧ listed.getD 13 false = true ∧ V = W.drew.setCells g ((jp + 1) * 2) [.int .i64 y.word, .int .i64 y.cost]))) ?_ ?_ ?_
              · exact ⟨fun k => (#[u37, u38, u39, u40, u41, u42, u43, u44, u45, u46, u47, u48, u49, u50, u51, undef, u52] : Array Value).getD k undef, rfl, fun j _ h => (none_listed h).elim, Or.inl ⟨by rfl, rfl⟩⟩
              · rintro listed a V k ⟨f, rfl, hF, hW⟩ hr hk
                rcases (show k = 0 ∨ k = 1 ∨ k = 2 ∨ k = 3 ∨ k = 4 ∨ k = 5 ∨ k = 6 ∨ k = 7 ∨ k = 8 ∨ k = 9 ∨ k = 10 ∨ k = 11 ∨ k = 12 ∨ k = 13 ∨ k = 14 ∨ k = 15 ∨ k = 16 by omega) with rfl | rfl | rfl | rfl | rfl | rfl | rfl | rfl | rfl | rfl | rfl | rfl | rfl | rfl | rfl | rfl | rfl
                · exact wpOp_value (w' := V) (.slice (some ⟨g, 0, none⟩) fs.length cap) rfl rfl (by go_simp) ⟨upd f 0 (.slice (some ⟨g, 0, none⟩) fs.length cap), by kernel_rfl, inv_upd hF (by rfl), inv_world (by decide) hW⟩
                · exact wpOp_value (w' := V) (.int .i64 ((jp : Int) + 1)) rfl rfl (by go_simp) ⟨upd f 1 (.int .i64 ((jp : Int) + 1)), by kernel_rfl, inv_upd hF (by rfl), inv_world (by decide) hW⟩
                · exact wpOp_value (w' := V) (.slice (some ⟨g, 0, none⟩) fs.length cap) rfl rfl (by go_simp) ⟨upd f 2 (.slice (some ⟨g, 0, none⟩) fs.length cap), by kernel_rfl, inv_upd hF (by rfl), inv_world (by decide) hW⟩
                · exact wpOp_value (w' := V) (.int .i64 ((jp : Int) + 1)) rfl rfl (by go_simp) ⟨upd f 3 (.int .i64 ((jp : Int) + 1)), by kernel_rfl, inv_upd hF (by rfl), inv_world (by decide) hW⟩
                · have d3 := hF 3 (by decide) (ready_dep hr rfl (k := 3) (by kernel_rfl))
                  change f 3 = .int .i64 ((jp : Int) + 1) at d3
                  exact wpOp_value (w' := V) (.int .i64 (jp : Int)) rfl rfl (by rw [d3]; go_simp) ⟨upd f 4 (.int .i64 (jp : Int)), by kernel_rfl, inv_upd hF (by rfl), inv_world (by decide) hW⟩
                · exact wpOp_value (w' := V) (.slice (some ⟨g, 0, none⟩) fs.length cap) rfl rfl (by go_simp) ⟨upd f 5 (.slice (some ⟨g, 0, none⟩) fs.length cap), by kernel_rfl, inv_upd hF (by rfl), inv_world (by decide) hW⟩
                · exact wpOp_value (w' := V) (.int .i64 ((jp : Int) + 1)) rfl rfl (by go_simp) ⟨upd f 6 (.int .i64 ((jp : Int) + 1)), by kernel_rfl, inv_upd hF (by rfl), inv_world (by decide) hW⟩
                · have d6 := hF 6 (by decide) (ready_dep hr rfl (k := 6) (by kernel_rfl))
                  change f 6 = .int .i64 ((jp : Int) + 1) at d6
                  exact wpOp_value (w' := V) (.int .i64 (jp : Int)) rfl rfl (by rw [d6]; go_simp) ⟨upd f 7 (.int .i64 (jp : Int)), by kernel_rfl, inv_upd hF (by rfl), inv_world (by decide) hW⟩
                · have d5 := hF 5 (by decide) (ready_dep hr rfl (k := 5) (by kernel_rfl))
                  change f 5 = .slice (some ⟨g, 0, none⟩) fs.length cap at d5
                  have d7 := hF 7 (by decide) (ready_dep hr rfl (k := 7) (by kernel_rfl))
                  change f 7 = .int .i64 (jp : Int) at d7
                  exact wpOp_value (w' := V) (.pointer (some ⟨g, jp * 2, none⟩)) rfl rfl (by rw [d5, d7]; go_simp) ⟨upd f 8 (.pointer (some ⟨g, jp * 2, none⟩)), by kernel_rfl, inv_upd hF (by rfl), inv_world (by decide) hW⟩
                · have d8 := hF 8 (by decide) (ready_dep hr rfl (k := 8) (by kernel_rfl))
                  change f 8 = .pointer (some ⟨g, jp * 2, none⟩) at d8
                  have hl := (listed_self hr).1
                  obtain rfl : V = W.drew := hW.elim (fun h => h.2) (fun h => absurd h.2.1 hl)
                  obtain ⟨⟨f0, f1⟩, f2, f3⟩ := FX.out W.drew (Below.refl _ _).drew
                  exact wpOp_value (w' := W.drew) (fdV y) rfl rfl (by rw [d8]; go_simp) ⟨upd f 9 (fdV y), by kernel_rfl, inv_upd hF (by rfl), inv_world (by decide) hW⟩
                · exact wpOp_value (w' := V) (.slice (some ⟨g, 0, none⟩) fs.length cap) rfl rfl (by go_simp) ⟨upd f 10 (.slice (some ⟨g, 0, none⟩) fs.length cap), by kernel_rfl, inv_upd hF (by rfl), inv_world (by decide) hW⟩
                · exact wpOp_value (w' := V) (.int .i64 ((jp : Int) + 1)) rfl rfl (by go_simp) ⟨upd f 11 (.int .i64 ((jp : Int) + 1)), by kernel_rfl, inv_upd hF (by rfl), inv_world (by decide) hW⟩
                · have d10 := hF 10 (by decide) (ready_dep hr rfl (k := 10) (by kernel_rfl))
                  change f 10 = .slice (some ⟨g, 0, none⟩) fs.length cap at d10
                  have d11 := hF 11 (by decide) (ready_dep hr rfl (k := 11) (by kernel_rfl))
                  change f 11 = .int .i64 ((jp : Int) + 1) at d11
                  exact wpOp_value (w' := V) (.pointer (some ⟨g, (jp + 1) * 2, none⟩)) rfl rfl (by rw [d10, d11]; go_simp) ⟨upd f 12 (.pointer (some ⟨g, (jp + 1) * 2, none⟩)), by kernel_rfl, inv_upd hF (by rfl), inv_world (by decide) hW⟩
                · have d12 := hF 12 (by decide) (ready_dep hr rfl (k := 12) (by kernel_rfl))
                  change f 12 = .pointer (some ⟨g, (jp + 1) * 2, none⟩) at d12
                  have hl := (listed_self hr).1
                  obtain rfl : V = W.drew := hW.elim (fun h => h.2) (fun h => absurd h.2.2.1 hl)
                  obtain ⟨⟨f0, f1⟩, f2, f3⟩ := FX.out W.drew (Below.refl _ _).drew
                  exact wpOp_value (w' := W.drew) (fdV x) rfl rfl (by rw [d12]; go_simp) ⟨upd f 13 (fdV x), by kernel_rfl, inv_upd hF (by rfl), inv_world (by decide) hW⟩
                · have d0 := hF 0 (by decide) (ready_dep hr rfl (k := 0) (by kernel_rfl))
                  change f 0 = .slice (some ⟨g, 0, none⟩) fs.length cap at d0
                  have d1 := hF 1 (by decide) (ready_dep hr rfl (k := 1) (by kernel_rfl))
                  change f 1 = .int .i64 ((jp : Int) + 1) at d1
                  exact wpOp_value (w' := V) (.pointer (some ⟨g, (jp + 1) * 2, none⟩)) rfl rfl (by rw [d0, d1]; go_simp) ⟨upd f 14 (.pointer (some ⟨g, (jp + 1) * 2, none⟩)), by kernel_rfl, inv_upd hF (by rfl), inv_world (by decide) hW⟩
                · have d14 := hF 14 (by decide) (ready_dep hr rfl (k := 14) (by kernel_rfl))
                  have d9 := hF 9 (by decide) (ready_dep hr rfl (k := 9) (by kernel_rfl))
                  change f 14 = .pointer (some ⟨g, (jp + 1) * 2, none⟩) at d14
                  change f 9 = fdV y at d9
                  have hl := (listed_self hr).1
                  obtain rfl : V = W.drew := hW.elim (fun h => h.2) (fun h => absurd h.1 hl)
                  refine wpOp_skip (w' := W.drew.setCells g ((jp + 1) * 2) [.int .i64 y.word, .int .i64 y.cost]) rfl rfl (store_skip 57 (.tmp 51) (.tmp 46) rfl g ((jp + 1) * 2) #[.int .i64 y.word, .int .i64 y.cost] (by rw [d14, d9]; kernel_rfl) (by rw [d14, d9]; kernel_rfl) th1 info57 (by simp [Value.oneCell'])) ⟨f, by kernel_rfl, fun j hj hl => ?_, Or.inr ⟨(listed_self hr).2, listed_mono (ready_dep hr rfl (k := 9) (by kernel_rfl)), listed_mono (ready_dep hr rfl (k := 13) (by kernel_rfl)), rfl⟩⟩
                  rcases listed_set hl with e | e
                  · subst e; exact absurd hj (by decide)
                  · exact hF j hj e
                · have d2 := hF 2 (by decide) (ready_dep hr rfl (k := 2) (by kernel_rfl))
                  change f 2 = .slice (some ⟨g, 0, none⟩) fs.length cap at d2
                  have d4 := hF 4 (by decide) (ready_dep hr rfl (k := 4) (by kernel_rfl))
                  change f 4 = .int .i64 (jp : Int) at d4
                  exact wpOp_value (w' := V) (.pointer (some ⟨g, jp * 2, none⟩)) rfl rfl (by rw [d2, d4]; go_simp) ⟨upd f 16 (.pointer (some ⟨g, jp * 2, none⟩)), by kernel_rfl, inv_upd hF (by rfl), inv_world (by decide) hW⟩
              · rintro listed a V ⟨f, rfl, hF, hW⟩ hall
                have d16 := hF 16 (by decide) (hall 16 (by decide))
                have d13 := hF 13 (by decide) (hall 13 (by decide))
                change f 16 = .pointer (some ⟨g, jp * 2, none⟩) at d16
                change f 13 = fdV x at d13
                obtain rfl : V = W.drew.setCells g ((jp + 1) * 2) [.int .i64 y.word, .int .i64 y.cost] := hW.elim (fun h => by have := hall 15 (by decide); rw [h.1] at this; cases this) (fun h => h.2.2.2)
                refine wpOp_skip (w' := (W.drew.setCells g ((jp + 1) * 2) [.int .i64 y.word, .int .i64 y.cost]).setCells g (jp * 2) [.int .i64 x.word, .int .i64 x.cost]) rfl rfl (store_skip 57 (.tmp 52) (.tmp 50) rfl g (jp * 2) #[.int .i64 x.word, .int .i64 x.cost] (by rw [d16, d13]; kernel_rfl) (by rw [d16, d13]; kernel_rfl) th2 info57 (by simp [Value.oneCell'])) ⟨rfl, ?_⟩
                obtain ⟨z0, z1, z2, z3, z4, z5, z6, z7, z8, z9, z10, z11, z12, z13, z14, z16, hz⟩ : ∃ z0 z1 z2 z3 z4 z5 z6 z7 z8 z9 z10 z11 z12 z13 z14 z16 : Value, f 0 = z0 ∧ f 1 = z1 ∧ f 2 = z2 ∧ f 3 = z3 ∧ f 4 = z4 ∧ f 5 = z5 ∧ f 6 = z6 ∧ f 7 = z7 ∧ f 8 = z8 ∧ f 9 = z9 ∧ f 10 = z10 ∧ f 11 = z11 ∧ f 12 = z12 ∧ f 13 = z13 ∧ f 14 = z14 ∧ f 16 = z16 := ⟨_, _, _, _, _, _, _, _, _, _, _, _, _, _, _, _, rfl, rfl, rfl, rfl, rfl, rfl, rfl, rfl, rfl, rfl, rfl, rfl, rfl, rfl, rfl, rfl⟩
                obtain ⟨h0, h1, h2, h3, h4, h5, h6, h7, h8, h9, h10, h11, h12, h13, h14, h16⟩ := hz
                rw [h0, h1, h2, h3, h4, h5, h6, h7, h8, h9, h10, h11, h12, h13, h14, h16]
                have FB5 := Lib.hid FB4
                clear FBd FB3 FB4 th1 th2 FB2 BT3 hF hW hall d16 d13 h0 h1 h2 h3 h4 h5 h6 h7 h8 h9 h10 h11 h12 h13 h14 h16
                generalize (W.drew.setCells g ((jp + 1) * 2) [.int .i64 y.word, .int .i64 y.cost]).setCells g (jp * 2) [.int .i64 x.word, .int .i64 x.cost] = W6 at *
                dsimp only [Act.put]
                go_wp2_with fail
                go_roundw
                case rel => exact ⟨jp, by go_num, by omega, FB5.out, DD.out HC.out, BT4.out⟩
                case measure => simp [intOf]
            · have hvn : ¬ v < 0 := by rw [hv]; unfold cmpI; rw [if_neg hc]; split <;> decide
              have dv : decide (v < 0) = false := decide_eq_false hvn
              have HE := Lib.hid (show OuRel w g fs (i + 1) wr from ⟨insF P x (jp + 1), by rw [insF_len _ _ _ (by omega), PL.out], fun y => by rw [insF_mem]; exact XM.out y, IS.out hc, FB.out, BT2.out⟩)
              clear hc hv
              go_upto_region 4 with fail
              refine wp_normal ?_
              refine wp_region_class (C := fun W => Below wr.heap.size wr W) (by kernel_rfl) (by kernel_rfl) (Below.refl _ _).drew ?_
              repeat (first | go_big_quiet_skip | (go_big_quiet_want; first | (go_big_quiet_op; go_big_quiet_on) | (refine quiet_value ?_ (fun W h => ?_) ?_; rotate_left; (· obtain ⟨⟨f0, f1⟩, f2, f3⟩ := FW.out W h; go_simp; rfl); go_simp; go_big_quiet_on) | (refine quiet_call _ _ _ (fun W => ?_) C1 ?_; (· go_simp; done); go_simp; go_big_quiet_on)))
              refine wpQuiet_nil ?_
              intro W hb
              refine ⟨rfl, ?_⟩
              have HE2 := Lib.hid (show OuRel w g fs (i + 1) W by
                obtain ⟨P', r1, r2, r3, r4, r5⟩ := HE.out
                exact ⟨P', r1, r2, r3, r4.below hb, r5.trans (But.of hb)⟩)
              clear hb HE FW C1
              go_wp2_with fail
              go_roundw
              case rel => exact ⟨i + 1, by go_num, by omega, by omega, HE2.out⟩
              case measure => simp [intOf]; omega
          · have hj0 : j = 0 := by omega
            have HE := Lib.hid (show OuRel w g fs (i + 1) wr from ⟨insF P x j, by rw [insF_len _ _ _ (by rw [PL.out]; exact hj), PL.out], fun y => by rw [insF_mem]; exact XM.out y, insF_sorted P x j (by rw [PL.out]; exact hj) PS.out XW.out DC.out (Or.inl hj0), FB.out, BT2.out⟩)
            have D1 : decide (0 < j) = false := decide_eq_false (by omega)
            clear hj0
            go_upto_region 4 with fail
            refine wp_normal ?_
            refine wp_region_class (C := fun W => Below wr.heap.size wr W) (by kernel_rfl) (by kernel_rfl) (Below.refl _ _).drew ?_
            repeat (first | go_big_quiet_skip | (go_big_quiet_want; first | (go_big_quiet_op; go_big_quiet_on) | (refine quiet_value ?_ (fun W h => ?_) ?_; rotate_left; (· go_simp; rfl); go_simp; go_big_quiet_on)))
            refine wpQuiet_nil ?_
            intro W hb
            refine ⟨rfl, ?_⟩
            have HE2 := Lib.hid (show OuRel w g fs (i + 1) W by
              obtain ⟨P', r1, r2, r3, r4, r5⟩ := HE.out
              exact ⟨P', r1, r2, r3, r4.below hb, r5.trans (But.of hb)⟩)
            clear hb HE
            go_wp2_with fail
            go_roundw
            case rel => exact ⟨i + 1, by go_num, by omega, by omega, HE2.out⟩
            case measure => simp [intOf]; omega
      · have hie : i = fs.length := by omega
        have HE := Lib.hid (show (∃ R, SortOf fs R ∧ FBlk wr g R) from ⟨P, ⟨by rw [PL.out, hie], fun y => by rw [PM.out y, hie, List.take_length], PS.out⟩, by have := PF.out; rw [hie, List.drop_length, List.append_nil] at this; exact this⟩)
        clear hie
        go_wp2_with fail
        exact ret_none Try.results41 rfl ⟨rfl, HE.out, BT.out⟩
end Go.Proofs.Ytadaijepalhohaa
