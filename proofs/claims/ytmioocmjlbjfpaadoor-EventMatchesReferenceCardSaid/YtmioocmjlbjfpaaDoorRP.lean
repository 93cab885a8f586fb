/-
  The reference's words and its Print on valid events.
-/
import Derived.Test.YtmioocmjlbjfpaaDoorII
import Derived.Test.YtmioocmjlbjfpaaDoorAA
import Derived.Deep.DeepCutAuto
import Derived.Deep.CutBlock
import Derived.Deep.RegionWith
import Derived.Deep.RegionHeld3
namespace Go.Proofs.YtmioocmjlbjfpaaDoor
open Go.RowKit
open Pl

theorem cat_step {ops : Array Oper} {rest : List Oper} {o : Oper} {a : Act} {W : World} {Q : Exit → Act → World → Prop} (hg : o.guard = none) (x y : Operand) (t : TypeId) (hop : o.op = Op.binOp .add 9 x y t)
    (s1 s2 : ByteArray) (hx : a.eval x = .string s1) (hy : a.eval y = .string s2) (h : s1.size + s2.size ≤ 9223372036854775807)
    (hK : wpList Tryd.prog ops Q rest (a.put o.dst (.string (s1 ++ s2))) W) : wpList Tryd.prog ops Q (o :: rest) a W := by
  refine wpList_plain hg fun K' hK' => ?_
  have hrun := run_string_add_sum (P := Tryd.prog) W s1 s2 h
  have hb : (binOp .add 9 (.string s1) (.string s2)).run Tryd.prog W = .ok (.string (s1 ++ s2)) W := by rw [binOp_string_add]; exact hrun
  unfold Oper.wp
  simp [execOp, hop, hx, hy, hb, eqGuard, Result.andThen]
  exact hK' _ _ hK

/-- The word of a kind. -/
def wordOf : Nat → List UInt8
  | 0 => []
  | n + 1 => nameTab n
theorem word_cells (W : World) (cs : Array Value) (t : TypeId) (i : Nat) (v : Value) (h : cs[i]? = some v) : (W.alloc (.cells cs t)).cell? ⟨W.heap.size, i, none⟩ = some v := by
  have hh := heap_alloc_new W (.cells cs t)
  simp only [World.cell?, hh]
  exact h
theorem words_any (w : World) : Calls Tryd.prog 14 #[] w fun e w' => e = .returned (.slice (some ⟨w.heap.size, 0, none⟩) 13 13) ∧ (∀ i, i < 12 → w'.cell? ⟨w.heap.size, i + 1, none⟩ = some (.string (B (nameTab i)))) ∧ w'.cell? ⟨w.heap.size, 0, none⟩ = some (.string (B [])) ∧ w.heap.size < w'.heap.size ∧ Below w.heap.size w w' := by
  go_enter Tryd.func14, Tryd.ntmps14
  go_wp2_with fail
  go_ret
  refine ⟨rfl, under12 ?_ ?_ ?_ ?_ ?_ ?_ ?_ ?_ ?_ ?_ ?_ ?_, ?_, by rw [World.size_alloc]; omega, (Below.refl _ _).alloc (Nat.le_refl _) _⟩ <;> exact word_cells _ _ _ _ _ rfl

/-- What the reference prints of an event of kind k. -/
def keyPart (l : List UInt8) : List UInt8 := if l = [] then [] else 32 :: l
def nPart (k : Nat) (n : Int) : List UInt8 := if k = 9 ∨ k = 10 then 32 :: Lib.decDigits n.toNat else []
def lPart (k : Nat) (n : Int) : List UInt8 := if k = 9 then 32 :: Lib.decDigits n.toNat else []
def rpr (k : Nat) (ev : Ev) : List UInt8 := nameTab (k - 1) ++ keyPart ev.keys ++ wrNums (flatP ev.p) ++ keyPart ev.text ++ nPart k ev.n ++ lPart k ev.l
theorem keyPart_len (l : List UInt8) : (keyPart l).length ≤ l.length + 1 := by unfold keyPart; split <;> simp
theorem keyPart_no {l : List UInt8} (h : l = []) : keyPart l = [] := if_pos h
theorem keyPart_yes {l : List UInt8} (h : l ≠ []) : keyPart l = 32 :: l := if_neg h
theorem B_32 (l : List UInt8) : (⟨#[32]⟩ : ByteArray) ++ B l = B (32 :: l) := B_app [32] l
theorem wrNums_pt (ps : List (Int × Int)) (t : Nat) (h : t < ps.length) : wrNums (flatP (ps.take (t + 1))) = wrNums (flatP (ps.take t)) ++ (32 :: (Lib.decDigits ps[t].1.toNat ++ 32 :: Lib.decDigits ps[t].2.toNat)) := by
  rw [flatP_take ps t h]
  simp [wrNums]
theorem flatP_mem (ps : List (Int × Int)) (t n : Nat) (h : n ∈ flatP (ps.take t)) : n ∈ flatP ps := by
  unfold flatP at h ⊢
  rw [List.mem_flatMap] at h ⊢
  obtain ⟨p, hp, hn⟩ := h
  exact ⟨p, List.mem_of_mem_take hp, hn⟩
theorem pt_str (st a b : List UInt8) : B st ++ ((⟨#[32]⟩ : ByteArray) ++ B a ++ ⟨#[32]⟩ ++ B b) = B (st ++ (32 :: (a ++ 32 :: b))) := by
  show B st ++ (B [32] ++ B a ++ B [32] ++ B b) = _
  rw [B_app, B_app, B_app, B_app]
  simp
theorem empty_no : (!(B []).toList.isEmpty) = false := by rw [isEmpty_nil]; rfl
theorem size_32 (l : List UInt8) : (⟨#[32]⟩ : ByteArray).size + (B l).size = l.length + 1 := by rw [size_B]; show 1 + l.length = _; omega

set_option maxHeartbeats 2000000 in
set_option maxRecDepth 100000 in
theorem RPrint_any (ev : Ev) (k : Nat) (hk : ev.kind = (k : Int)) (h1 : 1 ≤ k) (h12 : k ≤ 12) (va : Option Addr) (vc : Nat) (w : World) (hP : PtsAt w w.heap.size (.slice va ev.p.length vc) ev.p) (hpl : ev.p.length ≤ 12) (hin : insideB ev.p = true)
    (hkl : ev.keys.length ≤ 20) (htl : ev.text.length ≤ 20) (hn0 : 0 ≤ ev.n) (hn1 : ev.n ≤ 1000) (hl0 : 0 ≤ ev.l) (hl1 : ev.l ≤ 1000) :
    Calls Tryd.prog 5 #[evV ev va vc] w fun e w' => e = .returned (.string (B (rpr k ev))) ∧ Below w.heap.size w w' := by
  obtain ⟨kd, keys, ps, text, n, l⟩ := ev
  dsimp only at hk hP hpl hin hkl htl hn0 hn1 hl0 hl1
  subst hk
  have h0 : Below w.heap.size w (w.alloc (.cells #[.int .i64 (k : Int), .string (B keys), .slice va ps.length vc, .string (B text), .int .i64 n, .int .i64 l] 31)) := (Below.refl _ _).alloc (Nat.le_refl _) _
  have HP := Lib.hid ((hP.below h0).up h0.size)
  have HE := Lib.hid (EvBlock.new w (.int .i64 (k : Int)) (.string (B keys)) (.slice va ps.length vc) (.string (B text)) (.int .i64 n) (.int .i64 l))
  have H0 := Lib.hid h0
  clear h0 hP
  go_enter Tryd.func5, Tryd.ntmps5
  go_upto_region 1 with fail
  generalize w.alloc _ = w1 at *
  obtain ⟨c0, c1, c2, c3, c4, c5⟩ := HE.out.cells
  have hk0 : (0 : Int) ≤ (k : Int) := by omega
  have hk13 : (k : Int) < 13 := by omega
  go_cut [3] (fun s3 wx => s3 = .string (B (nameTab (k - 1))) ∧ Below w1.heap.size w1 wx)
  case first =>
    have CW : Hid (Calls Tryd.prog 14 #[] w1.drew fun e w' => e = .returned (.slice (some ⟨w1.heap.size, 0, none⟩) 13 13) ∧ w'.cell? ⟨w1.heap.size, k, none⟩ = some (.string (B (nameTab (k - 1)))) ∧ w'.cell? ⟨w.heap.size, 0, none⟩ = some (.int .i64 (k : Int)) ∧ Below w1.heap.size w1 w') := by
      refine Lib.hid ((words_any w1.drew).mono ?_)
      rintro e w' ⟨rfl, h, -, -, hb⟩
      have h' := h (k - 1) (by omega)
      rw [show k - 1 + 1 = k by omega] at h'
      have hb' := (Below.refl w1.heap.size w1).drew.trans hb
      exact ⟨rfl, h', (HE.out.below hb').cells.1, hb'⟩
    go_region_with (go_at_call 14; refine (CW.out).mono ?_; rintro e w' ⟨rfl, hw1, hw2, hw3⟩)
    all_goals
      go_wp2_with fail
      go_meet
      exact ⟨rfl, by assumption⟩
  case rest =>
    obtain ⟨rfl, hb⟩ := hcut
    have E0 := Lib.hid (HE.out.below hb)
    have P0 := Lib.hid ((HP.out.below hb).up hb.size)
    have HB := Lib.hid (H0.out.trans (hb.mono H0.out.size))
    clear hb HE HP H0 c0 c1 c2 c3 c4 c5 hk0 hk13
    have A1 := Lib.hid (show (nameTab (k - 1)).length ≤ 6 by have h := name_len (k - 1) (by omega); rwa [size_B] at h)
    generalize hacc : nameTab (k - 1) = acc at *
    have HK := Lib.hid hacc
    clear hacc
    obtain ⟨c0, c1, c2, c3, c4, c5⟩ := E0.out.cells
    go_upto_if 12 with fail
    go_cut [3] (fun s3 wx => s3 = .string (B (acc ++ keyPart keys)) ∧ wx = wc)
    case first =>
      by_cases hk : keys = []
      · have E := Lib.hid (keyPart_no hk)
        subst hk
        have H := empty_no
        rw [H]
        clear H
        go_wp2_with fail
        go_meet
        exact ⟨by rw [E.out, List.append_nil], rfl⟩
      · have H := isEmpty_ne hk
        have E := Lib.hid (keyPart_yes hk)
        have HS1 := Lib.hid (show (⟨#[32]⟩ : ByteArray).size + (B keys).size ≤ 9223372036854775807 by rw [size_32]; omega)
        have HS2 := Lib.hid (show (B acc).size + ((⟨#[32]⟩ : ByteArray) ++ B keys).size ≤ 9223372036854775807 by have := A1.out; rw [B_32, size_B, size_B]; simp; omega)
        rw [H]
        clear hk H
        go_wp2_with (first
          | (refine cat_step rfl _ _ _ rfl ⟨#[32]⟩ (B keys) rfl rfl HS1.out ?_)
          | (refine cat_step rfl _ _ _ rfl (B acc) (⟨#[32]⟩ ++ B keys) rfl rfl HS2.out ?_))
        go_meet
        exact ⟨by rw [E.out, B_32, B_app], rfl⟩
    case rest =>
      obtain ⟨rfl, rfl⟩ := hcut
      have A2 := Lib.hid (show (acc ++ keyPart keys).length ≤ 27 by have := A1.out; have := keyPart_len keys; rw [List.length_append]; omega)
      clear A1
      generalize hacc2 : acc ++ keyPart keys = acc2 at *
      have HK2 := Lib.hid hacc2
      clear hacc2
      go_upto_block 0 with fail
      generalize wc = wa at *
      go_cut [3, 4] (fun s3 s4 wx => s3 = .string (B (acc2 ++ wrNums (flatP ps))) ∧ Below wa.heap.size wa wx)
      case first =>
        go_wp2_with fail
        go_loopw [3, 4] (fun s i wr => ∃ t : Nat, i = .int .i64 t ∧ t ≤ ps.length ∧ s = .string (B (acc2 ++ wrNums (flatP (ps.take t)))) ∧ Below wa.heap.size wa wr) (fun _ i _ => ps.length - (intOf i).toNat)
        case atStart => exact ⟨0, rfl, Nat.zero_le _, by simp [flatP, wrNums], Below.refl _ _⟩
        case round =>
          obtain ⟨t, rfl, ht, rfl, hbr⟩ := hrel
          obtain ⟨c0, c1, c2, c3, c4, c5⟩ := (E0.out.below hbr).cells
          by_cases hlt : t < ps.length
          · obtain ⟨a', c', hv, hP1⟩ := P0.out.below hbr
            obtain ⟨rfl, -⟩ : va = a' ∧ vc = c' := by simpa using hv
            obtain ⟨pb, off, rfl, hpb, hc⟩ := hP1 (by omega)
            obtain ⟨p0, p1⟩ := hc t hlt
            have hxy := inside_of ps hin t hlt
            have HN := wrNums_pt ps t hlt
            have HL := wrNums_len5 (flatP (ps.take t)) (fun n hn => flatP_lt hin n (flatP_mem ps t n hn))
            rw [flatP_len, List.length_take] at HL
            clear hv hP1 hc
            generalize ps[t] = xy at *
            obtain ⟨x, y⟩ := xy
            dsimp only at hxy p0 p1 HN
            obtain ⟨X, rfl⟩ := Int.eq_ofNat_of_zero_le hxy.1.1
            obtain ⟨Y, rfl⟩ := Int.eq_ofNat_of_zero_le hxy.2.1
            have hX : X ≤ 1000 := by omega
            have hY : Y ≤ 1000 := by omega
            have hst : (B (acc2 ++ wrNums (flatP (ps.take t)))).size ≤ 300 := by have := A2.out; rw [size_B, List.length_append]; omega
            have hdx : (B (Lib.decDigits X)).size ≤ 7 := by rw [size_B]; exact dec_len 6 _ (by omega)
            have hdy : (B (Lib.decDigits Y)).size ≤ 7 := by rw [size_B]; exact dec_len 6 _ (by omega)
            have hs8 : ¬ 9223372036854775807 < 1 + (B (Lib.decDigits X)).size := by omega
            have hs9 : ¬ 9223372036854775807 < 1 + (B (Lib.decDigits X)).size + 1 := by omega
            have hs17 : ¬ 9223372036854775807 < 1 + (B (Lib.decDigits X)).size + 1 + (B (Lib.decDigits Y)).size := by omega
            have hs18 : ¬ 9223372036854775807 < (B (acc2 ++ wrNums (flatP (ps.take t)))).size + (1 + (B (Lib.decDigits X)).size + 1 + (B (Lib.decDigits Y)).size) := by omega
            have HN' := Lib.hid HN
            have CB : ∀ W, Below wr.heap.size wr W → Hid (W.cell? ⟨w.heap.size, 2, none⟩ = some (.slice (some ⟨pb, off, none⟩) ps.length vc) ∧ W.cell? ⟨pb, off + t * 2, none⟩ = some (.int .i64 (X : Int)) ∧ W.cell? ⟨pb, off + t * 2 + 1, none⟩ = some (.int .i64 (Y : Int)) ∧ Below wr.heap.size wr W) := fun W hb =>
              Lib.hid ⟨(hb.cell (p := ⟨w.heap.size, 2, none⟩) (World.block_lt_of_cell? _ _ c2)).trans c2, (hb.cell (p := ⟨pb, off + t * 2, none⟩) (World.block_lt_of_cell? _ _ p0)).trans p0, (hb.cell (p := ⟨pb, off + t * 2 + 1, none⟩) (World.block_lt_of_cell? _ _ p1)).trans p1, hb⟩
            have CX : ∀ W, (W.cell? ⟨w.heap.size, 2, none⟩ = some (.slice (some ⟨pb, off, none⟩) ps.length vc) ∧ W.cell? ⟨pb, off + t * 2, none⟩ = some (.int .i64 (X : Int)) ∧ W.cell? ⟨pb, off + t * 2 + 1, none⟩ = some (.int .i64 (Y : Int)) ∧ Below wr.heap.size wr W) → Hid (Calls Tryd.prog 15 #[.int .i64 (X : Int)] W fun e w' => e = .returned (.string (B (Lib.decDigits X))) ∧ w'.cell? ⟨w.heap.size, 2, none⟩ = some (.slice (some ⟨pb, off, none⟩) ps.length vc) ∧ w'.cell? ⟨pb, off + t * 2, none⟩ = some (.int .i64 (X : Int)) ∧ w'.cell? ⟨pb, off + t * 2 + 1, none⟩ = some (.int .i64 (Y : Int)) ∧ Below wr.heap.size wr w') := fun W h => by
              obtain ⟨-, -, -, hb⟩ := h
              refine Lib.hid ((decimal_any 6 X W (by omega) (by omega)).mono ?_)
              rintro e w' ⟨rfl, hb'⟩
              exact ⟨rfl, (CB w' (hb.trans (hb'.mono hb.size))).out⟩
            have CY : ∀ W, (W.cell? ⟨w.heap.size, 2, none⟩ = some (.slice (some ⟨pb, off, none⟩) ps.length vc) ∧ W.cell? ⟨pb, off + t * 2, none⟩ = some (.int .i64 (X : Int)) ∧ W.cell? ⟨pb, off + t * 2 + 1, none⟩ = some (.int .i64 (Y : Int)) ∧ Below wr.heap.size wr W) → Hid (Calls Tryd.prog 15 #[.int .i64 (Y : Int)] W fun e w' => e = .returned (.string (B (Lib.decDigits Y))) ∧ w'.cell? ⟨w.heap.size, 2, none⟩ = some (.slice (some ⟨pb, off, none⟩) ps.length vc) ∧ w'.cell? ⟨pb, off + t * 2, none⟩ = some (.int .i64 (X : Int)) ∧ w'.cell? ⟨pb, off + t * 2 + 1, none⟩ = some (.int .i64 (Y : Int)) ∧ Below wr.heap.size wr w') := fun W h => by
              obtain ⟨-, -, -, hb⟩ := h
              refine Lib.hid ((decimal_any 6 Y W (by omega) (by omega)).mono ?_)
              rintro e w' ⟨rfl, hb'⟩
              exact ⟨rfl, (CB w' (hb.trans (hb'.mono hb.size))).out⟩
            have ht0 : (0 : Int) ≤ (t : Int) := by omega
            have ht1 : (t : Int) < (ps.length : Int) := by omega
            clear hxy HN HL hX hY hpb
            generalize hsteq : acc2 ++ wrNums (flatP (ps.take t)) = st at *
            have Hst := Lib.hid hsteq
            clear hsteq
            have hbr' := Lib.hid hbr
            obtain ⟨q0, q1, q2, q3⟩ := (CB wr (Below.refl _ _)).out
            clear CB hbr
            go_wp2_with fail
            go_region_held3 (fun W => W.cell? ⟨w.heap.size, 2, none⟩ = some (.slice (some ⟨pb, off, none⟩) ps.length vc) ∧ W.cell? ⟨pb, off + t * 2, none⟩ = some (.int .i64 (X : Int)) ∧ W.cell? ⟨pb, off + t * 2 + 1, none⟩ = some (.int .i64 (Y : Int)) ∧ Below wr.heap.size wr W) (first | assumption | (refine ⟨?_, ?_, ?_, ?_⟩ <;> first | assumption | exact Below.drew (by assumption)))
              (first
                | (go_at_call_of 15 (Value.int IntKind.i64 (X : Int)); refine ((CX _ ?_).out).mono ?_; (assumption); rintro e w' ⟨rfl, hcj⟩)
                | (go_at_call_of 15 (Value.int IntKind.i64 (Y : Int)); refine ((CY _ ?_).out).mono ?_; (assumption); rintro e w' ⟨rfl, hcj⟩))
            have hb5 := hcj.2.2.2
            clear hs8 hs9 hs17 hs18 CX CY q0 q1 q2 q3 p0 p1 c0 c1 c2 c3 c4 c5 hst hdx hdy hcj
            go_wp2_with fail
            go_roundw
            case rel => exact ⟨t + 1, by go_num, by omega, by rw [HN'.out, ← List.append_assoc, Hst.out, pt_str]; rfl, hbr'.out.trans (hb5.mono hbr'.out.size)⟩
            case measure => simp [intOf]; omega
          · obtain rfl : t = ps.length := by omega
            have hnk : ¬ ((ps.length : Nat) : Int) < (ps.length : Int) := by omega
            go_wp2_with fail
            go_meet
            exact ⟨rfl, hbr⟩
      case rest =>
        obtain ⟨rfl, hbd⟩ := hcut
        have E1 := Lib.hid (E0.out.below hbd)
        have HB1 := Lib.hid (HB.out.trans (hbd.mono HB.out.size))
        have A3 := Lib.hid (show (acc2 ++ wrNums (flatP ps)).length ≤ 147 by
          have h1 := A2.out
          have h2 := wrNums_len5 (flatP ps) (flatP_lt hin)
          rw [flatP_len] at h2
          rw [List.length_append]; omega)
        clear hbd E0 HB P0 A2 c0 c1 c2 c3 c4 c5
        generalize hacc3 : acc2 ++ wrNums (flatP ps) = acc3 at *
        have HK3 := Lib.hid hacc3
        clear hacc3
        obtain ⟨c0, c1, c2, c3, c4, c5⟩ := E1.out.cells
        go_upto_if 46 with fail
        generalize wc = wd at *
        go_cut [3] (fun s3 wx => s3 = .string (B (acc3 ++ keyPart text)) ∧ wx = wd)
        case first =>
          by_cases hk : text = []
          · have E := Lib.hid (keyPart_no hk)
            subst hk
            have H := empty_no
            rw [H]
            clear H
            go_wp2_with fail
            go_meet
            exact ⟨by rw [E.out, List.append_nil], rfl⟩
          · have H := isEmpty_ne hk
            have E := Lib.hid (keyPart_yes hk)
            have HS1 := Lib.hid (show (⟨#[32]⟩ : ByteArray).size + (B text).size ≤ 9223372036854775807 by rw [size_32]; omega)
            have HS2 := Lib.hid (show (B acc3).size + ((⟨#[32]⟩ : ByteArray) ++ B text).size ≤ 9223372036854775807 by have := A3.out; rw [B_32, size_B, size_B]; simp; omega)
            rw [H]
            clear hk H
            go_wp2_with (first
              | (refine cat_step rfl _ _ _ rfl ⟨#[32]⟩ (B text) rfl rfl HS1.out ?_)
              | (refine cat_step rfl _ _ _ rfl (B acc3) (⟨#[32]⟩ ++ B text) rfl rfl HS2.out ?_))
            go_meet
            exact ⟨by rw [E.out, B_32, B_app], rfl⟩
        case rest =>
          obtain ⟨rfl, rfl⟩ := hcut
          have A4 := Lib.hid (show (acc3 ++ keyPart text).length ≤ 168 by have := A3.out; have := keyPart_len text; rw [List.length_append]; omega)
          clear A3
          generalize hacc4 : acc3 ++ keyPart text = acc4 at *
          have HK4 := Lib.hid hacc4
          clear hacc4
          obtain ⟨N, rfl⟩ := Int.eq_ofNat_of_zero_le hn0
          obtain ⟨L, rfl⟩ := Int.eq_ofNat_of_zero_le hl0
          have HR := Lib.hid (show acc4 ++ nPart k (N : Int) ++ lPart k (L : Int) = rpr k ⟨(k : Int), keys, ps, text, (N : Int), (L : Int)⟩ by
            rw [← HK4.out, ← HK3.out, ← HK2.out, ← HK.out]; rfl)
          have CN := fun W => Lib.hid (decimal_any 6 N W (by omega) (by omega))
          have CL := fun W => Lib.hid (decimal_any 6 L W (by omega) (by omega))
          have hdN : (B (Lib.decDigits N)).size ≤ 7 := by rw [size_B]; exact dec_len 6 _ (by omega)
          have hdL : (B (Lib.decDigits L)).size ≤ 7 := by rw [size_B]; exact dec_len 6 _ (by omega)
          have h4 : (B acc4).size ≤ 168 := by rw [size_B]; exact A4.out
          clear HK HK2 HK3 HK4 A4 hpl hin hkl htl hn0 hn1 hl0 hl1 h1 h12
          have HSN := Lib.hid (show (⟨#[32]⟩ : ByteArray).size + (B (Lib.decDigits N)).size ≤ 9223372036854775807 by rw [size_32]; rw [size_B] at hdN; omega)
          have HSN2 := Lib.hid (show (B acc4).size + ((⟨#[32]⟩ : ByteArray) ++ B (Lib.decDigits N)).size ≤ 9223372036854775807 by rw [B_32, size_B (32 :: _)]; rw [size_B] at hdN; simp; omega)
          have HSL := Lib.hid (show (⟨#[32]⟩ : ByteArray).size + (B (Lib.decDigits L)).size ≤ 9223372036854775807 by rw [size_32]; rw [size_B] at hdL; omega)
          by_cases h9 : k = 9
          · have HN := Lib.hid (show nPart k (N : Int) = 32 :: Lib.decDigits N from if_pos (Or.inl h9))
            have HL := Lib.hid (show lPart k (L : Int) = 32 :: Lib.decDigits L from if_pos h9)
            have hk9 : ((k : Int) == 9) = true := by subst h9; rfl
            have HSL2 := Lib.hid (show (B acc4 ++ ((⟨#[32]⟩ : ByteArray) ++ B (Lib.decDigits N))).size + ((⟨#[32]⟩ : ByteArray) ++ B (Lib.decDigits L)).size ≤ 9223372036854775807 by rw [B_32, B_32, B_app, size_B, size_B]; rw [size_B] at hdL hdN h4; simp; omega)
            clear h9 hdN hdL h4
            go_wp2_with fail
            refine ((CN _).out).mono ?_
            rintro e x1 ⟨rfl, hb⟩
            have E2 := Lib.hid (E1.out.below hb)
            have HB2 := Lib.hid (HB1.out.trans (hb.mono HB1.out.size))
            clear hb c0 c1 c2 c3 c4 c5
            obtain ⟨c0, c1, c2, c3, c4, c5⟩ := E2.out.cells
            go_wp2_with (first
              | (refine cat_step rfl _ _ _ rfl ⟨#[32]⟩ (B (Lib.decDigits N)) rfl rfl HSN.out ?_)
              | (refine cat_step rfl _ _ _ rfl (B acc4) (⟨#[32]⟩ ++ B (Lib.decDigits N)) rfl rfl HSN2.out ?_))
            refine ((CL _).out).mono ?_
            rintro e x2 ⟨rfl, hb⟩
            have HB3 := Lib.hid (HB2.out.trans (hb.mono HB2.out.size))
            clear hb c0 c1 c2 c3 c4 c5
            go_wp2_with (first
              | (refine cat_step rfl _ _ _ rfl ⟨#[32]⟩ (B (Lib.decDigits L)) rfl rfl HSL.out ?_)
              | (refine cat_step rfl _ _ _ rfl (B acc4 ++ (⟨#[32]⟩ ++ B (Lib.decDigits N))) (⟨#[32]⟩ ++ B (Lib.decDigits L)) rfl rfl HSL2.out ?_))
            go_ret
            exact ⟨ret_str (by rw [← HR.out, HN.out, HL.out, B_32, B_32, B_app, B_app]), HB3.out⟩
          · have HL := Lib.hid (show lPart k (L : Int) = [] from if_neg h9)
            have hk9 : ((k : Int) == 9) = false := by rw [beq_eq_false_iff_ne]; omega
            by_cases h10 : k = 10
            · have HN := Lib.hid (show nPart k (N : Int) = 32 :: Lib.decDigits N from if_pos (Or.inr h10))
              have hk10 : ((k : Int) == 10) = true := by subst h10; rfl
              clear h9 h10 hdN hdL h4
              go_wp2_with fail
              refine ((CN _).out).mono ?_
              rintro e x1 ⟨rfl, hb⟩
              have E2 := Lib.hid (E1.out.below hb)
              have HB2 := Lib.hid (HB1.out.trans (hb.mono HB1.out.size))
              clear hb c0 c1 c2 c3 c4 c5
              obtain ⟨c0, c1, c2, c3, c4, c5⟩ := E2.out.cells
              go_wp2_with (first
                | (refine cat_step rfl _ _ _ rfl ⟨#[32]⟩ (B (Lib.decDigits N)) rfl rfl HSN.out ?_)
                | (refine cat_step rfl _ _ _ rfl (B acc4) (⟨#[32]⟩ ++ B (Lib.decDigits N)) rfl rfl HSN2.out ?_))
              go_ret
              exact ⟨ret_str (by rw [← HR.out, HN.out, HL.out, B_32, B_app, List.append_nil]), HB2.out⟩
            · have HN := Lib.hid (show nPart k (N : Int) = [] from if_neg (by omega))
              have hk10 : ((k : Int) == 10) = false := by rw [beq_eq_false_iff_ne]; omega
              clear h9 h10 hdN hdL h4
              go_wp2_with fail
              go_ret
              exact ⟨ret_str (by rw [← HR.out, HN.out, HL.out, List.append_nil, List.append_nil]), HB1.out⟩
end Go.Proofs.YtmioocmjlbjfpaaDoor
