/-
  Pairs are compared; letters that are alike, in memory; validAlike, Valid.
-/
import Derived.Test.YtadaijepalhohaaAC
import Derived.DeepKeys
namespace Go.Proofs.Ytadaijepalhohaa
open Go.RowKit
open Pl

theorem shut_wf_u8 (a : Nat) (h : a < 256) : (Lit.int .u8 (a : Int)).wf = true := by
  have e1 : IntKind.u8.min = 0 := rfl
  have e2 : IntKind.u8.max = 255 := rfl
  simp [Lit.wf, e1, e2]
  omega
theorem u8_lits (a : Nat) (h : a < 256) : Try.prog.keyLits 4 5 [.int .u8 (a : Nat)] = some [.int .u8 (a : Nat)] := by
  have hw : (Lit.int .u8 (a : Int)).wf = true := shut_wf_u8 a h
  unfold Program.keyLits
  simp [Try.underlying5, hw]
theorem pair_lits (a b : Nat) (ha : a < 256) (hb : b < 256) : Try.prog.keyLits 5 80 [.int .u8 (a : Nat), .int .u8 (b : Nat)] = some [.int .u8 (a : Nat), .int .u8 (b : Nat)] := by
  have h0 := u8_lits a ha
  have h1 := u8_lits b hb
  unfold Program.keyLits
  simp only [Try.underlying80, show Try.prog.cellsOf 80 = 2 by kernel_rfl, show Try.prog.cellsOf 5 = 1 by kernel_rfl]
  simp [List.range_succ, h0, h1]
theorem pair_key : Try.prog.keyTypeAt 5 80 = true := by kernel_rfl
theorem pair_formed (a b : Int) : (Value.agg #[.int .u8 a, .int .u8 b]).formed Try.prog 80 = true := by kernel_rfl
theorem pair_has (x : Al) (p q : UInt8) : (min x.a.toNat x.b.toNat = min p.toNat q.toNat ∧ max x.a.toNat x.b.toNat = max p.toNat q.toNat) ↔ x.has p q = true := by
  unfold Al.has
  simp only [Bool.or_eq_true, Bool.and_eq_true, beq_iff_eq, ← UInt8.toNat_inj]
  omega
theorem eql_pair (x : Al) (p q : UInt8) (W : World) : (binOp .eql 80 (prV x.a x.b) (prV p q)).run Try.prog W = .ok (.bool (x.has p q)) W := by
  rw [run_eql_struct, show (10000 : Nat) = 9995 + 5 from rfl]
  obtain ⟨r, h1, h2⟩ := run_equalIn_deep 9995 5 80 pair_key W 5 5 (prV x.a x.b) (prV p q) _ _ (pair_formed _ _) (pair_formed _ _) (pair_lits _ _ (by have := x.a.toNat_lt; have := x.b.toNat_lt; omega) (by have := x.a.toNat_lt; have := x.b.toNat_lt; omega)) (pair_lits _ _ (by have := p.toNat_lt; have := q.toNat_lt; omega) (by have := p.toNat_lt; have := q.toNat_lt; omega))
  rw [h1]
  have e : r = x.has p q := by
    rw [Bool.eq_iff_iff, h2, ← pair_has]
    simp only [List.cons.injEq, Lit.int.injEq, true_and, and_true, Int.ofNat_inj]
  rw [e]; rfl
/-- Two letters that are alike, as a value. -/
abbrev alV (x : Al) : Value := .agg #[.int .u8 (x.a.toNat : Nat), .int .u8 (x.b.toNat : Nat), .int .i64 x.c]
/-- The slice v reads as these letters, in memory below block number B0. -/
def AlsAt (W : World) (B0 : Nat) (v : Value) (xs : List Al) : Prop :=
  ∃ a c, v = .slice a xs.length c ∧ (0 < xs.length → ∃ b off, a = some ⟨b, off, none⟩ ∧ b < B0 ∧ ∀ i (h : i < xs.length), W.cell? ⟨b, off + i * 3, none⟩ = some (.int .u8 (xs[i].a.toNat : Nat)) ∧ W.cell? ⟨b, off + i * 3 + 1, none⟩ = some (.int .u8 (xs[i].b.toNat : Nat)) ∧ W.cell? ⟨b, off + i * 3 + 2, none⟩ = some (.int .i64 xs[i].c))
theorem AlsAt.on {W W' : World} {v : Value} {xs : List Al} (h : AlsAt W W.heap.size v xs) (hb : Below W.heap.size W W') : AlsAt W' W'.heap.size v xs := by
  obtain ⟨a, c, rfl, h⟩ := h
  refine ⟨a, c, rfl, fun hp => ?_⟩
  obtain ⟨b, off, rfl, hlt, hc⟩ := h hp
  refine ⟨b, off, rfl, Nat.lt_of_lt_of_le hlt hb.size, fun i hi => ?_⟩
  obtain ⟨h0, h1, h2⟩ := hc i hi
  have e := fun o => hb.cell (p := ⟨b, o, none⟩) hlt
  exact ⟨(e _).trans h0, (e _).trans h1, (e _).trans h2⟩
/-- The block of two letters that a function laid. -/
def AlBlock (W : World) (b : Nat) (x : Al) : Prop := W.heap[b]? = some (.cells #[.int .u8 (x.a.toNat : Nat), .int .u8 (x.b.toNat : Nat), .int .i64 x.c] 46 (0, 0))
theorem AlBlock.new (w : World) (x : Al) : AlBlock (w.alloc (.cells #[.int .u8 (x.a.toNat : Nat), .int .u8 (x.b.toNat : Nat), .int .i64 x.c] 46)) w.heap.size x := heap_alloc_new w _
theorem AlBlock.below {W W' : World} {b : Nat} {x : Al} (h : AlBlock W b x) (hb : Below W.heap.size W W') : AlBlock W' b x := by
  have hlt := lt_of_heap h
  unfold AlBlock at h ⊢; rw [hb.block b hlt]; exact h
theorem AlBlock.cells {W : World} {b : Nat} {x : Al} (h : AlBlock W b x) : W.cell? ⟨b, 0, none⟩ = some (.int .u8 (x.a.toNat : Nat)) ∧ W.cell? ⟨b, 1, none⟩ = some (.int .u8 (x.b.toNat : Nat)) ∧ W.cell? ⟨b, 2, none⟩ = some (.int .i64 x.c) := by
  unfold AlBlock at h
  refine ⟨?_, ?_, ?_⟩ <;> simp [World.cell?, h]
/-- An element that is right. -/
def okAl (x : Al) : Bool := !(x.a == x.b) && (letB (x.a.toNat : Nat) && (letB (x.b.toNat : Nat) && costB x.c))
def freshB (x : Al) (l : List Al) : Bool := l.all fun y => !(x.has y.a y.b)
/-- The first n elements are right. -/
def alB (l : List Al) : Nat → Bool
  | 0 => true
  | n + 1 => alB l n && (match l[n]? with
    | some x => okAl x && freshB x (l.take n)
    | none => true)
theorem alB_succ (l : List Al) (n : Nat) (h : n < l.length) : alB l (n + 1) = (alB l n && (okAl l[n] && freshB l[n] (l.take n))) := by
  rw [alB, List.getElem?_eq_getElem h]
theorem alB_no (l : List Al) (n : Nat) (h : alB l n = false) : ∀ k, n ≤ k → alB l k = false := by
  intro k
  induction k with
  | zero => intro hk; rw [show n = 0 by omega] at h; exact h
  | succ k ih =>
    intro hk
    rcases Nat.lt_or_ge n (k + 1) with q | q
    · rw [alB, ih (by omega)]; rfl
    · rw [show k + 1 = n by omega]; exact h
def alikeB (l : List Al) : Bool := decide (l.length ≤ 20) && alB l l.length
theorem fresh_succ (x : Al) (l : List Al) (k : Nat) (h : k < l.length) : freshB x (l.take (k + 1)) = (freshB x (l.take k) && !(x.has l[k].a l[k].b)) := by
  unfold freshB
  rw [List.take_succ_eq_append_getElem h, List.all_append, List.all_cons]; simp
theorem fresh_no (x : Al) (l : List Al) (n k : Nat) (hn : n ≤ l.length) (hk : k < n) (h : x.has (l[k]'(by omega)).a (l[k]'(by omega)).b = true) : freshB x (l.take n) = false := by
  unfold freshB
  rw [List.all_eq_false]
  refine ⟨l[k]'(by omega), ?_, by rw [h]; simp⟩
  rw [List.mem_take_iff_getElem]
  exact ⟨k, by omega, rfl⟩

set_option maxHeartbeats 1000000 in
set_option maxRecDepth 100000 in
theorem validAlike_any (xs : List Al) (a : Option Addr) (c : Nat) (w : World) (hx : AlsAt w w.heap.size (.slice a xs.length c) xs) (hl : xs.length ≤ maxLen) (hc : xs.length ≤ c) :
    Calls Try.prog 30 #[.slice a xs.length c] w fun e w' => e = .returned (.bool (alikeB xs)) ∧ Below w.heap.size w w' := by
  unfold maxLen at hl
  by_cases h20 : xs.length ≤ 20
  · have HX := Lib.hid hx
    have h20i : ¬ (20 : Int) < (xs.length : Int) := by omega
    have HE := Lib.hid (show alikeB xs = alB xs xs.length by unfold alikeB; rw [decide_eq_true h20]; rfl)
    clear hx
    go_enter Try.func30, Try.ntmps30
    go_wp2_with fail
    go_loopw [12] (fun iv wr => ∃ i : Nat, iv = .int .i64 (i : Nat) ∧ i ≤ xs.length ∧ alB xs i = true ∧ Below w.heap.size w wr) (fun iv _ => xs.length - (intOf iv).toNat)
    case atStart => exact ⟨0, rfl, Nat.zero_le _, rfl, Below.refl _ _⟩
    case round =>
      obtain ⟨i, rfl, hi, hal, hb⟩ := hrel
      have HB := Lib.hid hb
      have HA := Lib.hid hal
      clear hb hal
      have i0 : (0 : Int) ≤ (i : Int) := by omega
      by_cases h1 : (i : Int) < (xs.length : Int)
      · have hix : i < xs.length := by omega
        obtain ⟨a', c', hv, hP⟩ := HX.out.on HB.out
        obtain ⟨rfl, -⟩ : a = a' ∧ c = c' := by simpa using hv
        obtain ⟨b, off, ha, hlt, hcs⟩ := hP (by omega)
        subst ha
        obtain ⟨p0, p1, p2⟩ := hcs i hix
        have HSu := alB_succ xs i hix
        rw [HA.out, Bool.true_and] at HSu
        obtain ⟨x, hxe⟩ : ∃ x, x = xs[i] := ⟨_, rfl⟩
        rw [← hxe] at p0 p1 p2 HSu
        have HSU := Lib.hid HSu
        clear hcs hP hv hxe HSu
        go_upto_region 6 with fail
        have GB := Lib.hid (AlBlock.new wr x)
        have BB := Lib.hid (HB.out.alloc HB.out.size (.cells #[.int .u8 (x.a.toNat : Nat), .int .u8 (x.b.toNat : Nat), .int .i64 x.c] 46))
        clear HB p0 p1 p2
        generalize hgw : wr.alloc _ = w1 at *
        generalize hgg : wr.heap.size = g at *
        clear hgw
        obtain ⟨q0, q1, q2⟩ := GB.out.cells
        have U := u8_beq x.a x.b
        by_cases ho : okAl x = true
        · have hok : (x.a == x.b) = false ∧ letB (x.a.toNat : Nat) = true ∧ letB (x.b.toNat : Nat) = true ∧ costB x.c = true := by
            unfold okAl at ho
            simp only [Bool.and_eq_true, Bool.not_eq_true'] at ho
            exact ho
          obtain ⟨o1, o2, o3, o4⟩ := hok
          rw [ho, Bool.true_and] at HSU
          rw [o1] at U
          have L1 := fun W => isLetter_any (x.a.toNat : Nat) W
          have L2 := fun W => isLetter_any (x.b.toNat : Nat) W
          have L3 := fun W => isCost_any x.c W
          rw [o2] at L1
          rw [o3] at L2
          rw [o4] at L3
          clear ho o1 o2 o3 o4
          have ic : (i : Int) ≤ (c : Int) := by omega
          go_wp2_with (first | ((with_reducible refine (L1 _).mono ?_); rintro e w' ⟨rfl, rfl⟩) | ((with_reducible refine (L2 _).mono ?_); rintro e w' ⟨rfl, rfl⟩) | ((with_reducible refine (L3 _).mono ?_); rintro e w' ⟨rfl, rfl⟩))
          clear L1 L2 L3 q0 q1 q2
          go_loopw [44] (fun kv wr => ∃ k : Nat, kv = .int .i64 (k : Nat) ∧ k ≤ i ∧ freshB x (xs.take k) = true ∧ AlBlock wr g x ∧ Below w.heap.size w wr) (fun kv _ => i - (intOf kv).toNat)
          case atStart => exact ⟨0, rfl, Nat.zero_le _, rfl, GB.out, BB.out⟩
          case round =>
            obtain ⟨k, rfl, hk, hfr, hgb, hb⟩ := hrel
            have HB := Lib.hid hb
            have HG := Lib.hid hgb
            have HF := Lib.hid hfr
            clear hb hgb hfr GB BB
            have k0 : (0 : Int) ≤ (k : Int) := by omega
            by_cases h2 : (k : Int) < (i : Int)
            · have hkx : k < xs.length := by omega
              have hki : k < i := by omega
              obtain ⟨a', c', hv, hP⟩ := HX.out.on HB.out
              obtain ⟨ha', -⟩ : (some ⟨b, off, none⟩ : Option Addr) = a' ∧ c = c' := by simpa using hv
              obtain ⟨b', off', ha, hlt, hcs⟩ := hP (by omega)
              rw [← ha'] at ha
              obtain ⟨rfl, rfl⟩ : b = b' ∧ off = off' := by simpa using ha
              obtain ⟨p0, p1, p2⟩ := hcs k hkx
              have HFS := fresh_succ x xs k hkx
              rw [HF.out, Bool.true_and] at HFS
              have HFN := fun (e : x.has (xs[k]).a (xs[k]).b = true) => fresh_no x xs i k (by omega) hki e
              obtain ⟨y, hye⟩ : ∃ y, y = xs[k] := ⟨_, rfl⟩
              rw [← hye] at p0 p1 p2 HFS HFN
              have HFS := Lib.hid HFS
              have HFN := Lib.hid HFN
              clear hcs hP hv hye ha ha'
              go_upto_region 11 with fail
              have YB := Lib.hid (AlBlock.new wr y)
              have HB2 := Lib.hid (HB.out.alloc HB.out.size (.cells #[.int .u8 (y.a.toNat : Nat), .int .u8 (y.b.toNat : Nat), .int .i64 y.c] 46))
              have HG2 := Lib.hid (HG.out.below ((Below.refl wr.heap.size wr).alloc (Nat.le_refl _) (.cells #[.int .u8 (y.a.toNat : Nat), .int .u8 (y.b.toNat : Nat), .int .i64 y.c] 46)))
              clear HB HG p0 p1 p2
              generalize hgw : wr.alloc _ = w2 at *
              generalize hgg : wr.heap.size = g2 at *
              clear hgw hgg
              have FW := Lib.hid (show ∀ W, Below w2.heap.size w2 W → (W.cell? ⟨g, 0, none⟩ = some (.int .u8 (x.a.toNat : Nat)) ∧ W.cell? ⟨g, 1, none⟩ = some (.int .u8 (x.b.toNat : Nat)) ∧ W.cell? ⟨g, 2, none⟩ = some (.int .i64 x.c)) ∧ (W.cell? ⟨g2, 0, none⟩ = some (.int .u8 (y.a.toNat : Nat)) ∧ W.cell? ⟨g2, 1, none⟩ = some (.int .u8 (y.b.toNat : Nat)) ∧ W.cell? ⟨g2, 2, none⟩ = some (.int .i64 y.c)) from fun W h => ⟨(HG2.out.below h).cells, (YB.out.below h).cells⟩)
              have C1 : ∀ W, Below w2.heap.size w2 W → Calls Try.prog 38 #[.int .u8 (x.a.toNat : Nat), .int .u8 (x.b.toNat : Nat)] W fun e w' => e = .returned (prV x.a x.b) ∧ Below w2.heap.size w2 w' := fun W h => (pairOf_any x.a x.b W).mono fun e w' h' => ⟨h'.1, h.trans (h'.2.mono h.size)⟩
              have C2 : ∀ W, Below w2.heap.size w2 W → Calls Try.prog 38 #[.int .u8 (y.a.toNat : Nat), .int .u8 (y.b.toNat : Nat)] W fun e w' => e = .returned (prV y.a y.b) ∧ Below w2.heap.size w2 w' := fun W h => (pairOf_any y.a y.b W).mono fun e w' h' => ⟨h'.1, h.trans (h'.2.mono h.size)⟩
              have EQ := fun W => eql_pair x y.a y.b W
              by_cases he : x.has y.a y.b = true
              · rw [he] at EQ
                have HD := Lib.hid (show alikeB xs = false by
                  rw [HE.out]
                  exact alB_no xs (i + 1) (by rw [HSU.out]; exact HFN.out he) _ (by omega))
                clear he HFS HFN
                refine wp_normal ?_
                refine wp_region_class (C := fun W => Below w2.heap.size w2 W) (by kernel_rfl) (by kernel_rfl) (Below.refl _ _).drew ?_
                repeat (first | go_big_quiet_skip | (go_big_quiet_want; first | (go_big_quiet_op; go_big_quiet_on) | (refine quiet_value ?_ (fun W h => ?_) ?_; rotate_left; (· obtain ⟨⟨f0, f1, f2⟩, f3, f4, f5⟩ := FW.out W h; go_simp; rfl); go_simp; go_big_quiet_on) | (refine quiet_call _ _ _ (fun W => ?_) C1 ?_; (· go_simp; done); go_simp; go_big_quiet_on) | (refine quiet_call _ _ _ (fun W => ?_) C2 ?_; (· go_simp; done); go_simp; go_big_quiet_on)))
                refine wpQuiet_nil ?_
                intro W3 hcj
                refine ⟨rfl, ?_⟩
                have HC := Lib.hid (HB2.out.trans (hcj.mono HB2.out.size))
                clear hcj C1 C2
                go_wp2_with fail
                go_ret
                exact ⟨ret_bool HD.out.symm, HC.out⟩
              · have he' : x.has y.a y.b = false := by simpa using he
                rw [he'] at EQ
                have HD := Lib.hid (show freshB x (xs.take (k + 1)) = true by rw [HFS.out, he']; rfl)
                clear he he' HFS HFN
                refine wp_normal ?_
                refine wp_region_class (C := fun W => Below w2.heap.size w2 W) (by kernel_rfl) (by kernel_rfl) (Below.refl _ _).drew ?_
                repeat (first | go_big_quiet_skip | (go_big_quiet_want; first | (go_big_quiet_op; go_big_quiet_on) | (refine quiet_value ?_ (fun W h => ?_) ?_; rotate_left; (· obtain ⟨⟨f0, f1, f2⟩, f3, f4, f5⟩ := FW.out W h; go_simp; rfl); go_simp; go_big_quiet_on) | (refine quiet_call _ _ _ (fun W => ?_) C1 ?_; (· go_simp; done); go_simp; go_big_quiet_on) | (refine quiet_call _ _ _ (fun W => ?_) C2 ?_; (· go_simp; done); go_simp; go_big_quiet_on)))
                refine wpQuiet_nil ?_
                intro W3 hcj
                refine ⟨rfl, ?_⟩
                have HC := Lib.hid (HB2.out.trans (hcj.mono HB2.out.size))
                have HG3 := Lib.hid (HG2.out.below hcj)
                clear hcj C1 C2
                go_wp2_with fail
                go_roundw
                case rel => exact ⟨k + 1, by go_num, by omega, HD.out, HG3.out, HC.out⟩
                case measure => simp [intOf]; omega
            · have hki : k = i := by omega
              have HD := Lib.hid (show alB xs (i + 1) = true by rw [HSU.out, ← hki]; exact HF.out)
              clear hki
              go_wp2_with fail
              go_roundw
              case rel => exact ⟨i + 1, by go_num, by omega, HD.out, HB.out⟩
              case measure => simp [intOf]; omega
        · have HD := Lib.hid (show alikeB xs = false by
            rw [HE.out]
            refine alB_no xs (i + 1) ?_ _ (by omega)
            rw [HSU.out]
            have : okAl x = false := by simpa using ho
            rw [this]; rfl)
          have HO := Lib.hid ho
          clear ho HSU
          have L1 := fun W => isLetter_any (x.a.toNat : Nat) W
          have L2 := fun W => isLetter_any (x.b.toNat : Nat) W
          have L3 := fun W => isCost_any x.c W
          cases o1 : (x.a == x.b) with
          | true =>
            rw [o1] at U
            clear o1
            go_wp2_with fail
            go_ret
            exact ⟨ret_bool HD.out.symm, BB.out⟩
          | false =>
            rw [o1] at U
            cases o2 : letB (x.a.toNat : Nat) with
            | false =>
              rw [o2] at L1
              clear o1 o2
              go_wp2_with (first | ((with_reducible refine (L1 _).mono ?_); rintro e w' ⟨rfl, rfl⟩))
              go_ret
              exact ⟨ret_bool HD.out.symm, BB.out⟩
            | true =>
              rw [o2] at L1
              cases o3 : letB (x.b.toNat : Nat) with
              | false =>
                rw [o3] at L2
                clear o1 o2 o3
                go_wp2_with (first | ((with_reducible refine (L1 _).mono ?_); rintro e w' ⟨rfl, rfl⟩) | ((with_reducible refine (L2 _).mono ?_); rintro e w' ⟨rfl, rfl⟩))
                go_ret
                exact ⟨ret_bool HD.out.symm, BB.out⟩
              | true =>
                rw [o3] at L2
                cases o4 : costB x.c with
                | false =>
                  rw [o4] at L3
                  clear o1 o2 o3 o4
                  go_wp2_with (first | ((with_reducible refine (L1 _).mono ?_); rintro e w' ⟨rfl, rfl⟩) | ((with_reducible refine (L2 _).mono ?_); rintro e w' ⟨rfl, rfl⟩) | ((with_reducible refine (L3 _).mono ?_); rintro e w' ⟨rfl, rfl⟩))
                  go_ret
                  exact ⟨ret_bool HD.out.symm, BB.out⟩
                | true => exact absurd (show okAl x = true by unfold okAl; rw [o1, o2, o3, o4]; rfl) HO.out
      · have HD := Lib.hid (show alikeB xs = true by rw [HE.out, ← (show i = xs.length by omega)]; exact HA.out)
        go_wp2_with fail
        go_ret
        exact ⟨ret_bool HD.out.symm, HB.out⟩
  · have HD := Lib.hid (show alikeB xs = false by unfold alikeB; rw [decide_eq_false h20]; rfl)
    have h20i : (20 : Int) < (xs.length : Int) := by omega
    clear hx h20
    go_enter Try.func30, Try.ntmps30
    go_wp2_with fail
    go_ret
    exact ⟨ret_bool HD.out.symm, Below.refl _ _⟩
end Go.Proofs.Ytadaijepalhohaa
