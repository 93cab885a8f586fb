/-
  flaw.provesEndless.
-/
import Derived.Test.YtadaijepalhohabDoorFO
namespace Go.Proofs.YtadaijepalhohabDoor
open Go.RowKit
open Pl

theorem and_all : (List.range 256).all (fun m => (List.range 256).all fun n => bits BinOp.and IntKind.u8 (m : Int) (n : Int) == ((m &&& n : Nat) : Int)) = true := by decide +kernel
theorem and_nat (m n : Nat) (hm : m < 256) (hn : n < 256) : bits BinOp.and IntKind.u8 (m : Int) (n : Int) = ((m &&& n : Nat) : Int) := by
  have h := List.all_eq_true.1 (List.all_eq_true.1 and_all m (List.mem_range.2 hm)) n (List.mem_range.2 hn)
  simpa using h
/-- Rules that take nothing. -/
def noIn (x : Rl) : Bool := (B x.inp).toList.isEmpty
/-- What provesEndless asks of a list that is not empty, whose first number is k. -/
def peB (r l : Nat) (rs : List Rl) (xs : List Int) : Bool :=
  match xs with
  | [] => true
  | i :: t => if 0 ≤ i ∧ i < (rs.length : Int) then (match rs[i.toNat]? with
      | some x => (match folL noIn rs x.src (i :: t) with
        | some e => decide (e = x.src) && (r &&& l).testBit x.src.toNat
        | none => false)
      | none => false) else false
theorem peB_out {r l : Nat} {rs : List Rl} {i : Int} {t : List Int} (h : ¬ (0 ≤ i ∧ i < (rs.length : Int))) : peB r l rs (i :: t) = false := by rw [peB, if_neg h]
theorem peB_in {r l : Nat} {rs : List Rl} {k : Nat} {t : List Int} (h : k < rs.length) : peB r l rs ((k : Int) :: t) = (match folL noIn rs rs[k].src ((k : Int) :: t) with
        | some e => decide (e = rs[k].src) && (r &&& l).testBit rs[k].src.toNat
        | none => false) := by
  have e : rs[((k : Nat) : Int).toNat]? = some rs[k] := by rw [Int.toNat_natCast]; exact List.getElem?_eq_getElem h
  rw [peB, if_pos ⟨by omega, by omega⟩, e]

set_option maxHeartbeats 2000000 in
set_option maxRecDepth 100000 in
theorem PEndless_any (m acc r l : Nat) (a b : Option Addr) (c d : Nat) (rs : List Rl) (xs : List Int) (w : World) (hr : r < 256) (hlv : l < 256) (hx : RlsAt w w.heap.size (.slice a rs.length c) rs) (hl : rs.length ≤ 100000) (h8 : ∀ x ∈ rs, In8 x)
    (hy : NumsAt w w.heap.size (.slice b xs.length d) xs) (hxl : xs.length ≤ maxLen) :
    Calls Tryd.prog 29 #[.agg #[.int .i64 (m : Nat), .int .u8 (acc : Nat), .slice a rs.length c], .agg #[.int .u8 (r : Nat), .int .u8 (l : Nat)], .slice b xs.length d] w fun e w' => e = .returned (.bool (peB r l rs xs)) ∧ Below w.heap.size w w' := by
  have b1 := (Below.refl w.heap.size w).alloc (Nat.le_refl _) (.cells #[.int .i64 (m : Nat), .int .u8 (acc : Nat), .slice a rs.length c] 28)
  have b2 := b1.alloc b1.size (.cells #[.int .u8 (r : Nat), .int .u8 (l : Nat)] 51)
  have s1 := (SchBlock.new w (.int .i64 (m : Nat)) (.int .u8 (acc : Nat)) (.slice a rs.length c)).below ((Below.refl _ _).alloc (Nat.le_refl _) (.cells #[.int .u8 (r : Nat), .int .u8 (l : Nat)] 51))
  have k1 := KBlock.new (w.alloc (.cells #[.int .i64 (m : Nat), .int .u8 (acc : Nat), .slice a rs.length c] 28)) r l
  rw [World.size_alloc] at k1
  have CF := fun st W (h : Below w.heap.size w W) => Lib.hid (Follow_any 39 noIn enterNothing takesNothing_any m acc a b c d rs st xs W (hx.on h) hl (hy.on h) hxl)
  obtain ⟨P, hP0⟩ : ∃ P, P = peB r l rs xs := ⟨_, rfl⟩
  rw [← hP0]
  have HP0 := Lib.hid hP0
  have H8 := Lib.hid h8
  have HX := Lib.hid hx
  have HY := Lib.hid hy
  have K1 := Lib.hid k1
  have S1 := Lib.hid s1
  have B2 := Lib.hid b2
  unfold maxLen at hxl
  clear hx hy h8 s1 k1 b1 b2 hP0
  by_cases hn : xs.length = 0
  · have HN := Lib.hid (show P = true by rw [HP0.out, List.eq_nil_of_length_eq_zero hn]; rfl)
    have hz : ((xs.length : Int) == 0) = true := by simp [hn]
    clear hn
    go_enter Tryd.func29, Tryd.ntmps29
    go_wp2_with fail
    go_ret
    exact ⟨by rw [HN.out]; rfl, B2.out⟩
  · have hz : ((xs.length : Int) == 0) = false := by
      have q : ¬ ((xs.length : Int) = 0) := by omega
      exact beq_eq_false_iff_ne.2 q
    have hpos : 0 < xs.length := by omega
    have hposI : (0 : Int) < (xs.length : Int) := by omega
    obtain ⟨i, hie⟩ : ∃ i, i = xs[0] := ⟨_, rfl⟩
    have hdr : xs = i :: xs.drop 1 := by
      have := List.drop_eq_getElem_cons hpos
      rw [List.drop_zero] at this
      rw [hie]; exact this
    have HQ := HP0.out
    rw [hdr] at HQ
    have HDR := Lib.hid hdr
    have HIE := Lib.hid hie
    clear hn hdr hie HP0
    go_enter Tryd.func29, Tryd.ntmps29
    go_upto_region 1 with fail
    generalize (w.alloc _).alloc _ = x1 at *
    obtain ⟨a', c', hv, hP⟩ := HY.out.on B2.out
    obtain ⟨rfl, -⟩ : b = a' ∧ d = c' := by simpa using hv
    obtain ⟨b1, o1, ha, hlt1, hc⟩ := hP hpos
    subst ha
    have p1 := hc 0 hpos
    rw [← HIE.out, Nat.add_zero] at p1
    have FW := Lib.hid (show ∀ W, Below x1.heap.size x1 W → (W.cell? ⟨w.heap.size, 0, none⟩ = some (.int .i64 (m : Nat)) ∧ W.cell? ⟨w.heap.size, 1, none⟩ = some (.int .u8 (acc : Nat)) ∧ W.cell? ⟨w.heap.size, 2, none⟩ = some (.slice a rs.length c)) ∧ W.cell? ⟨b1, o1, none⟩ = some (.int .i64 i) from fun W h => ⟨(S1.out.below h).cells, (h.cell (p := ⟨b1, _, none⟩) hlt1).trans p1⟩)
    have C1 : ∀ W, Below x1.heap.size x1 W → Calls Tryd.prog 44 #[.agg #[.int .i64 (m : Nat), .int .u8 (acc : Nat), .slice a rs.length c], .int .i64 i] W fun e w' => e = .returned (.bool (decide (0 ≤ i) && decide (i < (rs.length : Int)))) ∧ Below x1.heap.size x1 w' := fun W h => (isRule_any (m : Nat) (acc : Nat) a rs.length c i W).mono fun e w' h' => ⟨h'.1, h.trans (h'.2.mono h.size)⟩
    clear hc hP hv p1
    by_cases h3 : 0 ≤ i ∧ i < (rs.length : Int)
    · obtain ⟨k, hk⟩ : ∃ k : Nat, i = (k : Int) := ⟨i.toNat, by omega⟩
      subst hk
      have hkr : k < rs.length := by omega
      have k0 : (0 : Int) ≤ (k : Int) := h3.1
      have k2 := h3.2
      have hb3 : (decide ((0 : Int) ≤ (k : Int)) && decide ((k : Int) < (rs.length : Int))) = true := by rw [decide_eq_true k0, decide_eq_true k2]; rfl
      rw [hb3] at C1
      rw [peB_in hkr] at HQ
      rw [← HDR.out] at HQ
      obtain ⟨x, hxe⟩ : ∃ x, x = rs[k] := ⟨_, rfl⟩
      rw [← hxe] at HQ
      have hx8 : In8 x := by rw [hxe]; exact H8.out _ (List.getElem_mem hkr)
      obtain ⟨sN, hsN⟩ : ∃ n : Nat, x.src = (n : Int) := ⟨x.src.toNat, by have := hx8.1; omega⟩
      have hs8 : sN < 8 := by have := hx8.1; omega
      rw [hsN, Int.toNat_natCast] at HQ
      have HXE := Lib.hid hxe
      have HSN := Lib.hid hsN
      clear h3 hb3 hxe hx8 hsN
      go_upto_region 3 with fail
      refine wp_normal ?_
      refine wp_region_class (C := fun W => Below x1.heap.size x1 W) (by kernel_rfl) (by kernel_rfl) (Below.refl _ _).drew ?_
      repeat (first | go_big_quiet_skip | (go_big_quiet_want; first | (go_big_quiet_op; go_big_quiet_on) | (refine quiet_value ?_ (fun W h => ?_) ?_; rotate_left; (· obtain ⟨⟨f0, f1, f2⟩, f3⟩ := FW.out W h; go_simp; rfl); go_simp; go_big_quiet_on) | (refine quiet_call _ _ _ (fun W => ?_) C1 ?_; (· go_simp; done); go_simp; go_big_quiet_on)))
      refine wpQuiet_nil ?_
      intro x2 hcj
      have HC2 := Lib.hid hcj
      have B3 := Lib.hid (B2.out.trans (hcj.mono B2.out.size))
      clear hcj C1
      obtain ⟨a', c', hv, hP⟩ := HX.out.on B3.out
      obtain ⟨rfl, -⟩ : a = a' ∧ c = c' := by simpa using hv
      obtain ⟨bb, oo, ha, hlt, hc⟩ := hP (by omega)
      subst ha
      obtain ⟨y0, y1, y2, y3, y4⟩ := hc k hkr
      rw [← HXE.out, HSN.out] at y0
      obtain ⟨⟨f0, f1, f2⟩, f3⟩ := FW.out x2 HC2.out
      clear hc hP hv hlt y1 y2 y3 y4
      go_upto_region 5 with fail
      go_region
      have B4 := Lib.hid (B3.out.drew)
      have S4 := Lib.hid ((S1.out.below HC2.out).below (Below.refl x2.heap.size x2).drew)
      have K4 := Lib.hid ((K1.out.below HC2.out).below (Below.refl x2.heap.size x2).drew)
      have CQ := Lib.hid ((CF sN x2.drew B4.out).out)
      clear FW CF HC2 B3 S1 K1 f0 f1 f2 f3 y0
      generalize x2.drew = x3 at *
      obtain ⟨f0, f1, f2⟩ := S4.out.cells
      go_wp2_with fail
      refine (CQ.out).mono ?_
      rintro e x4 ⟨rfl, hb⟩
      have K5 := Lib.hid (K4.out.below hb)
      have B5 := Lib.hid (B4.out.trans (hb.mono B4.out.size))
      clear hb CQ S4 K4 B4 f0 f1 f2
      cases ho : folL noIn rs (sN : Int) xs with
      | none =>
        rw [ho] at HQ
        have HN := Lib.hid (show P = false from HQ)
        clear HQ ho
        go_wp2_with fail
        go_ret
        exact ⟨by rw [HN.out]; rfl, B5.out⟩
      | some t =>
        rw [ho] at HQ
        dsimp only at HQ
        have HQ2 := Lib.hid HQ
        clear HQ ho
        obtain ⟨g0, g1⟩ := K5.out.cells
        have CU := fun W => Lib.hid (useful_any r l W)
        rw [and_nat r l hr hlv] at CU
        have hrl : r &&& l < 256 := Nat.lt_of_le_of_lt Nat.and_le_left hr
        have CH := fun W => Lib.hid (hasM_any (r &&& l) sN hrl hs8 W)
        by_cases ht : t = (sN : Int)
        · have HN := Lib.hid (show P = (r &&& l).testBit sN by rw [HQ2.out, decide_eq_true ht]; rfl)
          have hte : (t == (sN : Int)) = true := by simpa using ht
          clear ht
          go_wp2_with fail
          refine ((CU _).out).mono ?_
          rintro e x5 ⟨rfl, hb⟩
          have B6 := Lib.hid (B5.out.trans (hb.mono B5.out.size))
          clear hb
          go_wp2_with fail
          refine ((CH _).out).mono ?_
          rintro e x6 ⟨rfl, rfl⟩
          go_wp2_with fail
          go_ret
          exact ⟨by rw [HN.out, Nat.testBit_and]; rfl, B6.out⟩
        · have HN := Lib.hid (show P = false by rw [HQ2.out, decide_eq_false ht]; rfl)
          have hte : (t == (sN : Int)) = false := by simpa using ht
          clear ht
          go_wp2_with fail
          go_ret
          exact ⟨by rw [HN.out]; rfl, B5.out⟩
    · have HN := Lib.hid (HQ.trans (peB_out h3))
      have hb3 : (decide (0 ≤ i) && decide (i < (rs.length : Int))) = false := by
        rcases Classical.em (0 ≤ i) with q | q
        · rw [decide_eq_false (show ¬ i < (rs.length : Int) from fun e => h3 ⟨q, e⟩), Bool.and_false]
        · rw [decide_eq_false q]; rfl
      rw [hb3] at C1
      clear HQ h3 hb3
      go_upto_region 3 with fail
      refine wp_normal ?_
      refine wp_region_class (C := fun W => Below x1.heap.size x1 W) (by kernel_rfl) (by kernel_rfl) (Below.refl _ _).drew ?_
      repeat (first | go_big_quiet_skip | (go_big_quiet_want; first | (go_big_quiet_op; go_big_quiet_on) | (refine quiet_value ?_ (fun W h => ?_) ?_; rotate_left; (· obtain ⟨⟨f0, f1, f2⟩, f3⟩ := FW.out W h; go_simp; rfl); go_simp; go_big_quiet_on) | (refine quiet_call _ _ _ (fun W => ?_) C1 ?_; (· go_simp; done); go_simp; go_big_quiet_on)))
      refine wpQuiet_nil ?_
      intro x2 hcj
      have B3 := Lib.hid (B2.out.trans (hcj.mono B2.out.size))
      clear hcj C1
      go_wp2_with fail
      go_ret
      exact ⟨by rw [HN.out]; rfl, B3.out⟩
end Go.Proofs.YtadaijepalhohabDoor
