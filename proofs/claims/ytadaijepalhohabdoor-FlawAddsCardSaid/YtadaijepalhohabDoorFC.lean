/-
  The reference's Accepts and Reached.
-/
import Derived.Test.YtadaijepalhohabDoorFB
namespace Go.Proofs.YtadaijepalhohabDoor
open Go.RowKit
open Pl

theorem shr_all : (List.range 256).all (fun m => (List.range 8).all fun i => (bits BinOp.and IntKind.u8 ((m : Int) / 2 ^ i) 1 == 1) == m.testBit i) = true := by decide +kernel
theorem shr_bit (m i : Nat) (hm : m < 256) (hi : i < 8) : (bits BinOp.and IntKind.u8 ((m : Int) / 2 ^ i) 1 == 1) = m.testBit i := by
  have h := List.all_eq_true.1 (List.all_eq_true.1 shr_all m (List.mem_range.2 hm)) i (List.mem_range.2 hi)
  simpa using h
set_option maxHeartbeats 400000 in
theorem Accepts_any (m acc i : Nat) (v : Value) (hacc : acc < 256) (hi : i < 8) (w : World) :
    Calls Tryd.prog 17 #[.agg #[.int .i64 (m : Nat), .int .u8 (acc : Nat), v], .int .i64 (i : Nat)] w fun e w' => e = .returned (.bool (acc.testBit i)) ∧ Below w.heap.size w w' := by
  have HB := Lib.hid ((Below.refl w.heap.size w).alloc (Nat.le_refl _) (.cells #[.int .i64 (m : Nat), .int .u8 (acc : Nat), v] 28))
  obtain ⟨s0, s1, s2⟩ := (SchBlock.new w (.int .i64 (m : Nat)) (.int .u8 (acc : Nat)) v).cells
  have h0 : (0 : Int) ≤ (i : Int) := by omega
  have HS := Lib.hid (shr_bit acc i hacc hi)
  go_enter Tryd.func17, Tryd.ntmps17
  go_wp2_with fail
  go_ret
  exact ⟨by rw [← HS.out]; rfl, HB.out⟩
/-- A block of booleans that a function laid. -/
def BsBlock (W : World) (b : Nat) (xs : List Bool) : Prop := W.heap[b]? = some (.cells (xs.map Value.bool).toArray 4 (0, 0))
theorem BsBlock.below {W W' : World} {b : Nat} {xs : List Bool} (h : BsBlock W b xs) (hb : Below W.heap.size W W') : BsBlock W' b xs := by
  have hlt := lt_of_heap h
  unfold BsBlock at h ⊢; rw [hb.block b hlt]; exact h
theorem BsBlock.cell {W : World} {b : Nat} {xs : List Bool} (h : BsBlock W b xs) (i : Nat) (hi : i < xs.length) : W.cell? ⟨b, i, none⟩ = some (.bool xs[i]) := by
  unfold BsBlock at h
  simp [World.cell?, h, hi]
theorem BsBlock.free {W : World} {b : Nat} {xs : List Bool} (h : BsBlock W b xs) (i : Nat) : W.frozen? ⟨b, i, none⟩ = false := by
  unfold BsBlock at h
  simp [World.frozen?, h]
theorem BsBlock.put {W : World} {b : Nat} {xs : List Bool} (h : BsBlock W b xs) (i : Nat) (v : Bool) : BsBlock (W.setCell ⟨b, i, none⟩ (.bool v)) b (xs.set i v) := by
  unfold BsBlock at h ⊢
  rw [heap_setCell_same W b i _ _ _ h]
  simp [List.map_set]
theorem BsBlock.setCell {W : World} {b b' o : Nat} {xs : List Bool} {u : Value} (h : BsBlock W b xs) (hne : b' ≠ b) : BsBlock (W.setCell ⟨b', o, none⟩ u) b xs := by
  unfold BsBlock at h ⊢
  rw [heap_setCell_other W _ b _ (fun e => hne e.symm)]; exact h
/-- The first m modes: whether each is in the set. -/
def setL (m s : Nat) : List Bool := (List.range m).map fun i => s.testBit i
theorem setL_len (m s : Nat) : (setL m s).length = m := by simp [setL]
theorem setL_get (m s i : Nat) (hi : i < m) : (setL m s)[i]'(by rw [setL_len]; exact hi) = s.testBit i := by simp [setL]
theorem setL_put (m s i : Nat) : (setL m s).set i true = setL m (s ||| 2 ^ i) := by
  apply List.ext_getElem
  · simp [setL]
  · intro k h1 h2
    rw [List.getElem_set]
    simp only [setL, List.getElem_map, List.getElem_range, Nat.testBit_or, Nat.testBit_two_pow]
    by_cases hk : i = k
    · simp [hk]
    · simp [hk]
theorem setL_none (m : Nat) : setL m 0 = List.replicate m false := by
  apply List.ext_getElem
  · simp [setL]
  · intro k h1 h2
    simp [setL]
theorem make_bools (m : Nat) (hm1 : 1 ≤ m) (hm8 : m ≤ 8) (W : World) : (Instr.makeSlice 32 (.int .i64 (m : Nat)) (.int .i64 (m : Nat))).run Tryd.prog W = .ok (.slice (some ⟨W.heap.size, 0, none⟩) m m) (W.alloc (.cells ((setL m 0).map Value.bool).toArray 4)) := by
  rcases (show m = 1 ∨ m = 2 ∨ m = 3 ∨ m = 4 ∨ m = 5 ∨ m = 6 ∨ m = 7 ∨ m = 8 by omega) with rfl | rfl | rfl | rfl | rfl | rfl | rfl | rfl <;> kernel_rfl
theorem BsBlock.new (W : World) (xs : List Bool) : BsBlock (W.alloc (.cells (xs.map Value.bool).toArray 4)) W.heap.size xs := heap_alloc_new W _
def InM (m : Nat) (x : Rl) : Prop := (0 ≤ x.src ∧ x.src < m) ∧ (0 ≤ x.dst ∧ x.dst < m)
/-- What the loops of Reached keep. -/
def ReRel (w : World) (sv av : Value) (gb m S : Nat) (m' : Nat) (W : World) : Prop :=
  SchBlock W w.heap.size (.int .i64 (m : Nat)) av sv ∧ BsBlock W gb (setL m' S) ∧ Below w.heap.size w W

set_option maxHeartbeats 1000000 in
set_option maxRecDepth 100000 in
theorem Reached_any (m acc k : Nat) (a : Option Addr) (c : Nat) (rs : List Rl) (w : World) (hm1 : 1 ≤ m) (hm8 : m ≤ 8) (hk : k < m) (hx : RlsAt w w.heap.size (.slice a rs.length c) rs) (hl : rs.length ≤ maxLen) (hr : ∀ x ∈ rs, InM m x) :
    Calls Tryd.prog 7 #[.agg #[.int .i64 (m : Nat), .int .u8 (acc : Nat), .slice a rs.length c], .int .i64 (k : Nat)] w fun e w' => ∃ b, e = .returned (.slice (some ⟨b, 0, none⟩) m m) ∧ BsBlock w' b (setL m (rnds rStep rs m (2 ^ k))) ∧ w.heap.size ≤ b ∧ Below w.heap.size w w' := by
  have b1 := (Below.refl w.heap.size w).alloc (Nat.le_refl _) (.cells #[.int .i64 (m : Nat), .int .u8 (acc : Nat), .slice a rs.length c] 28)
  have k1 := SchBlock.new w (.int .i64 (m : Nat)) (.int .u8 (acc : Nat)) (.slice a rs.length c)
  have hgt : w.heap.size < (w.alloc (.cells #[.int .i64 (m : Nat), .int .u8 (acc : Nat), .slice a rs.length c] 28)).heap.size := by rw [World.size_alloc]; omega
  have HX := Lib.hid hx
  have HR := Lib.hid hr
  have HL := Lib.hid hl
  have HMK := fun W => make_bools m hm1 hm8 W
  have k0 : (0 : Int) ≤ (k : Int) := by omega
  have km : (k : Int) < (m : Int) := by omega
  obtain ⟨s0, s1, s2⟩ := k1.cells
  have HB := Lib.hid b1
  have HK := Lib.hid k1
  clear hx hr hl b1 k1
  go_enter Tryd.func7, Tryd.ntmps7
  go_upto_region 1 with fail
  generalize w.alloc _ = x1 at *
  go_upto_region 2 with fail
  have bn := BsBlock.new x1 (setL m 0)
  have cz := bn.cell k (by rw [setL_len]; exact hk)
  have fz := bn.free k
  have hm0 : (m : Int) ≤ 8 := by omega
  have ee : ((setL m 0).map Value.bool).set k (Value.bool true) = (setL m (2 ^ k)).map Value.bool := by rw [← List.map_set, setL_put, Nat.zero_or]
  have SB := HK.out.below ((Below.refl x1.heap.size x1).alloc (Nat.le_refl _) (.cells (((setL m 0).map Value.bool).set k (Value.bool true)).toArray 4))
  have HB2 := HB.out.alloc HB.out.size (.cells (((setL m 0).map Value.bool).set k (Value.bool true)).toArray 4)
  have RR := Lib.hid (show ReRel w (.slice a rs.length c) (.int .u8 (acc : Nat)) x1.heap.size m (2 ^ k) m (x1.alloc (.cells (((setL m 0).map Value.bool).set k (Value.bool true)).toArray 4)) from
    ⟨SB, by rw [ee]; exact BsBlock.new x1 _, HB2⟩)
  clear SB HB2 bn HMK s0 s1 s2 HB HK ee
  go_upto_region 3 with fail
  generalize x1.alloc _ = x2 at *
  generalize x1.heap.size = gb at *
  clear cz fz
  have HGB : w.heap.size < gb := hgt
  go_wp2_with fail
  go_loopw [6] (fun nv wr => ∃ n : Nat, nv = .int .i64 (n : Nat) ∧ n ≤ m ∧ ReRel w (.slice a rs.length c) (.int .u8 (acc : Nat)) gb m (rnds rStep rs n (2 ^ k)) m wr) (fun nv _ => m - (intOf nv).toNat)
  case atStart => exact ⟨0, rfl, Nat.zero_le _, RR.out⟩
  case round =>
    obtain ⟨n, rfl, hn, hrl⟩ := hrel
    obtain ⟨s0, s1, s2⟩ := hrl.1.cells
    have KR := Lib.hid hrl
    clear hrl RR
    by_cases h1 : (n : Int) < (m : Int)
    · obtain ⟨S, hS⟩ : ∃ S, S = rnds rStep rs n (2 ^ k) := ⟨_, rfl⟩
      rw [← hS] at KR
      have HSE := Lib.hid hS
      clear hS
      go_wp2_with fail
      clear s0 s1 s2
      go_loopw [7] (fun iv wr => ∃ i : Nat, iv = .int .i64 (i : Nat) ∧ i ≤ rs.length ∧ ReRel w (.slice a rs.length c) (.int .u8 (acc : Nat)) gb m ((rs.take i).foldl rStep S) m wr) (fun iv _ => rs.length - (intOf iv).toNat)
      case atStart => exact ⟨0, rfl, Nat.zero_le _, KR.out⟩
      case round =>
        obtain ⟨i, rfl, hi, hrl⟩ := hrel
        obtain ⟨s0, s1, s2⟩ := hrl.1.cells
        have KI := Lib.hid hrl
        clear hrl KR
        have i0 : (0 : Int) ≤ (i : Int) := by omega
        have hLm := HL.out
        unfold maxLen at hLm
        by_cases h2 : (i : Int) < (rs.length : Int)
        · have hil : i < rs.length := by omega
          obtain ⟨x, hxe⟩ : ∃ x, x = rs[i] := ⟨_, rfl⟩
          have hx8 : InM m x := by rw [hxe]; exact HR.out _ (List.getElem_mem hil)
          obtain ⟨a', c', hv, hP⟩ := HX.out.on KI.out.2.2
          obtain ⟨rfl, -⟩ : a = a' ∧ c = c' := by simpa using hv
          obtain ⟨b, off, ha, hlt, hc⟩ := hP (by omega)
          subst ha
          obtain ⟨p0, p1, p2, p3, p4⟩ := hc i hil
          rw [← hxe] at p0 p1 p2 p3 p4
          have HSR := fold_take (f := rStep) rs S i hil
          rw [← hxe] at HSR
          obtain ⟨r1, hr1⟩ : ∃ r1, r1 = (rs.take i).foldl rStep S := ⟨_, rfl⟩
          rw [← hr1] at KI HSR
          obtain ⟨xs, xd, xi, xo, xc⟩ := x
          obtain ⟨⟨e0, e1⟩, e2, e3⟩ := hx8
          dsimp only at e0 e1 e2 e3
          obtain ⟨sN, hsN⟩ : ∃ n : Nat, xs = (n : Int) := ⟨xs.toNat, by omega⟩
          obtain ⟨dN, hdN⟩ : ∃ n : Nat, xd = (n : Int) := ⟨xd.toNat, by omega⟩
          subst hsN
          subst hdN
          have hsm : sN < m := by omega
          have hdm : dN < m := by omega
          dsimp only at p0 p1 p2 p3 p4
          have HSR := Lib.hid HSR
          have t0 := KI.out.2.1.cell sN (by rw [setL_len]; exact hsm)
          rw [setL_get m r1 sN hsm] at t0
          have z0 := KI.out.2.1.free dN
          have z1 := KI.out.2.1.cell dN (by rw [setL_len]; exact hdm)
          have bp := KI.out.2.1.put dN true
          rw [setL_put] at bp
          have KP := Lib.hid (show ReRel w (.slice (some ⟨b, off, none⟩) rs.length c) (.int .u8 (acc : Nat)) gb m (r1 ||| 2 ^ dN) m (wr.setCell ⟨gb, dN, none⟩ (.bool true)) from
            ⟨KI.out.1.setCellK (by omega), bp, KI.out.2.2.setCell (by show w.heap.size ≤ gb; omega) _⟩)
          clear hxe hP hc hv hr1 bp
          cases h3 : r1.testBit sN with
          | true =>
            rw [h3] at t0
            have HE := Lib.hid (show rStep r1 ⟨(sN : Int), (dN : Int), xi, xo, xc⟩ = r1 ||| 2 ^ dN by unfold rStep; rw [if_pos (show r1.testBit ((sN : Int)).toNat = true from h3)]; rfl)
            clear h3
            go_wp2_with fail
            go_roundw
            case rel => exact ⟨i + 1, by go_num, by omega, by rw [HSR.out, HE.out]; exact KP.out⟩
            case measure => simp [intOf]; omega
          | false =>
            rw [h3] at t0
            have HE := Lib.hid (show rStep r1 ⟨(sN : Int), (dN : Int), xi, xo, xc⟩ = r1 by unfold rStep; rw [if_neg (show ¬ r1.testBit ((sN : Int)).toNat = true from fun e => by rw [show r1.testBit ((sN : Int)).toNat = r1.testBit sN from rfl, h3] at e; cases e)])
            clear h3 KP
            go_wp2_with fail
            go_roundw
            case rel => exact ⟨i + 1, by go_num, by omega, by rw [HSR.out, HE.out]; exact KI.out⟩
            case measure => simp [intOf]; omega
        · have hie : i = rs.length := by omega
          have HKJ := Lib.hid (show ReRel w (.slice a rs.length c) (.int .u8 (acc : Nat)) gb m (rnds rStep rs (n + 1) (2 ^ k)) m wr by
            have := KI.out
            rw [hie, List.take_length] at this
            unfold rnds
            rw [← HSE.out]
            exact this)
          clear KI hie
          go_wp2_with fail
          go_roundw
          case rel => exact ⟨n + 1, by go_num, by omega, HKJ.out⟩
          case measure => simp [intOf]; omega
    · have hje : n = m := by omega
      have HJE := Lib.hid hje
      clear hje
      go_wp2_with fail
      go_ret
      exact ⟨gb, rfl, by have := KR.out.2.1; rw [HJE.out] at this; exact this, by omega, KR.out.2.2⟩
end Go.Proofs.YtadaijepalhohabDoor
