/-
  flaw's sets of modes: only, has, useful; rules that are dead.
-/
import Derived.Test.YtadaijepalhohabDoorSX
import Derived.BigRegion
namespace Go.Proofs.YtadaijepalhohabDoor
open Go.RowKit
open Pl

theorem and_bit_all : (List.range 256).all (fun m => (List.range 8).all fun i => (bits BinOp.and IntKind.u8 (m : Int) ((2 : Int) ^ i) != 0) == m.testBit i) = true := by decide +kernel
theorem and_bit (m i : Nat) (hm : m < 256) (hi : i < 8) : (bits BinOp.and IntKind.u8 (m : Int) ((2 : Int) ^ i) != 0) = m.testBit i := by
  have h := List.all_eq_true.1 (List.all_eq_true.1 and_bit_all m (List.mem_range.2 hm)) i (List.mem_range.2 hi)
  simpa using h
theorem or_bit_all : (List.range 256).all (fun m => (List.range 8).all fun i => bits BinOp.or IntKind.u8 (m : Int) ((2 : Int) ^ i) == ((m ||| 2 ^ i : Nat) : Int)) = true := by decide +kernel
theorem or_bit (m i : Nat) (hm : m < 256) (hi : i < 8) : bits BinOp.or IntKind.u8 (m : Int) ((2 : Int) ^ i) = ((m ||| 2 ^ i : Nat) : Int) := by
  have h := List.all_eq_true.1 (List.all_eq_true.1 or_bit_all m (List.mem_range.2 hm)) i (List.mem_range.2 hi)
  simpa using h
theorem or_lt (m i : Nat) (hm : m < 256) (hi : i < 8) : m ||| 2 ^ i < 256 :=
  Nat.or_lt_two_pow (n := 8) hm (Nat.pow_lt_pow_right (by decide) hi)
set_option maxHeartbeats 400000 in
theorem onlyM_any (i : Nat) (hi : i < 8) (w : World) : Calls Tryd.prog 34 #[.int .i64 (i : Nat)] w fun e w' => e = .returned (.int .u8 ((2 : Int) ^ i)) ∧ w' = w := by
  have h0 : (0 : Int) ≤ (i : Int) := by omega
  have hp : (2 : Int) ^ i % 256 = 2 ^ i := by
    have h1 : (2 : Nat) ^ i < 256 := by have := Nat.pow_lt_pow_right (a := 2) (by decide) hi; simpa using this
    have h3 : ((2 ^ i : Nat) : Int) = (2 : Int) ^ i := by push_cast; rfl
    rw [← h3]
    exact Int.emod_eq_of_lt (Int.natCast_nonneg _) (by have := Int.ofNat_lt.2 h1; exact this)
  have HP := Lib.hid hp
  clear hp
  go_enter Tryd.func34, Tryd.ntmps34
  go_wp2_with fail
  go_ret
  exact ⟨by rw [HP.out]; rfl, rfl⟩
set_option maxHeartbeats 400000 in
theorem hasM_any (m i : Nat) (hm : m < 256) (hi : i < 8) (w : World) : Calls Tryd.prog 24 #[.int .u8 (m : Nat), .int .i64 (i : Nat)] w fun e w' => e = .returned (.bool (m.testBit i)) ∧ w' = w := by
  have HA := Lib.hid (and_bit m i hm hi)
  go_enter Tryd.func24, Tryd.ntmps24
  go_wp2_with fail
  refine (onlyM_any i hi w).mono ?_
  rintro e x1 ⟨rfl, rfl⟩
  go_wp2_with fail
  go_ret
  exact ⟨by rw [HA.out]; rfl, rfl⟩
/-- The block of two sets of modes. -/
def KBlock (W : World) (b : Nat) (r l : Nat) : Prop := W.heap[b]? = some (.cells #[.int .u8 (r : Nat), .int .u8 (l : Nat)] 51 (0, 0))
theorem KBlock.new (w : World) (r l : Nat) : KBlock (w.alloc (.cells #[.int .u8 (r : Nat), .int .u8 (l : Nat)] 51)) w.heap.size r l := heap_alloc_new w _
theorem KBlock.below {W W' : World} {b r l : Nat} (h : KBlock W b r l) (hb : Below W.heap.size W W') : KBlock W' b r l := by
  have hlt := lt_of_heap h
  unfold KBlock at h ⊢; rw [hb.block b hlt]; exact h
theorem KBlock.cells {W : World} {b r l : Nat} (h : KBlock W b r l) : W.cell? ⟨b, 0, none⟩ = some (.int .u8 (r : Nat)) ∧ W.cell? ⟨b, 1, none⟩ = some (.int .u8 (l : Nat)) := by
  unfold KBlock at h
  exact ⟨by simp [World.cell?, h], by simp [World.cell?, h]⟩
set_option maxHeartbeats 400000 in
theorem useful_any (r l : Nat) (w : World) : Calls Tryd.prog 38 #[.agg #[.int .u8 (r : Nat), .int .u8 (l : Nat)]] w fun e w' => e = .returned (.int .u8 (bits BinOp.and IntKind.u8 (r : Int) (l : Int))) ∧ Below w.heap.size w w' := by
  have hb := (Below.refl w.heap.size w).alloc (Nat.le_refl _) (.cells #[.int .u8 (r : Nat), .int .u8 (l : Nat)] 51)
  obtain ⟨k0, k1⟩ := (KBlock.new w r l).cells
  go_enter Tryd.func38, Tryd.ntmps38
  go_wp2_with fail
  go_ret
  exact ⟨rfl, hb⟩
set_option maxHeartbeats 1000000 in
set_option maxRecDepth 100000 in
theorem kdead_any (r l : Nat) (x : Rl) (hr : r < 256) (hl : l < 256) (hs : 0 ≤ x.src ∧ x.src < 8) (hd : 0 ≤ x.dst ∧ x.dst < 8) (w : World) :
    Calls Tryd.prog 35 #[.agg #[.int .u8 (r : Nat), .int .u8 (l : Nat)], rlV x] w fun e w' => e = .returned (.bool (!r.testBit x.src.toNat || !l.testBit x.dst.toNat)) ∧ Below w.heap.size w w' := by
  have hb := ((Below.refl w.heap.size w).alloc (Nat.le_refl _) (.cells #[.int .u8 (r : Nat), .int .u8 (l : Nat)] 51)).alloc (by simp) (.cells #[.int .i64 x.src, .int .i64 x.dst, .string (B x.inp), .string (B x.out), .int .i64 x.cost] 31)
  obtain ⟨a, ha⟩ : ∃ a : Nat, x.src = (a : Int) := ⟨x.src.toNat, by omega⟩
  obtain ⟨b, hbb⟩ : ∃ b : Nat, x.dst = (b : Int) := ⟨x.dst.toNat, by omega⟩
  have kb := ((KBlock.new w r l).below ((Below.refl _ _).alloc (Nat.le_refl _) (.cells #[.int .i64 x.src, .int .i64 x.dst, .string (B x.inp), .string (B x.out), .int .i64 x.cost] 31))).cells
  have rb : RlBlock ((w.alloc (.cells #[.int .u8 (r : Nat), .int .u8 (l : Nat)] 51)).alloc (.cells #[.int .i64 x.src, .int .i64 x.dst, .string (B x.inp), .string (B x.out), .int .i64 x.cost] 31)) (w.heap.size + 1) x := by
    have := heap_alloc_new (w.alloc (.cells #[.int .u8 (r : Nat), .int .u8 (l : Nat)] 51)) (.cells #[.int .i64 x.src, .int .i64 x.dst, .string (B x.inp), .string (B x.out), .int .i64 x.cost] 31)
    rw [World.size_alloc] at this
    exact this
  obtain ⟨k0, k1⟩ := kb
  obtain ⟨r0, r1, r2, r3, r4⟩ := rb.cells
  have C1 := fun W => Lib.hid (hasM_any r a hr (by omega) W)
  have C2 := fun W => Lib.hid (hasM_any l b hl (by omega) W)
  have T1 := Lib.hid (show r.testBit x.src.toNat = r.testBit a by rw [ha]; rfl)
  have T2 := Lib.hid (show l.testBit x.dst.toNat = l.testBit b by rw [hbb]; rfl)
  have hrv : rlV x = .agg #[.int .i64 (a : Int), .int .i64 (b : Int), .string (B x.inp), .string (B x.out), .int .i64 x.cost] := by unfold rlV; rw [ha, hbb]
  rw [hrv]
  rw [ha, hbb] at hb
  have HB := Lib.hid hb
  simp only [ha, hbb] at k0 k1 r0 r1 r2 r3 r4
  clear hb rb hs hd ha hbb hrv
  go_enter Tryd.func35, Tryd.ntmps35
  go_wp2_with fail
  generalize (w.alloc _).alloc _ = x1 at *
  refine ((C1 x1).out).mono ?_
  rintro e x2 ⟨rfl, rfl⟩
  cases h1 : r.testBit a with
  | false =>
    have H1 := Lib.hid h1
    clear h1
    go_wp2_with fail
    go_ret
    exact ⟨by rw [T1.out, H1.out]; rfl, HB.out⟩
  | true =>
    have H1 := Lib.hid h1
    clear h1
    go_wp2_with fail
    refine ((C2 x2).out).mono ?_
    rintro e x3 ⟨rfl, rfl⟩
    go_wp2_with fail
    go_ret
    exact ⟨by rw [T1.out, T2.out, H1.out]; rfl, HB.out⟩
end Go.Proofs.YtadaijepalhohabDoor
