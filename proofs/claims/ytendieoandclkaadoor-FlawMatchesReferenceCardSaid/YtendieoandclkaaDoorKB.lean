/-
  The reference's base schemes: simple, Base (written by vf.py). The reference's Made1: a rule of at most 2 letters on either side. Made: what it needs of memory. The reference's Made.
-/
import Derived.Test.YtendieoandclkaaDoorVE
import Derived.Test.YtendieoandclkaaDoorRO
import Derived.Test.YtendieoandclkaaDoorSX
import Derived.StillTailTactics
import Derived.BigRegion
import Derived.Test.YtendieoandclkaaDoorTH
import Derived.Test.YtendieoandclkaaDoorPV

namespace Go.Proofs.YtendieoandclkaaDoor
open Go.RowKit
open Pl

theorem SchBlock.lt {W : World} {b : Nat} {c0 c1 c2 : Value} (h : SchBlock W b c0 c1 c2) : b < W.heap.size := lt_of_heap h
theorem SchBlock.kept {W W' : World} {b b' : Nat} {c0 c1 c2 : Value} (h : SchBlock W b c0 c1 c2) (hg : W.grownBy W' (some b')) (hne : b' ≠ b) : SchBlock W' b c0 c1 c2 := h.keptBy hg (fun e => hne (Option.some.inj e))

theorem RlsOwn.fresh (w : World) (rs : List Rl) (cs : Array Value) (n base : Nat) (hcs : cs = (rs.flatMap rlCells).toArray) (hn : n = rs.length) (hl : rs.length ≤ maxLen) (hb : base ≤ w.heap.size) :
    RlsOwn (w.alloc (.cells cs 29)) base (.slice (some ⟨w.heap.size, 0, none⟩) n n) rs := by
  subst hcs hn
  refine ⟨rlCells_length rs, Or.inr ⟨w.heap.size, rs.length, (rs.flatMap rlCells).toArray, rfl, hb, heap_alloc_new w _, Nat.le_refl _, hl, by rw [List.size_toArray, rlCells_length], ?_⟩⟩
  rw [← rlCells_length]; exact List.take_length
def PrBlock (W : World) (b : Nat) (x y : Int) : Prop := W.heap[b]? = some (.cells #[.int .i64 x, .int .i64 y] 81 (0, 0))
theorem PrBlock.below {W W' : World} {b : Nat} {x y : Int} (h : PrBlock W b x y) (hb : Below W.heap.size W W') : PrBlock W' b x y := by
  have hlt := lt_of_heap h
  unfold PrBlock at h ⊢; rw [hb.block b hlt]; exact h
theorem PrBlock.cells {W : World} {b : Nat} {x y : Int} (h : PrBlock W b x y) : W.cell? ⟨b, 0, none⟩ = some (.int .i64 x) ∧ W.cell? ⟨b, 1, none⟩ = some (.int .i64 y) := by
  unfold PrBlock at h
  exact ⟨by simp [World.cell?, h], by simp [World.cell?, h]⟩
set_option maxHeartbeats 400000 in
set_option maxRecDepth 100000 in
theorem simple_any (a b : Int) (i o : ByteArray) (w : World) : Calls Tryd.prog 48 #[.agg #[.int .i64 a, .int .i64 b], .string i, .string o] w fun e w' => e = .returned (.agg #[.int .i64 a, .int .i64 b, .string i, .string o, .int .i64 (i.size : Nat)]) ∧ Below w.heap.size w w' := by
  have hb : Below w.heap.size w ((w.alloc (.cells #[.int .i64 a, .int .i64 b] 81)).alloc (.cells #[.int .i64 0, .int .i64 0, .string ⟨#[]⟩, .string ⟨#[]⟩, .int .i64 0] 29)) := ((Below.refl _ _).alloc (Nat.le_refl _) _).alloc (by simp) _
  have PB : PrBlock ((w.alloc (.cells #[.int .i64 a, .int .i64 b] 81)).alloc (.cells #[.int .i64 0, .int .i64 0, .string ⟨#[]⟩, .string ⟨#[]⟩, .int .i64 0] 29)) w.heap.size a b := PrBlock.below (show PrBlock (w.alloc (.cells #[.int .i64 a, .int .i64 b] 81)) w.heap.size a b from heap_alloc_new w _) ((Below.refl _ _).alloc (Nat.le_refl _) _)
  have RB : RlBlock ((w.alloc (.cells #[.int .i64 a, .int .i64 b] 81)).alloc (.cells #[.int .i64 0, .int .i64 0, .string ⟨#[]⟩, .string ⟨#[]⟩, .int .i64 0] 29)) (w.heap.size + 1) ⟨0, 0, [], [], 0⟩ := by
    have := rl_new (w.alloc (.cells #[.int .i64 a, .int .i64 b] 81)) ⟨0, 0, [], [], 0⟩ _ rfl
    rw [World.size_alloc] at this
    exact this
  have HB := Lib.hid hb
  obtain ⟨z0, z1⟩ := PB.cells
  clear hb PB
  go_enter Tryd.func48, Tryd.ntmps48
  go_wp2_with (first | (refine wpList_store_rl rfl _ _ rfl _ _ RB rfl ⟨a, b, i.data.toList, o.data.toList, (i.size : Nat)⟩ (by unfold rlV; dsimp only; rw [B_toList, B_toList]; rfl) ?_; intro W' hB' hg' hs'; clear RB))
  refine ret_rl rfl rfl rfl hB' ?_
  exact ⟨by unfold rlV; dsimp only; rw [B_toList, B_toList], HB.out.grown hg' HB.out.size (by simp)⟩
/-- The six base schemes. -/
def baseM (k : Nat) : Int := if k = 2 then 2 else 1
def baseL : Nat → List Rl
  | 0 => [⟨0, 0, [97], [97], 1⟩, ⟨0, 0, [98], [98], 1⟩, ⟨0, 0, [99], [99], 1⟩]
  | 1 => [⟨0, 0, [97], [65], 1⟩, ⟨0, 0, [98, 97], [66], 2⟩, ⟨0, 0, [99, 97], [67], 2⟩, ⟨0, 0, [98], [98], 1⟩]
  | 2 => [⟨0, 1, [99], [], 1⟩, ⟨1, 0, [97], [65], 1⟩, ⟨1, 0, [98], [66], 1⟩, ⟨0, 0, [97], [97], 1⟩, ⟨0, 0, [98], [98], 1⟩]
  | 3 => [⟨0, 0, [97], [97], 1⟩, ⟨0, 0, [98], [98], 1⟩, ⟨0, 0, [97, 98], [97, 98, 99, 49], 2⟩, ⟨0, 0, [99], [99], 1⟩]
  | 4 => [⟨0, 0, [97], [97], 1⟩, ⟨0, 0, [98], [98], 0⟩, ⟨0, 0, [99], [98], 7⟩, ⟨0, 0, [98], [99], 9⟩]
  | _ => [⟨0, 0, [97], [97], 1⟩, ⟨0, 0, [97], [65], 1⟩, ⟨0, 0, [97, 97], [66], 2⟩, ⟨0, 0, [98], [98], 1⟩, ⟨0, 0, [98], [], 20⟩]
theorem base_valid : ∀ k, k < 6 → validB (baseM k) 1 (baseL k) = true ∧ validB (baseM k) 1 ((baseL k).drop 1) = true ∧ 3 ≤ (baseL k).length ∧ (baseL k).length ≤ 5 := by decide
def BasePost (k : Nat) (w : World) (e : Ending) (w' : World) : Prop := (∃ g, e = .returned (.agg #[.int .i64 (baseM k), .int .u8 1, .slice (some ⟨g, 0, none⟩) (baseL k).length (baseL k).length]) ∧ RlsOwn w' w.heap.size (.slice (some ⟨g, 0, none⟩) (baseL k).length (baseL k).length) (baseL k)) ∧ Below w.heap.size w w'
theorem layB (w : World) : SchBlock (((w.alloc (.cells #[.int .i64 0, .int .u8 0, .slice none 0 0] 33)).alloc (.cells #[.int .i64 1, .int .u8 1, .slice none 0 0] 33)).alloc (.cells #[.int .i64 0, .int .i64 0] 81)) w.heap.size (.int .i64 0) (.int .u8 0) (.slice none 0 0) ∧ SchBlock (((w.alloc (.cells #[.int .i64 0, .int .u8 0, .slice none 0 0] 33)).alloc (.cells #[.int .i64 1, .int .u8 1, .slice none 0 0] 33)).alloc (.cells #[.int .i64 0, .int .i64 0] 81)) (w.heap.size + 1) (.int .i64 1) (.int .u8 1) (.slice none 0 0) ∧ PrBlock (((w.alloc (.cells #[.int .i64 0, .int .u8 0, .slice none 0 0] 33)).alloc (.cells #[.int .i64 1, .int .u8 1, .slice none 0 0] 33)).alloc (.cells #[.int .i64 0, .int .i64 0] 81)) (w.heap.size + 1 + 1) 0 0 ∧ Below w.heap.size w (((w.alloc (.cells #[.int .i64 0, .int .u8 0, .slice none 0 0] 33)).alloc (.cells #[.int .i64 1, .int .u8 1, .slice none 0 0] 33)).alloc (.cells #[.int .i64 0, .int .i64 0] 81)) := by
  have e1 : (w.alloc (.cells #[.int .i64 0, .int .u8 0, .slice none 0 0] 33)).heap.size = w.heap.size + 1 := World.size_alloc _ _
  have e2 : ((w.alloc (.cells #[.int .i64 0, .int .u8 0, .slice none 0 0] 33)).alloc (.cells #[.int .i64 1, .int .u8 1, .slice none 0 0] 33)).heap.size = w.heap.size + 1 + 1 := by rw [World.size_alloc, e1]
  have k0 := SchBlock.new w (.int .i64 0) (.int .u8 0) (.slice none 0 0)
  have k1 : SchBlock ((w.alloc (.cells #[.int .i64 0, .int .u8 0, .slice none 0 0] 33)).alloc (.cells #[.int .i64 1, .int .u8 1, .slice none 0 0] 33)) (w.heap.size + 1) (.int .i64 1) (.int .u8 1) (.slice none 0 0) := by have := SchBlock.new (w.alloc (.cells #[.int .i64 0, .int .u8 0, .slice none 0 0] 33)) (.int .i64 1) (.int .u8 1) (.slice none 0 0); rwa [e1] at this
  have k2 : PrBlock (((w.alloc (.cells #[.int .i64 0, .int .u8 0, .slice none 0 0] 33)).alloc (.cells #[.int .i64 1, .int .u8 1, .slice none 0 0] 33)).alloc (.cells #[.int .i64 0, .int .i64 0] 81)) (w.heap.size + 1 + 1) 0 0 := by have := heap_alloc_new ((w.alloc (.cells #[.int .i64 0, .int .u8 0, .slice none 0 0] 33)).alloc (.cells #[.int .i64 1, .int .u8 1, .slice none 0 0] 33)) (.cells #[.int .i64 0, .int .i64 0] 81); rw [e2] at this; exact this
  exact ⟨(k0.alloc _).alloc _, k1.alloc _, k2, ((((Below.refl _ _).alloc (Nat.le_refl _) _).alloc (by omega) _).alloc (by omega) _)⟩
set_option maxHeartbeats 1000000 in
set_option maxRecDepth 100000 in
theorem Base_0 (x : Int) (w : World) (hx : x.tmod 6 = 0) : Calls Tryd.prog 27 #[.int .u8 x] w (BasePost 0 w) := by
  obtain ⟨k0, k1, k2, hb⟩ := layB w
  have HB := Lib.hid hb
  have SB0 := Lib.hid k0
  have SB1 := Lib.hid k1
  have PB := Lib.hid k2
  have hk1 := k1.lt
  clear k0 k1 k2 hb
  go_enter Tryd.func27, Tryd.ntmps27
  go_upto_region 6 with fail
  generalize ((w.alloc _).alloc _).alloc _ = x1 at *
  have CJ : ∀ W, Below x1.heap.size x1 W → W.cell? ⟨w.heap.size + 1 + 1, 0, none⟩ = some (.int .i64 0) ∧ W.cell? ⟨w.heap.size + 1 + 1, 1, none⟩ = some (.int .i64 0) ∧ Below x1.heap.size x1 W := fun W hb => ⟨(PB.out.below hb).cells.1, (PB.out.below hb).cells.2, hb⟩
  have C0 : ∀ W, (W.cell? ⟨w.heap.size + 1 + 1, 0, none⟩ = some (.int .i64 0) ∧ W.cell? ⟨w.heap.size + 1 + 1, 1, none⟩ = some (.int .i64 0) ∧ Below x1.heap.size x1 W) → Calls Tryd.prog 48 #[.agg #[.int .i64 0, .int .i64 0], .string ⟨#[97]⟩, .string ⟨#[97]⟩] W fun e w' => e = .returned (.agg #[.int .i64 0, .int .i64 0, .string ⟨#[97]⟩, .string ⟨#[97]⟩, .int .i64 1]) ∧ (w'.cell? ⟨w.heap.size + 1 + 1, 0, none⟩ = some (.int .i64 0) ∧ w'.cell? ⟨w.heap.size + 1 + 1, 1, none⟩ = some (.int .i64 0) ∧ Below x1.heap.size x1 w') := fun W h => (simple_any 0 0 ⟨#[97]⟩ ⟨#[97]⟩ W).mono fun e w' h' => ⟨h'.1, CJ w' (h.2.2.trans (h'.2.mono h.2.2.size))⟩
  have C1 : ∀ W, (W.cell? ⟨w.heap.size + 1 + 1, 0, none⟩ = some (.int .i64 0) ∧ W.cell? ⟨w.heap.size + 1 + 1, 1, none⟩ = some (.int .i64 0) ∧ Below x1.heap.size x1 W) → Calls Tryd.prog 48 #[.agg #[.int .i64 0, .int .i64 0], .string ⟨#[98]⟩, .string ⟨#[98]⟩] W fun e w' => e = .returned (.agg #[.int .i64 0, .int .i64 0, .string ⟨#[98]⟩, .string ⟨#[98]⟩, .int .i64 1]) ∧ (w'.cell? ⟨w.heap.size + 1 + 1, 0, none⟩ = some (.int .i64 0) ∧ w'.cell? ⟨w.heap.size + 1 + 1, 1, none⟩ = some (.int .i64 0) ∧ Below x1.heap.size x1 w') := fun W h => (simple_any 0 0 ⟨#[98]⟩ ⟨#[98]⟩ W).mono fun e w' h' => ⟨h'.1, CJ w' (h.2.2.trans (h'.2.mono h.2.2.size))⟩
  have C2 : ∀ W, (W.cell? ⟨w.heap.size + 1 + 1, 0, none⟩ = some (.int .i64 0) ∧ W.cell? ⟨w.heap.size + 1 + 1, 1, none⟩ = some (.int .i64 0) ∧ Below x1.heap.size x1 W) → Calls Tryd.prog 48 #[.agg #[.int .i64 0, .int .i64 0], .string ⟨#[99]⟩, .string ⟨#[99]⟩] W fun e w' => e = .returned (.agg #[.int .i64 0, .int .i64 0, .string ⟨#[99]⟩, .string ⟨#[99]⟩, .int .i64 1]) ∧ (w'.cell? ⟨w.heap.size + 1 + 1, 0, none⟩ = some (.int .i64 0) ∧ w'.cell? ⟨w.heap.size + 1 + 1, 1, none⟩ = some (.int .i64 0) ∧ Below x1.heap.size x1 w') := fun W h => (simple_any 0 0 ⟨#[99]⟩ ⟨#[99]⟩ W).mono fun e w' h' => ⟨h'.1, CJ w' (h.2.2.trans (h'.2.mono h.2.2.size))⟩
  refine wp_region_qp (m := False) (pc := []) (C := fun W => W.cell? ⟨w.heap.size + 1 + 1, 0, none⟩ = some (.int .i64 0) ∧ W.cell? ⟨w.heap.size + 1 + 1, 1, none⟩ = some (.int .i64 0) ∧ Below x1.heap.size x1 W) 6 (by kernel_rfl) (by kernel_rfl) (CJ _ (Below.refl _ _).drew) (fun h => h.elim) ?_
  simp only [List.take_succ_cons, List.take_zero, List.drop_succ_cons, List.drop_zero]
  repeat (refine wpQP_step rfl ?_; intro K hK; first | (refine quiet_value ?_ (fun W h => ?_) ?_; rotate_left; (· obtain ⟨s0, s1, hb2⟩ := h; go_simp; rfl); go_simp; go_big_quiet_on) | (refine quiet_call _ _ _ (fun W => ?_) C0 ?_; (· go_simp; done); go_simp; go_big_quiet_on) | (refine quiet_call _ _ _ (fun W => ?_) C1 ?_; (· go_simp; done); go_simp; go_big_quiet_on) | (refine quiet_call _ _ _ (fun W => ?_) C2 ?_; (· go_simp; done); go_simp; go_big_quiet_on))
  refine wpQP_nil ?_
  rintro - x2 ⟨-, -, hb⟩
  have HB2 := Lib.hid (HB.out.trans (hb.mono HB.out.size))
  have S0 := SB0.out.below hb
  have S1 := SB1.out.below hb
  have hle := hb.size
  clear hb C0 C1 C2 CJ SB0 SB1 PB HB
  have hs0 := S0.lt
  have hs1 := S1.lt
  obtain ⟨q0, q1, q2⟩ := S1.cells
  have zf := S1.free
  have es : (x2.setCell ⟨w.heap.size + 1, 2, none⟩ (.slice (some ⟨x2.heap.size, 0, none⟩) 3 3)).heap.size = x2.heap.size := by simp
  have F3 : RlsOwn ((x2.setCell ⟨w.heap.size + 1, 2, none⟩ (.slice (some ⟨x2.heap.size, 0, none⟩) 3 3)).alloc (.cells #[.int .i64 0, .int .i64 0, .string ⟨#[97]⟩, .string ⟨#[97]⟩, .int .i64 1, .int .i64 0, .int .i64 0, .string ⟨#[98]⟩, .string ⟨#[98]⟩, .int .i64 1, .int .i64 0, .int .i64 0, .string ⟨#[99]⟩, .string ⟨#[99]⟩, .int .i64 1] 29)) (w.heap.size + 2) (.slice (some ⟨x2.heap.size, 0, none⟩) 3 3) (baseL 0) := by
    have := RlsOwn.fresh (x2.setCell ⟨w.heap.size + 1, 2, none⟩ (.slice (some ⟨x2.heap.size, 0, none⟩) 3 3)) (baseL 0) #[.int .i64 0, .int .i64 0, .string ⟨#[97]⟩, .string ⟨#[97]⟩, .int .i64 1, .int .i64 0, .int .i64 0, .string ⟨#[98]⟩, .string ⟨#[98]⟩, .int .i64 1, .int .i64 0, .int .i64 0, .string ⟨#[99]⟩, .string ⟨#[99]⟩, .int .i64 1] 3 (w.heap.size + 2) rfl rfl (by decide) (by rw [es]; omega)
    rwa [es] at this
  have F3 := Lib.hid F3
  have T0 := (S0.setCellAt (b' := w.heap.size + 1) (o := 2) (u := .slice (some ⟨x2.heap.size, 0, none⟩) 3 3) (by omega)).alloc (.cells #[.int .i64 0, .int .i64 0, .string ⟨#[97]⟩, .string ⟨#[97]⟩, .int .i64 1, .int .i64 0, .int .i64 0, .string ⟨#[98]⟩, .string ⟨#[98]⟩, .int .i64 1, .int .i64 0, .int .i64 0, .string ⟨#[99]⟩, .string ⟨#[99]⟩, .int .i64 1] 29)
  have T1 := Lib.hid ((S1.put2 (v := .slice (some ⟨x2.heap.size, 0, none⟩) 3 3)).alloc (.cells #[.int .i64 0, .int .i64 0, .string ⟨#[97]⟩, .string ⟨#[97]⟩, .int .i64 1, .int .i64 0, .int .i64 0, .string ⟨#[98]⟩, .string ⟨#[98]⟩, .int .i64 1, .int .i64 0, .int .i64 0, .string ⟨#[99]⟩, .string ⟨#[99]⟩, .int .i64 1] 29))
  have HB3 := Lib.hid ((HB2.out.setCell (p := ⟨w.heap.size + 1, 2, none⟩) (by simp) (.slice (some ⟨x2.heap.size, 0, none⟩) 3 3)).alloc (by rw [es]; exact HB2.out.size) (.cells #[.int .i64 0, .int .i64 0, .string ⟨#[97]⟩, .string ⟨#[97]⟩, .int .i64 1, .int .i64 0, .int .i64 0, .string ⟨#[98]⟩, .string ⟨#[98]⟩, .int .i64 1, .int .i64 0, .int .i64 0, .string ⟨#[99]⟩, .string ⟨#[99]⟩, .int .i64 1] 29))
  clear es S0 S1
  go_upto_region 15 with fail
  clear q0 q1 q2 zf
  generalize World.alloc _ _ = x3 at *
  generalize x2.heap.size = g2 at *
  obtain ⟨t0, t1, t2⟩ := T1.out.cells
  go_wp2_with (first | (refine wpList_store_sch rfl _ _ rfl _ _ _ _ T0 rfl _ _ _ _ _ rfl ?_; intro W' hB' hg' hs'))
  refine ret_sch rfl rfl rfl hB' ?_
  refine ⟨⟨_, rfl, (F3.out.keep fun g hg hl => hg'.block g hl (by simp; omega)).base (by omega)⟩, HB3.out.grown hg' HB3.out.size (by simp)⟩
set_option maxHeartbeats 1000000 in
set_option maxRecDepth 100000 in
theorem Base_1 (x : Int) (w : World) (hx : x.tmod 6 = 1) : Calls Tryd.prog 27 #[.int .u8 x] w (BasePost 1 w) := by
  obtain ⟨k0, k1, k2, hb⟩ := layB w
  have HB := Lib.hid hb
  have SB0 := Lib.hid k0
  have SB1 := Lib.hid k1
  have PB := Lib.hid k2
  have hk1 := k1.lt
  clear k0 k1 k2 hb
  go_enter Tryd.func27, Tryd.ntmps27
  go_upto_region 8 with fail
  generalize ((w.alloc _).alloc _).alloc _ = x1 at *
  have CJ : ∀ W, Below x1.heap.size x1 W → W.cell? ⟨w.heap.size + 1 + 1, 0, none⟩ = some (.int .i64 0) ∧ W.cell? ⟨w.heap.size + 1 + 1, 1, none⟩ = some (.int .i64 0) ∧ Below x1.heap.size x1 W := fun W hb => ⟨(PB.out.below hb).cells.1, (PB.out.below hb).cells.2, hb⟩
  have C0 : ∀ W, (W.cell? ⟨w.heap.size + 1 + 1, 0, none⟩ = some (.int .i64 0) ∧ W.cell? ⟨w.heap.size + 1 + 1, 1, none⟩ = some (.int .i64 0) ∧ Below x1.heap.size x1 W) → Calls Tryd.prog 48 #[.agg #[.int .i64 0, .int .i64 0], .string ⟨#[97]⟩, .string ⟨#[65]⟩] W fun e w' => e = .returned (.agg #[.int .i64 0, .int .i64 0, .string ⟨#[97]⟩, .string ⟨#[65]⟩, .int .i64 1]) ∧ (w'.cell? ⟨w.heap.size + 1 + 1, 0, none⟩ = some (.int .i64 0) ∧ w'.cell? ⟨w.heap.size + 1 + 1, 1, none⟩ = some (.int .i64 0) ∧ Below x1.heap.size x1 w') := fun W h => (simple_any 0 0 ⟨#[97]⟩ ⟨#[65]⟩ W).mono fun e w' h' => ⟨h'.1, CJ w' (h.2.2.trans (h'.2.mono h.2.2.size))⟩
  have C1 : ∀ W, (W.cell? ⟨w.heap.size + 1 + 1, 0, none⟩ = some (.int .i64 0) ∧ W.cell? ⟨w.heap.size + 1 + 1, 1, none⟩ = some (.int .i64 0) ∧ Below x1.heap.size x1 W) → Calls Tryd.prog 48 #[.agg #[.int .i64 0, .int .i64 0], .string ⟨#[98, 97]⟩, .string ⟨#[66]⟩] W fun e w' => e = .returned (.agg #[.int .i64 0, .int .i64 0, .string ⟨#[98, 97]⟩, .string ⟨#[66]⟩, .int .i64 2]) ∧ (w'.cell? ⟨w.heap.size + 1 + 1, 0, none⟩ = some (.int .i64 0) ∧ w'.cell? ⟨w.heap.size + 1 + 1, 1, none⟩ = some (.int .i64 0) ∧ Below x1.heap.size x1 w') := fun W h => (simple_any 0 0 ⟨#[98, 97]⟩ ⟨#[66]⟩ W).mono fun e w' h' => ⟨h'.1, CJ w' (h.2.2.trans (h'.2.mono h.2.2.size))⟩
  have C2 : ∀ W, (W.cell? ⟨w.heap.size + 1 + 1, 0, none⟩ = some (.int .i64 0) ∧ W.cell? ⟨w.heap.size + 1 + 1, 1, none⟩ = some (.int .i64 0) ∧ Below x1.heap.size x1 W) → Calls Tryd.prog 48 #[.agg #[.int .i64 0, .int .i64 0], .string ⟨#[99, 97]⟩, .string ⟨#[67]⟩] W fun e w' => e = .returned (.agg #[.int .i64 0, .int .i64 0, .string ⟨#[99, 97]⟩, .string ⟨#[67]⟩, .int .i64 2]) ∧ (w'.cell? ⟨w.heap.size + 1 + 1, 0, none⟩ = some (.int .i64 0) ∧ w'.cell? ⟨w.heap.size + 1 + 1, 1, none⟩ = some (.int .i64 0) ∧ Below x1.heap.size x1 w') := fun W h => (simple_any 0 0 ⟨#[99, 97]⟩ ⟨#[67]⟩ W).mono fun e w' h' => ⟨h'.1, CJ w' (h.2.2.trans (h'.2.mono h.2.2.size))⟩
  have C3 : ∀ W, (W.cell? ⟨w.heap.size + 1 + 1, 0, none⟩ = some (.int .i64 0) ∧ W.cell? ⟨w.heap.size + 1 + 1, 1, none⟩ = some (.int .i64 0) ∧ Below x1.heap.size x1 W) → Calls Tryd.prog 48 #[.agg #[.int .i64 0, .int .i64 0], .string ⟨#[98]⟩, .string ⟨#[98]⟩] W fun e w' => e = .returned (.agg #[.int .i64 0, .int .i64 0, .string ⟨#[98]⟩, .string ⟨#[98]⟩, .int .i64 1]) ∧ (w'.cell? ⟨w.heap.size + 1 + 1, 0, none⟩ = some (.int .i64 0) ∧ w'.cell? ⟨w.heap.size + 1 + 1, 1, none⟩ = some (.int .i64 0) ∧ Below x1.heap.size x1 w') := fun W h => (simple_any 0 0 ⟨#[98]⟩ ⟨#[98]⟩ W).mono fun e w' h' => ⟨h'.1, CJ w' (h.2.2.trans (h'.2.mono h.2.2.size))⟩
  refine wp_region_qp (m := False) (pc := []) (C := fun W => W.cell? ⟨w.heap.size + 1 + 1, 0, none⟩ = some (.int .i64 0) ∧ W.cell? ⟨w.heap.size + 1 + 1, 1, none⟩ = some (.int .i64 0) ∧ Below x1.heap.size x1 W) 8 (by kernel_rfl) (by kernel_rfl) (CJ _ (Below.refl _ _).drew) (fun h => h.elim) ?_
  simp only [List.take_succ_cons, List.take_zero, List.drop_succ_cons, List.drop_zero]
  repeat (refine wpQP_step rfl ?_; intro K hK; first | (refine quiet_value ?_ (fun W h => ?_) ?_; rotate_left; (· obtain ⟨s0, s1, hb2⟩ := h; go_simp; rfl); go_simp; go_big_quiet_on) | (refine quiet_call _ _ _ (fun W => ?_) C0 ?_; (· go_simp; done); go_simp; go_big_quiet_on) | (refine quiet_call _ _ _ (fun W => ?_) C1 ?_; (· go_simp; done); go_simp; go_big_quiet_on) | (refine quiet_call _ _ _ (fun W => ?_) C2 ?_; (· go_simp; done); go_simp; go_big_quiet_on) | (refine quiet_call _ _ _ (fun W => ?_) C3 ?_; (· go_simp; done); go_simp; go_big_quiet_on))
  refine wpQP_nil ?_
  rintro - x2 ⟨-, -, hb⟩
  have HB2 := Lib.hid (HB.out.trans (hb.mono HB.out.size))
  have S0 := SB0.out.below hb
  have S1 := SB1.out.below hb
  have hle := hb.size
  clear hb C0 C1 C2 C3 CJ SB0 SB1 PB HB
  have hs0 := S0.lt
  have hs1 := S1.lt
  obtain ⟨q0, q1, q2⟩ := S1.cells
  have zf := S1.free
  have es : (x2.setCell ⟨w.heap.size + 1, 2, none⟩ (.slice (some ⟨x2.heap.size, 0, none⟩) 4 4)).heap.size = x2.heap.size := by simp
  have F3 : RlsOwn ((x2.setCell ⟨w.heap.size + 1, 2, none⟩ (.slice (some ⟨x2.heap.size, 0, none⟩) 4 4)).alloc (.cells #[.int .i64 0, .int .i64 0, .string ⟨#[97]⟩, .string ⟨#[65]⟩, .int .i64 1, .int .i64 0, .int .i64 0, .string ⟨#[98, 97]⟩, .string ⟨#[66]⟩, .int .i64 2, .int .i64 0, .int .i64 0, .string ⟨#[99, 97]⟩, .string ⟨#[67]⟩, .int .i64 2, .int .i64 0, .int .i64 0, .string ⟨#[98]⟩, .string ⟨#[98]⟩, .int .i64 1] 29)) (w.heap.size + 2) (.slice (some ⟨x2.heap.size, 0, none⟩) 4 4) (baseL 1) := by
    have := RlsOwn.fresh (x2.setCell ⟨w.heap.size + 1, 2, none⟩ (.slice (some ⟨x2.heap.size, 0, none⟩) 4 4)) (baseL 1) #[.int .i64 0, .int .i64 0, .string ⟨#[97]⟩, .string ⟨#[65]⟩, .int .i64 1, .int .i64 0, .int .i64 0, .string ⟨#[98, 97]⟩, .string ⟨#[66]⟩, .int .i64 2, .int .i64 0, .int .i64 0, .string ⟨#[99, 97]⟩, .string ⟨#[67]⟩, .int .i64 2, .int .i64 0, .int .i64 0, .string ⟨#[98]⟩, .string ⟨#[98]⟩, .int .i64 1] 4 (w.heap.size + 2) rfl rfl (by decide) (by rw [es]; omega)
    rwa [es] at this
  have F3 := Lib.hid F3
  have T0 := (S0.setCellAt (b' := w.heap.size + 1) (o := 2) (u := .slice (some ⟨x2.heap.size, 0, none⟩) 4 4) (by omega)).alloc (.cells #[.int .i64 0, .int .i64 0, .string ⟨#[97]⟩, .string ⟨#[65]⟩, .int .i64 1, .int .i64 0, .int .i64 0, .string ⟨#[98, 97]⟩, .string ⟨#[66]⟩, .int .i64 2, .int .i64 0, .int .i64 0, .string ⟨#[99, 97]⟩, .string ⟨#[67]⟩, .int .i64 2, .int .i64 0, .int .i64 0, .string ⟨#[98]⟩, .string ⟨#[98]⟩, .int .i64 1] 29)
  have T1 := Lib.hid ((S1.put2 (v := .slice (some ⟨x2.heap.size, 0, none⟩) 4 4)).alloc (.cells #[.int .i64 0, .int .i64 0, .string ⟨#[97]⟩, .string ⟨#[65]⟩, .int .i64 1, .int .i64 0, .int .i64 0, .string ⟨#[98, 97]⟩, .string ⟨#[66]⟩, .int .i64 2, .int .i64 0, .int .i64 0, .string ⟨#[99, 97]⟩, .string ⟨#[67]⟩, .int .i64 2, .int .i64 0, .int .i64 0, .string ⟨#[98]⟩, .string ⟨#[98]⟩, .int .i64 1] 29))
  have HB3 := Lib.hid ((HB2.out.setCell (p := ⟨w.heap.size + 1, 2, none⟩) (by simp) (.slice (some ⟨x2.heap.size, 0, none⟩) 4 4)).alloc (by rw [es]; exact HB2.out.size) (.cells #[.int .i64 0, .int .i64 0, .string ⟨#[97]⟩, .string ⟨#[65]⟩, .int .i64 1, .int .i64 0, .int .i64 0, .string ⟨#[98, 97]⟩, .string ⟨#[66]⟩, .int .i64 2, .int .i64 0, .int .i64 0, .string ⟨#[99, 97]⟩, .string ⟨#[67]⟩, .int .i64 2, .int .i64 0, .int .i64 0, .string ⟨#[98]⟩, .string ⟨#[98]⟩, .int .i64 1] 29))
  clear es S0 S1
  go_upto_region 15 with fail
  clear q0 q1 q2 zf
  generalize World.alloc _ _ = x3 at *
  generalize x2.heap.size = g2 at *
  obtain ⟨t0, t1, t2⟩ := T1.out.cells
  go_wp2_with (first | (refine wpList_store_sch rfl _ _ rfl _ _ _ _ T0 rfl _ _ _ _ _ rfl ?_; intro W' hB' hg' hs'))
  refine ret_sch rfl rfl rfl hB' ?_
  refine ⟨⟨_, rfl, (F3.out.keep fun g hg hl => hg'.block g hl (by simp; omega)).base (by omega)⟩, HB3.out.grown hg' HB3.out.size (by simp)⟩
set_option maxHeartbeats 1000000 in
set_option maxRecDepth 100000 in
theorem Base_2 (x : Int) (w : World) (hx : x.tmod 6 = 2) : Calls Tryd.prog 27 #[.int .u8 x] w (BasePost 2 w) := by
  obtain ⟨k0, k1, k2, hb⟩ := layB w
  have HB := Lib.hid hb
  have SB0 := Lib.hid k0
  have SB1 := Lib.hid k1
  have PB := Lib.hid k2
  have hk1 := k1.lt
  clear k0 k1 k2 hb
  go_enter Tryd.func27, Tryd.ntmps27
  go_upto_region 10 with fail
  generalize ((w.alloc _).alloc _).alloc _ = x1 at *
  have CJ : ∀ W, Below x1.heap.size x1 W → W.cell? ⟨w.heap.size + 1 + 1, 0, none⟩ = some (.int .i64 0) ∧ W.cell? ⟨w.heap.size + 1 + 1, 1, none⟩ = some (.int .i64 0) ∧ Below x1.heap.size x1 W := fun W hb => ⟨(PB.out.below hb).cells.1, (PB.out.below hb).cells.2, hb⟩
  have C0 : ∀ W, (W.cell? ⟨w.heap.size + 1 + 1, 0, none⟩ = some (.int .i64 0) ∧ W.cell? ⟨w.heap.size + 1 + 1, 1, none⟩ = some (.int .i64 0) ∧ Below x1.heap.size x1 W) → Calls Tryd.prog 48 #[.agg #[.int .i64 0, .int .i64 1], .string ⟨#[99]⟩, .string ⟨#[]⟩] W fun e w' => e = .returned (.agg #[.int .i64 0, .int .i64 1, .string ⟨#[99]⟩, .string ⟨#[]⟩, .int .i64 1]) ∧ (w'.cell? ⟨w.heap.size + 1 + 1, 0, none⟩ = some (.int .i64 0) ∧ w'.cell? ⟨w.heap.size + 1 + 1, 1, none⟩ = some (.int .i64 0) ∧ Below x1.heap.size x1 w') := fun W h => (simple_any 0 1 ⟨#[99]⟩ ⟨#[]⟩ W).mono fun e w' h' => ⟨h'.1, CJ w' (h.2.2.trans (h'.2.mono h.2.2.size))⟩
  have C1 : ∀ W, (W.cell? ⟨w.heap.size + 1 + 1, 0, none⟩ = some (.int .i64 0) ∧ W.cell? ⟨w.heap.size + 1 + 1, 1, none⟩ = some (.int .i64 0) ∧ Below x1.heap.size x1 W) → Calls Tryd.prog 48 #[.agg #[.int .i64 1, .int .i64 0], .string ⟨#[97]⟩, .string ⟨#[65]⟩] W fun e w' => e = .returned (.agg #[.int .i64 1, .int .i64 0, .string ⟨#[97]⟩, .string ⟨#[65]⟩, .int .i64 1]) ∧ (w'.cell? ⟨w.heap.size + 1 + 1, 0, none⟩ = some (.int .i64 0) ∧ w'.cell? ⟨w.heap.size + 1 + 1, 1, none⟩ = some (.int .i64 0) ∧ Below x1.heap.size x1 w') := fun W h => (simple_any 1 0 ⟨#[97]⟩ ⟨#[65]⟩ W).mono fun e w' h' => ⟨h'.1, CJ w' (h.2.2.trans (h'.2.mono h.2.2.size))⟩
  have C2 : ∀ W, (W.cell? ⟨w.heap.size + 1 + 1, 0, none⟩ = some (.int .i64 0) ∧ W.cell? ⟨w.heap.size + 1 + 1, 1, none⟩ = some (.int .i64 0) ∧ Below x1.heap.size x1 W) → Calls Tryd.prog 48 #[.agg #[.int .i64 1, .int .i64 0], .string ⟨#[98]⟩, .string ⟨#[66]⟩] W fun e w' => e = .returned (.agg #[.int .i64 1, .int .i64 0, .string ⟨#[98]⟩, .string ⟨#[66]⟩, .int .i64 1]) ∧ (w'.cell? ⟨w.heap.size + 1 + 1, 0, none⟩ = some (.int .i64 0) ∧ w'.cell? ⟨w.heap.size + 1 + 1, 1, none⟩ = some (.int .i64 0) ∧ Below x1.heap.size x1 w') := fun W h => (simple_any 1 0 ⟨#[98]⟩ ⟨#[66]⟩ W).mono fun e w' h' => ⟨h'.1, CJ w' (h.2.2.trans (h'.2.mono h.2.2.size))⟩
  have C3 : ∀ W, (W.cell? ⟨w.heap.size + 1 + 1, 0, none⟩ = some (.int .i64 0) ∧ W.cell? ⟨w.heap.size + 1 + 1, 1, none⟩ = some (.int .i64 0) ∧ Below x1.heap.size x1 W) → Calls Tryd.prog 48 #[.agg #[.int .i64 0, .int .i64 0], .string ⟨#[97]⟩, .string ⟨#[97]⟩] W fun e w' => e = .returned (.agg #[.int .i64 0, .int .i64 0, .string ⟨#[97]⟩, .string ⟨#[97]⟩, .int .i64 1]) ∧ (w'.cell? ⟨w.heap.size + 1 + 1, 0, none⟩ = some (.int .i64 0) ∧ w'.cell? ⟨w.heap.size + 1 + 1, 1, none⟩ = some (.int .i64 0) ∧ Below x1.heap.size x1 w') := fun W h => (simple_any 0 0 ⟨#[97]⟩ ⟨#[97]⟩ W).mono fun e w' h' => ⟨h'.1, CJ w' (h.2.2.trans (h'.2.mono h.2.2.size))⟩
  have C4 : ∀ W, (W.cell? ⟨w.heap.size + 1 + 1, 0, none⟩ = some (.int .i64 0) ∧ W.cell? ⟨w.heap.size + 1 + 1, 1, none⟩ = some (.int .i64 0) ∧ Below x1.heap.size x1 W) → Calls Tryd.prog 48 #[.agg #[.int .i64 0, .int .i64 0], .string ⟨#[98]⟩, .string ⟨#[98]⟩] W fun e w' => e = .returned (.agg #[.int .i64 0, .int .i64 0, .string ⟨#[98]⟩, .string ⟨#[98]⟩, .int .i64 1]) ∧ (w'.cell? ⟨w.heap.size + 1 + 1, 0, none⟩ = some (.int .i64 0) ∧ w'.cell? ⟨w.heap.size + 1 + 1, 1, none⟩ = some (.int .i64 0) ∧ Below x1.heap.size x1 w') := fun W h => (simple_any 0 0 ⟨#[98]⟩ ⟨#[98]⟩ W).mono fun e w' h' => ⟨h'.1, CJ w' (h.2.2.trans (h'.2.mono h.2.2.size))⟩
  refine wp_region_qp (m := False) (pc := []) (C := fun W => W.cell? ⟨w.heap.size + 1 + 1, 0, none⟩ = some (.int .i64 0) ∧ W.cell? ⟨w.heap.size + 1 + 1, 1, none⟩ = some (.int .i64 0) ∧ Below x1.heap.size x1 W) 10 (by kernel_rfl) (by kernel_rfl) (CJ _ (Below.refl _ _).drew) (fun h => h.elim) ?_
  simp only [List.take_succ_cons, List.take_zero, List.drop_succ_cons, List.drop_zero]
  repeat (refine wpQP_step rfl ?_; intro K hK; first | (refine quiet_value ?_ (fun W h => ?_) ?_; rotate_left; (· obtain ⟨s0, s1, hb2⟩ := h; go_simp; rfl); go_simp; go_big_quiet_on) | (refine quiet_call _ _ _ (fun W => ?_) C0 ?_; (· go_simp; done); go_simp; go_big_quiet_on) | (refine quiet_call _ _ _ (fun W => ?_) C1 ?_; (· go_simp; done); go_simp; go_big_quiet_on) | (refine quiet_call _ _ _ (fun W => ?_) C2 ?_; (· go_simp; done); go_simp; go_big_quiet_on) | (refine quiet_call _ _ _ (fun W => ?_) C3 ?_; (· go_simp; done); go_simp; go_big_quiet_on) | (refine quiet_call _ _ _ (fun W => ?_) C4 ?_; (· go_simp; done); go_simp; go_big_quiet_on))
  refine wpQP_nil ?_
  rintro - x2 ⟨-, -, hb⟩
  have HB2 := Lib.hid (HB.out.trans (hb.mono HB.out.size))
  have S0 := SB0.out.below hb
  have S1 := SB1.out.below hb
  have hle := hb.size
  clear hb C0 C1 C2 C3 C4 CJ SB0 SB1 PB HB
  have hs0 := S0.lt
  have hs1 := S1.lt
  have F3 := Lib.hid (RlsOwn.fresh x2 (baseL 2) #[.int .i64 0, .int .i64 1, .string ⟨#[99]⟩, .string ⟨#[]⟩, .int .i64 1, .int .i64 1, .int .i64 0, .string ⟨#[97]⟩, .string ⟨#[65]⟩, .int .i64 1, .int .i64 1, .int .i64 0, .string ⟨#[98]⟩, .string ⟨#[66]⟩, .int .i64 1, .int .i64 0, .int .i64 0, .string ⟨#[97]⟩, .string ⟨#[97]⟩, .int .i64 1, .int .i64 0, .int .i64 0, .string ⟨#[98]⟩, .string ⟨#[98]⟩, .int .i64 1] 5 (w.heap.size + 2) rfl rfl (by decide) (by omega))
  have T0 := Lib.hid (S0.alloc (.cells #[.int .i64 0, .int .i64 1, .string ⟨#[99]⟩, .string ⟨#[]⟩, .int .i64 1, .int .i64 1, .int .i64 0, .string ⟨#[97]⟩, .string ⟨#[65]⟩, .int .i64 1, .int .i64 1, .int .i64 0, .string ⟨#[98]⟩, .string ⟨#[66]⟩, .int .i64 1, .int .i64 0, .int .i64 0, .string ⟨#[97]⟩, .string ⟨#[97]⟩, .int .i64 1, .int .i64 0, .int .i64 0, .string ⟨#[98]⟩, .string ⟨#[98]⟩, .int .i64 1] 29))
  have T1 := S1.alloc (.cells #[.int .i64 0, .int .i64 1, .string ⟨#[99]⟩, .string ⟨#[]⟩, .int .i64 1, .int .i64 1, .int .i64 0, .string ⟨#[97]⟩, .string ⟨#[65]⟩, .int .i64 1, .int .i64 1, .int .i64 0, .string ⟨#[98]⟩, .string ⟨#[66]⟩, .int .i64 1, .int .i64 0, .int .i64 0, .string ⟨#[97]⟩, .string ⟨#[97]⟩, .int .i64 1, .int .i64 0, .int .i64 0, .string ⟨#[98]⟩, .string ⟨#[98]⟩, .int .i64 1] 29)
  have HB3 := Lib.hid (HB2.out.alloc HB2.out.size (.cells #[.int .i64 0, .int .i64 1, .string ⟨#[99]⟩, .string ⟨#[]⟩, .int .i64 1, .int .i64 1, .int .i64 0, .string ⟨#[97]⟩, .string ⟨#[65]⟩, .int .i64 1, .int .i64 1, .int .i64 0, .string ⟨#[98]⟩, .string ⟨#[66]⟩, .int .i64 1, .int .i64 0, .int .i64 0, .string ⟨#[97]⟩, .string ⟨#[97]⟩, .int .i64 1, .int .i64 0, .int .i64 0, .string ⟨#[98]⟩, .string ⟨#[98]⟩, .int .i64 1] 29))
  clear S0 S1 HB2
  go_upto_region 15 with (first | (refine wpList_store_sch rfl _ _ rfl _ _ _ _ T1 rfl _ _ _ _ _ rfl ?_; intro W1 hB1 hg1 hs2; clear T1))
  have T0' := T0.out.kept hg1 (by omega)
  have F4 := Lib.hid (F3.out.keep fun g hg hl => hg1.block g hl (by simp; omega))
  have HB4 := Lib.hid (HB3.out.grown hg1 HB3.out.size (by simp))
  clear T0 F3 HB3 hs2 hg1
  obtain ⟨t0, t1, t2⟩ := hB1.cells
  go_wp2_with (first | (refine wpList_store_sch rfl _ _ rfl _ _ _ _ T0' rfl _ _ _ _ _ rfl ?_; intro W' hB' hg' hs'))
  refine ret_sch rfl rfl rfl hB' ?_
  refine ⟨⟨_, rfl, (F4.out.keep fun g hg hl => hg'.block g hl (by simp; omega)).base (by omega)⟩, HB4.out.grown hg' HB4.out.size (by simp)⟩
set_option maxHeartbeats 1000000 in
set_option maxRecDepth 100000 in
theorem Base_3 (x : Int) (w : World) (hx : x.tmod 6 = 3) : Calls Tryd.prog 27 #[.int .u8 x] w (BasePost 3 w) := by
  obtain ⟨k0, k1, k2, hb⟩ := layB w
  have HB := Lib.hid hb
  have SB0 := Lib.hid k0
  have SB1 := Lib.hid k1
  have PB := Lib.hid k2
  have hk1 := k1.lt
  clear k0 k1 k2 hb
  go_enter Tryd.func27, Tryd.ntmps27
  go_upto_region 12 with fail
  generalize ((w.alloc _).alloc _).alloc _ = x1 at *
  have CJ : ∀ W, Below x1.heap.size x1 W → W.cell? ⟨w.heap.size + 1 + 1, 0, none⟩ = some (.int .i64 0) ∧ W.cell? ⟨w.heap.size + 1 + 1, 1, none⟩ = some (.int .i64 0) ∧ Below x1.heap.size x1 W := fun W hb => ⟨(PB.out.below hb).cells.1, (PB.out.below hb).cells.2, hb⟩
  have C0 : ∀ W, (W.cell? ⟨w.heap.size + 1 + 1, 0, none⟩ = some (.int .i64 0) ∧ W.cell? ⟨w.heap.size + 1 + 1, 1, none⟩ = some (.int .i64 0) ∧ Below x1.heap.size x1 W) → Calls Tryd.prog 48 #[.agg #[.int .i64 0, .int .i64 0], .string ⟨#[97]⟩, .string ⟨#[97]⟩] W fun e w' => e = .returned (.agg #[.int .i64 0, .int .i64 0, .string ⟨#[97]⟩, .string ⟨#[97]⟩, .int .i64 1]) ∧ (w'.cell? ⟨w.heap.size + 1 + 1, 0, none⟩ = some (.int .i64 0) ∧ w'.cell? ⟨w.heap.size + 1 + 1, 1, none⟩ = some (.int .i64 0) ∧ Below x1.heap.size x1 w') := fun W h => (simple_any 0 0 ⟨#[97]⟩ ⟨#[97]⟩ W).mono fun e w' h' => ⟨h'.1, CJ w' (h.2.2.trans (h'.2.mono h.2.2.size))⟩
  have C1 : ∀ W, (W.cell? ⟨w.heap.size + 1 + 1, 0, none⟩ = some (.int .i64 0) ∧ W.cell? ⟨w.heap.size + 1 + 1, 1, none⟩ = some (.int .i64 0) ∧ Below x1.heap.size x1 W) → Calls Tryd.prog 48 #[.agg #[.int .i64 0, .int .i64 0], .string ⟨#[98]⟩, .string ⟨#[98]⟩] W fun e w' => e = .returned (.agg #[.int .i64 0, .int .i64 0, .string ⟨#[98]⟩, .string ⟨#[98]⟩, .int .i64 1]) ∧ (w'.cell? ⟨w.heap.size + 1 + 1, 0, none⟩ = some (.int .i64 0) ∧ w'.cell? ⟨w.heap.size + 1 + 1, 1, none⟩ = some (.int .i64 0) ∧ Below x1.heap.size x1 w') := fun W h => (simple_any 0 0 ⟨#[98]⟩ ⟨#[98]⟩ W).mono fun e w' h' => ⟨h'.1, CJ w' (h.2.2.trans (h'.2.mono h.2.2.size))⟩
  have C2 : ∀ W, (W.cell? ⟨w.heap.size + 1 + 1, 0, none⟩ = some (.int .i64 0) ∧ W.cell? ⟨w.heap.size + 1 + 1, 1, none⟩ = some (.int .i64 0) ∧ Below x1.heap.size x1 W) → Calls Tryd.prog 48 #[.agg #[.int .i64 0, .int .i64 0], .string ⟨#[97, 98]⟩, .string ⟨#[97, 98, 99, 49]⟩] W fun e w' => e = .returned (.agg #[.int .i64 0, .int .i64 0, .string ⟨#[97, 98]⟩, .string ⟨#[97, 98, 99, 49]⟩, .int .i64 2]) ∧ (w'.cell? ⟨w.heap.size + 1 + 1, 0, none⟩ = some (.int .i64 0) ∧ w'.cell? ⟨w.heap.size + 1 + 1, 1, none⟩ = some (.int .i64 0) ∧ Below x1.heap.size x1 w') := fun W h => (simple_any 0 0 ⟨#[97, 98]⟩ ⟨#[97, 98, 99, 49]⟩ W).mono fun e w' h' => ⟨h'.1, CJ w' (h.2.2.trans (h'.2.mono h.2.2.size))⟩
  have C3 : ∀ W, (W.cell? ⟨w.heap.size + 1 + 1, 0, none⟩ = some (.int .i64 0) ∧ W.cell? ⟨w.heap.size + 1 + 1, 1, none⟩ = some (.int .i64 0) ∧ Below x1.heap.size x1 W) → Calls Tryd.prog 48 #[.agg #[.int .i64 0, .int .i64 0], .string ⟨#[99]⟩, .string ⟨#[99]⟩] W fun e w' => e = .returned (.agg #[.int .i64 0, .int .i64 0, .string ⟨#[99]⟩, .string ⟨#[99]⟩, .int .i64 1]) ∧ (w'.cell? ⟨w.heap.size + 1 + 1, 0, none⟩ = some (.int .i64 0) ∧ w'.cell? ⟨w.heap.size + 1 + 1, 1, none⟩ = some (.int .i64 0) ∧ Below x1.heap.size x1 w') := fun W h => (simple_any 0 0 ⟨#[99]⟩ ⟨#[99]⟩ W).mono fun e w' h' => ⟨h'.1, CJ w' (h.2.2.trans (h'.2.mono h.2.2.size))⟩
  refine wp_region_qp (m := False) (pc := []) (C := fun W => W.cell? ⟨w.heap.size + 1 + 1, 0, none⟩ = some (.int .i64 0) ∧ W.cell? ⟨w.heap.size + 1 + 1, 1, none⟩ = some (.int .i64 0) ∧ Below x1.heap.size x1 W) 8 (by kernel_rfl) (by kernel_rfl) (CJ _ (Below.refl _ _).drew) (fun h => h.elim) ?_
  simp only [List.take_succ_cons, List.take_zero, List.drop_succ_cons, List.drop_zero]
  repeat (refine wpQP_step rfl ?_; intro K hK; first | (refine quiet_value ?_ (fun W h => ?_) ?_; rotate_left; (· obtain ⟨s0, s1, hb2⟩ := h; go_simp; rfl); go_simp; go_big_quiet_on) | (refine quiet_call _ _ _ (fun W => ?_) C0 ?_; (· go_simp; done); go_simp; go_big_quiet_on) | (refine quiet_call _ _ _ (fun W => ?_) C1 ?_; (· go_simp; done); go_simp; go_big_quiet_on) | (refine quiet_call _ _ _ (fun W => ?_) C2 ?_; (· go_simp; done); go_simp; go_big_quiet_on) | (refine quiet_call _ _ _ (fun W => ?_) C3 ?_; (· go_simp; done); go_simp; go_big_quiet_on))
  refine wpQP_nil ?_
  rintro - x2 ⟨-, -, hb⟩
  have HB2 := Lib.hid (HB.out.trans (hb.mono HB.out.size))
  have S0 := SB0.out.below hb
  have S1 := SB1.out.below hb
  have hle := hb.size
  clear hb C0 C1 C2 C3 CJ SB0 SB1 PB HB
  have hs0 := S0.lt
  have hs1 := S1.lt
  obtain ⟨q0, q1, q2⟩ := S1.cells
  have zf := S1.free
  have es : (x2.setCell ⟨w.heap.size + 1, 2, none⟩ (.slice (some ⟨x2.heap.size, 0, none⟩) 4 4)).heap.size = x2.heap.size := by simp
  have F3 : RlsOwn ((x2.setCell ⟨w.heap.size + 1, 2, none⟩ (.slice (some ⟨x2.heap.size, 0, none⟩) 4 4)).alloc (.cells #[.int .i64 0, .int .i64 0, .string ⟨#[97]⟩, .string ⟨#[97]⟩, .int .i64 1, .int .i64 0, .int .i64 0, .string ⟨#[98]⟩, .string ⟨#[98]⟩, .int .i64 1, .int .i64 0, .int .i64 0, .string ⟨#[97, 98]⟩, .string ⟨#[97, 98, 99, 49]⟩, .int .i64 2, .int .i64 0, .int .i64 0, .string ⟨#[99]⟩, .string ⟨#[99]⟩, .int .i64 1] 29)) (w.heap.size + 2) (.slice (some ⟨x2.heap.size, 0, none⟩) 4 4) (baseL 3) := by
    have := RlsOwn.fresh (x2.setCell ⟨w.heap.size + 1, 2, none⟩ (.slice (some ⟨x2.heap.size, 0, none⟩) 4 4)) (baseL 3) #[.int .i64 0, .int .i64 0, .string ⟨#[97]⟩, .string ⟨#[97]⟩, .int .i64 1, .int .i64 0, .int .i64 0, .string ⟨#[98]⟩, .string ⟨#[98]⟩, .int .i64 1, .int .i64 0, .int .i64 0, .string ⟨#[97, 98]⟩, .string ⟨#[97, 98, 99, 49]⟩, .int .i64 2, .int .i64 0, .int .i64 0, .string ⟨#[99]⟩, .string ⟨#[99]⟩, .int .i64 1] 4 (w.heap.size + 2) rfl rfl (by decide) (by rw [es]; omega)
    rwa [es] at this
  have F3 := Lib.hid F3
  have T0 := (S0.setCellAt (b' := w.heap.size + 1) (o := 2) (u := .slice (some ⟨x2.heap.size, 0, none⟩) 4 4) (by omega)).alloc (.cells #[.int .i64 0, .int .i64 0, .string ⟨#[97]⟩, .string ⟨#[97]⟩, .int .i64 1, .int .i64 0, .int .i64 0, .string ⟨#[98]⟩, .string ⟨#[98]⟩, .int .i64 1, .int .i64 0, .int .i64 0, .string ⟨#[97, 98]⟩, .string ⟨#[97, 98, 99, 49]⟩, .int .i64 2, .int .i64 0, .int .i64 0, .string ⟨#[99]⟩, .string ⟨#[99]⟩, .int .i64 1] 29)
  have T1 := Lib.hid ((S1.put2 (v := .slice (some ⟨x2.heap.size, 0, none⟩) 4 4)).alloc (.cells #[.int .i64 0, .int .i64 0, .string ⟨#[97]⟩, .string ⟨#[97]⟩, .int .i64 1, .int .i64 0, .int .i64 0, .string ⟨#[98]⟩, .string ⟨#[98]⟩, .int .i64 1, .int .i64 0, .int .i64 0, .string ⟨#[97, 98]⟩, .string ⟨#[97, 98, 99, 49]⟩, .int .i64 2, .int .i64 0, .int .i64 0, .string ⟨#[99]⟩, .string ⟨#[99]⟩, .int .i64 1] 29))
  have HB3 := Lib.hid ((HB2.out.setCell (p := ⟨w.heap.size + 1, 2, none⟩) (by simp) (.slice (some ⟨x2.heap.size, 0, none⟩) 4 4)).alloc (by rw [es]; exact HB2.out.size) (.cells #[.int .i64 0, .int .i64 0, .string ⟨#[97]⟩, .string ⟨#[97]⟩, .int .i64 1, .int .i64 0, .int .i64 0, .string ⟨#[98]⟩, .string ⟨#[98]⟩, .int .i64 1, .int .i64 0, .int .i64 0, .string ⟨#[97, 98]⟩, .string ⟨#[97, 98, 99, 49]⟩, .int .i64 2, .int .i64 0, .int .i64 0, .string ⟨#[99]⟩, .string ⟨#[99]⟩, .int .i64 1] 29))
  clear es S0 S1
  go_upto_region 15 with fail
  clear q0 q1 q2 zf
  generalize World.alloc _ _ = x3 at *
  generalize x2.heap.size = g2 at *
  obtain ⟨t0, t1, t2⟩ := T1.out.cells
  go_wp2_with (first | (refine wpList_store_sch rfl _ _ rfl _ _ _ _ T0 rfl _ _ _ _ _ rfl ?_; intro W' hB' hg' hs'))
  refine ret_sch rfl rfl rfl hB' ?_
  refine ⟨⟨_, rfl, (F3.out.keep fun g hg hl => hg'.block g hl (by simp; omega)).base (by omega)⟩, HB3.out.grown hg' HB3.out.size (by simp)⟩
set_option maxHeartbeats 1000000 in
set_option maxRecDepth 100000 in
theorem Base_4 (x : Int) (w : World) (hx : x.tmod 6 = 4) : Calls Tryd.prog 27 #[.int .u8 x] w (BasePost 4 w) := by
  obtain ⟨k0, k1, k2, hb⟩ := layB w
  have HB := Lib.hid hb
  have SB0 := Lib.hid k0
  have SB1 := Lib.hid k1
  have PB := Lib.hid k2
  have hk1 := k1.lt
  clear k0 k1 k2 hb
  go_enter Tryd.func27, Tryd.ntmps27
  go_upto_region 14 with fail
  generalize ((w.alloc _).alloc _).alloc _ = x1 at *
  obtain ⟨p0, p1⟩ := PB.out.cells
  go_wp2_with fail
  refine (simple_any 0 0 ⟨#[97]⟩ ⟨#[97]⟩ x1).mono ?_
  rintro e x2 ⟨rfl, hb⟩
  have HB2 := Lib.hid (HB.out.trans (hb.mono HB.out.size))
  have S0 := SB0.out.below hb
  have S1 := SB1.out.below hb
  have hle := hb.size
  clear hb SB0 SB1 PB HB p0 p1
  have hs0 := S0.lt
  have hs1 := S1.lt
  obtain ⟨q0, q1, q2⟩ := S1.cells
  have zf := S1.free
  have es : (x2.setCell ⟨w.heap.size + 1, 2, none⟩ (.slice (some ⟨x2.heap.size, 0, none⟩) 4 4)).heap.size = x2.heap.size := by simp
  have F3 : RlsOwn ((x2.setCell ⟨w.heap.size + 1, 2, none⟩ (.slice (some ⟨x2.heap.size, 0, none⟩) 4 4)).alloc (.cells #[.int .i64 0, .int .i64 0, .string ⟨#[97]⟩, .string ⟨#[97]⟩, .int .i64 1, .int .i64 0, .int .i64 0, .string ⟨#[98]⟩, .string ⟨#[98]⟩, .int .i64 0, .int .i64 0, .int .i64 0, .string ⟨#[99]⟩, .string ⟨#[98]⟩, .int .i64 7, .int .i64 0, .int .i64 0, .string ⟨#[98]⟩, .string ⟨#[99]⟩, .int .i64 9] 29)) (w.heap.size + 2) (.slice (some ⟨x2.heap.size, 0, none⟩) 4 4) (baseL 4) := by
    have := RlsOwn.fresh (x2.setCell ⟨w.heap.size + 1, 2, none⟩ (.slice (some ⟨x2.heap.size, 0, none⟩) 4 4)) (baseL 4) #[.int .i64 0, .int .i64 0, .string ⟨#[97]⟩, .string ⟨#[97]⟩, .int .i64 1, .int .i64 0, .int .i64 0, .string ⟨#[98]⟩, .string ⟨#[98]⟩, .int .i64 0, .int .i64 0, .int .i64 0, .string ⟨#[99]⟩, .string ⟨#[98]⟩, .int .i64 7, .int .i64 0, .int .i64 0, .string ⟨#[98]⟩, .string ⟨#[99]⟩, .int .i64 9] 4 (w.heap.size + 2) rfl rfl (by decide) (by rw [es]; omega)
    rwa [es] at this
  have F3 := Lib.hid F3
  have T0 := (S0.setCellAt (b' := w.heap.size + 1) (o := 2) (u := .slice (some ⟨x2.heap.size, 0, none⟩) 4 4) (by omega)).alloc (.cells #[.int .i64 0, .int .i64 0, .string ⟨#[97]⟩, .string ⟨#[97]⟩, .int .i64 1, .int .i64 0, .int .i64 0, .string ⟨#[98]⟩, .string ⟨#[98]⟩, .int .i64 0, .int .i64 0, .int .i64 0, .string ⟨#[99]⟩, .string ⟨#[98]⟩, .int .i64 7, .int .i64 0, .int .i64 0, .string ⟨#[98]⟩, .string ⟨#[99]⟩, .int .i64 9] 29)
  have T1 := Lib.hid ((S1.put2 (v := .slice (some ⟨x2.heap.size, 0, none⟩) 4 4)).alloc (.cells #[.int .i64 0, .int .i64 0, .string ⟨#[97]⟩, .string ⟨#[97]⟩, .int .i64 1, .int .i64 0, .int .i64 0, .string ⟨#[98]⟩, .string ⟨#[98]⟩, .int .i64 0, .int .i64 0, .int .i64 0, .string ⟨#[99]⟩, .string ⟨#[98]⟩, .int .i64 7, .int .i64 0, .int .i64 0, .string ⟨#[98]⟩, .string ⟨#[99]⟩, .int .i64 9] 29))
  have HB3 := Lib.hid ((HB2.out.setCell (p := ⟨w.heap.size + 1, 2, none⟩) (by simp) (.slice (some ⟨x2.heap.size, 0, none⟩) 4 4)).alloc (by rw [es]; exact HB2.out.size) (.cells #[.int .i64 0, .int .i64 0, .string ⟨#[97]⟩, .string ⟨#[97]⟩, .int .i64 1, .int .i64 0, .int .i64 0, .string ⟨#[98]⟩, .string ⟨#[98]⟩, .int .i64 0, .int .i64 0, .int .i64 0, .string ⟨#[99]⟩, .string ⟨#[98]⟩, .int .i64 7, .int .i64 0, .int .i64 0, .string ⟨#[98]⟩, .string ⟨#[99]⟩, .int .i64 9] 29))
  clear es S0 S1
  go_upto_region 15 with fail
  clear q0 q1 q2 zf
  generalize World.alloc _ _ = x3 at *
  generalize x2.heap.size = g2 at *
  obtain ⟨t0, t1, t2⟩ := T1.out.cells
  go_wp2_with (first | (refine wpList_store_sch rfl _ _ rfl _ _ _ _ T0 rfl _ _ _ _ _ rfl ?_; intro W' hB' hg' hs'))
  refine ret_sch rfl rfl rfl hB' ?_
  refine ⟨⟨_, rfl, (F3.out.keep fun g hg hl => hg'.block g hl (by simp; omega)).base (by omega)⟩, HB3.out.grown hg' HB3.out.size (by simp)⟩
set_option maxHeartbeats 1000000 in
set_option maxRecDepth 100000 in
theorem Base_5 (x : Int) (w : World) (hx : x.tmod 6 = 5) : Calls Tryd.prog 27 #[.int .u8 x] w (BasePost 5 w) := by
  obtain ⟨k0, k1, k2, hb⟩ := layB w
  have HB := Lib.hid hb
  have SB0 := Lib.hid k0
  have SB1 := Lib.hid k1
  have PB := Lib.hid k2
  have hk1 := k1.lt
  clear k0 k1 k2 hb
  go_enter Tryd.func27, Tryd.ntmps27
  go_upto_region 4 with fail
  generalize ((w.alloc _).alloc _).alloc _ = x1 at *
  have CJ : ∀ W, Below x1.heap.size x1 W → W.cell? ⟨w.heap.size + 1 + 1, 0, none⟩ = some (.int .i64 0) ∧ W.cell? ⟨w.heap.size + 1 + 1, 1, none⟩ = some (.int .i64 0) ∧ Below x1.heap.size x1 W := fun W hb => ⟨(PB.out.below hb).cells.1, (PB.out.below hb).cells.2, hb⟩
  have C0 : ∀ W, (W.cell? ⟨w.heap.size + 1 + 1, 0, none⟩ = some (.int .i64 0) ∧ W.cell? ⟨w.heap.size + 1 + 1, 1, none⟩ = some (.int .i64 0) ∧ Below x1.heap.size x1 W) → Calls Tryd.prog 48 #[.agg #[.int .i64 0, .int .i64 0], .string ⟨#[97]⟩, .string ⟨#[97]⟩] W fun e w' => e = .returned (.agg #[.int .i64 0, .int .i64 0, .string ⟨#[97]⟩, .string ⟨#[97]⟩, .int .i64 1]) ∧ (w'.cell? ⟨w.heap.size + 1 + 1, 0, none⟩ = some (.int .i64 0) ∧ w'.cell? ⟨w.heap.size + 1 + 1, 1, none⟩ = some (.int .i64 0) ∧ Below x1.heap.size x1 w') := fun W h => (simple_any 0 0 ⟨#[97]⟩ ⟨#[97]⟩ W).mono fun e w' h' => ⟨h'.1, CJ w' (h.2.2.trans (h'.2.mono h.2.2.size))⟩
  have C1 : ∀ W, (W.cell? ⟨w.heap.size + 1 + 1, 0, none⟩ = some (.int .i64 0) ∧ W.cell? ⟨w.heap.size + 1 + 1, 1, none⟩ = some (.int .i64 0) ∧ Below x1.heap.size x1 W) → Calls Tryd.prog 48 #[.agg #[.int .i64 0, .int .i64 0], .string ⟨#[97]⟩, .string ⟨#[65]⟩] W fun e w' => e = .returned (.agg #[.int .i64 0, .int .i64 0, .string ⟨#[97]⟩, .string ⟨#[65]⟩, .int .i64 1]) ∧ (w'.cell? ⟨w.heap.size + 1 + 1, 0, none⟩ = some (.int .i64 0) ∧ w'.cell? ⟨w.heap.size + 1 + 1, 1, none⟩ = some (.int .i64 0) ∧ Below x1.heap.size x1 w') := fun W h => (simple_any 0 0 ⟨#[97]⟩ ⟨#[65]⟩ W).mono fun e w' h' => ⟨h'.1, CJ w' (h.2.2.trans (h'.2.mono h.2.2.size))⟩
  have C2 : ∀ W, (W.cell? ⟨w.heap.size + 1 + 1, 0, none⟩ = some (.int .i64 0) ∧ W.cell? ⟨w.heap.size + 1 + 1, 1, none⟩ = some (.int .i64 0) ∧ Below x1.heap.size x1 W) → Calls Tryd.prog 48 #[.agg #[.int .i64 0, .int .i64 0], .string ⟨#[97, 97]⟩, .string ⟨#[66]⟩] W fun e w' => e = .returned (.agg #[.int .i64 0, .int .i64 0, .string ⟨#[97, 97]⟩, .string ⟨#[66]⟩, .int .i64 2]) ∧ (w'.cell? ⟨w.heap.size + 1 + 1, 0, none⟩ = some (.int .i64 0) ∧ w'.cell? ⟨w.heap.size + 1 + 1, 1, none⟩ = some (.int .i64 0) ∧ Below x1.heap.size x1 w') := fun W h => (simple_any 0 0 ⟨#[97, 97]⟩ ⟨#[66]⟩ W).mono fun e w' h' => ⟨h'.1, CJ w' (h.2.2.trans (h'.2.mono h.2.2.size))⟩
  have C3 : ∀ W, (W.cell? ⟨w.heap.size + 1 + 1, 0, none⟩ = some (.int .i64 0) ∧ W.cell? ⟨w.heap.size + 1 + 1, 1, none⟩ = some (.int .i64 0) ∧ Below x1.heap.size x1 W) → Calls Tryd.prog 48 #[.agg #[.int .i64 0, .int .i64 0], .string ⟨#[98]⟩, .string ⟨#[98]⟩] W fun e w' => e = .returned (.agg #[.int .i64 0, .int .i64 0, .string ⟨#[98]⟩, .string ⟨#[98]⟩, .int .i64 1]) ∧ (w'.cell? ⟨w.heap.size + 1 + 1, 0, none⟩ = some (.int .i64 0) ∧ w'.cell? ⟨w.heap.size + 1 + 1, 1, none⟩ = some (.int .i64 0) ∧ Below x1.heap.size x1 w') := fun W h => (simple_any 0 0 ⟨#[98]⟩ ⟨#[98]⟩ W).mono fun e w' h' => ⟨h'.1, CJ w' (h.2.2.trans (h'.2.mono h.2.2.size))⟩
  refine wp_region_qp (m := False) (pc := []) (C := fun W => W.cell? ⟨w.heap.size + 1 + 1, 0, none⟩ = some (.int .i64 0) ∧ W.cell? ⟨w.heap.size + 1 + 1, 1, none⟩ = some (.int .i64 0) ∧ Below x1.heap.size x1 W) 9 (by kernel_rfl) (by kernel_rfl) (CJ _ (Below.refl _ _).drew) (fun h => h.elim) ?_
  simp only [List.take_succ_cons, List.take_zero, List.drop_succ_cons, List.drop_zero]
  repeat (refine wpQP_step rfl ?_; intro K hK; first | (refine quiet_value ?_ (fun W h => ?_) ?_; rotate_left; (· obtain ⟨s0, s1, hb2⟩ := h; go_simp; rfl); go_simp; go_big_quiet_on) | (refine quiet_call _ _ _ (fun W => ?_) C0 ?_; (· go_simp; done); go_simp; go_big_quiet_on) | (refine quiet_call _ _ _ (fun W => ?_) C1 ?_; (· go_simp; done); go_simp; go_big_quiet_on) | (refine quiet_call _ _ _ (fun W => ?_) C2 ?_; (· go_simp; done); go_simp; go_big_quiet_on) | (refine quiet_call _ _ _ (fun W => ?_) C3 ?_; (· go_simp; done); go_simp; go_big_quiet_on))
  refine wpQP_nil ?_
  rintro - x2 ⟨-, -, hb⟩
  have HB2 := Lib.hid (HB.out.trans (hb.mono HB.out.size))
  have S0 := SB0.out.below hb
  have S1 := SB1.out.below hb
  have hle := hb.size
  clear hb C0 C1 C2 C3 CJ SB0 SB1 PB HB
  have hs0 := S0.lt
  have hs1 := S1.lt
  obtain ⟨q0, q1, q2⟩ := S1.cells
  have zf := S1.free
  have es : (x2.setCell ⟨w.heap.size + 1, 2, none⟩ (.slice (some ⟨x2.heap.size, 0, none⟩) 5 5)).heap.size = x2.heap.size := by simp
  have F3 : RlsOwn ((x2.setCell ⟨w.heap.size + 1, 2, none⟩ (.slice (some ⟨x2.heap.size, 0, none⟩) 5 5)).alloc (.cells #[.int .i64 0, .int .i64 0, .string ⟨#[97]⟩, .string ⟨#[97]⟩, .int .i64 1, .int .i64 0, .int .i64 0, .string ⟨#[97]⟩, .string ⟨#[65]⟩, .int .i64 1, .int .i64 0, .int .i64 0, .string ⟨#[97, 97]⟩, .string ⟨#[66]⟩, .int .i64 2, .int .i64 0, .int .i64 0, .string ⟨#[98]⟩, .string ⟨#[98]⟩, .int .i64 1, .int .i64 0, .int .i64 0, .string ⟨#[98]⟩, .string ⟨#[]⟩, .int .i64 20] 29)) (w.heap.size + 2) (.slice (some ⟨x2.heap.size, 0, none⟩) 5 5) (baseL 5) := by
    have := RlsOwn.fresh (x2.setCell ⟨w.heap.size + 1, 2, none⟩ (.slice (some ⟨x2.heap.size, 0, none⟩) 5 5)) (baseL 5) #[.int .i64 0, .int .i64 0, .string ⟨#[97]⟩, .string ⟨#[97]⟩, .int .i64 1, .int .i64 0, .int .i64 0, .string ⟨#[97]⟩, .string ⟨#[65]⟩, .int .i64 1, .int .i64 0, .int .i64 0, .string ⟨#[97, 97]⟩, .string ⟨#[66]⟩, .int .i64 2, .int .i64 0, .int .i64 0, .string ⟨#[98]⟩, .string ⟨#[98]⟩, .int .i64 1, .int .i64 0, .int .i64 0, .string ⟨#[98]⟩, .string ⟨#[]⟩, .int .i64 20] 5 (w.heap.size + 2) rfl rfl (by decide) (by rw [es]; omega)
    rwa [es] at this
  have F3 := Lib.hid F3
  have T0 := (S0.setCellAt (b' := w.heap.size + 1) (o := 2) (u := .slice (some ⟨x2.heap.size, 0, none⟩) 5 5) (by omega)).alloc (.cells #[.int .i64 0, .int .i64 0, .string ⟨#[97]⟩, .string ⟨#[97]⟩, .int .i64 1, .int .i64 0, .int .i64 0, .string ⟨#[97]⟩, .string ⟨#[65]⟩, .int .i64 1, .int .i64 0, .int .i64 0, .string ⟨#[97, 97]⟩, .string ⟨#[66]⟩, .int .i64 2, .int .i64 0, .int .i64 0, .string ⟨#[98]⟩, .string ⟨#[98]⟩, .int .i64 1, .int .i64 0, .int .i64 0, .string ⟨#[98]⟩, .string ⟨#[]⟩, .int .i64 20] 29)
  have T1 := Lib.hid ((S1.put2 (v := .slice (some ⟨x2.heap.size, 0, none⟩) 5 5)).alloc (.cells #[.int .i64 0, .int .i64 0, .string ⟨#[97]⟩, .string ⟨#[97]⟩, .int .i64 1, .int .i64 0, .int .i64 0, .string ⟨#[97]⟩, .string ⟨#[65]⟩, .int .i64 1, .int .i64 0, .int .i64 0, .string ⟨#[97, 97]⟩, .string ⟨#[66]⟩, .int .i64 2, .int .i64 0, .int .i64 0, .string ⟨#[98]⟩, .string ⟨#[98]⟩, .int .i64 1, .int .i64 0, .int .i64 0, .string ⟨#[98]⟩, .string ⟨#[]⟩, .int .i64 20] 29))
  have HB3 := Lib.hid ((HB2.out.setCell (p := ⟨w.heap.size + 1, 2, none⟩) (by simp) (.slice (some ⟨x2.heap.size, 0, none⟩) 5 5)).alloc (by rw [es]; exact HB2.out.size) (.cells #[.int .i64 0, .int .i64 0, .string ⟨#[97]⟩, .string ⟨#[97]⟩, .int .i64 1, .int .i64 0, .int .i64 0, .string ⟨#[97]⟩, .string ⟨#[65]⟩, .int .i64 1, .int .i64 0, .int .i64 0, .string ⟨#[97, 97]⟩, .string ⟨#[66]⟩, .int .i64 2, .int .i64 0, .int .i64 0, .string ⟨#[98]⟩, .string ⟨#[98]⟩, .int .i64 1, .int .i64 0, .int .i64 0, .string ⟨#[98]⟩, .string ⟨#[]⟩, .int .i64 20] 29))
  clear es S0 S1
  go_upto_region 15 with fail
  clear q0 q1 q2 zf
  generalize World.alloc _ _ = x3 at *
  generalize x2.heap.size = g2 at *
  obtain ⟨t0, t1, t2⟩ := T1.out.cells
  go_wp2_with (first | (refine wpList_store_sch rfl _ _ rfl _ _ _ _ T0 rfl _ _ _ _ _ rfl ?_; intro W' hB' hg' hs'))
  refine ret_sch rfl rfl rfl hB' ?_
  refine ⟨⟨_, rfl, (F3.out.keep fun g hg hl => hg'.block g hl (by simp; omega)).base (by omega)⟩, HB3.out.grown hg' HB3.out.size (by simp)⟩
theorem Base_any (x : Int) (w : World) (hx : 0 ≤ x) : Calls Tryd.prog 27 #[.int .u8 x] w fun e w' => ∃ k, k < 6 ∧ BasePost k w e w' := by
  have h1 := Int.tmod_nonneg 6 hx
  have h2 := Int.tmod_lt_of_pos x (show (0 : Int) < 6 by decide)
  rcases (show x.tmod 6 = 0 ∨ x.tmod 6 = 1 ∨ x.tmod 6 = 2 ∨ x.tmod 6 = 3 ∨ x.tmod 6 = 4 ∨ x.tmod 6 = 5 by omega) with h | h | h | h | h | h
  · exact (Base_0 x w h).mono fun e w' h => ⟨0, by decide, h⟩
  · exact (Base_1 x w h).mono fun e w' h => ⟨1, by decide, h⟩
  · exact (Base_2 x w h).mono fun e w' h => ⟨2, by decide, h⟩
  · exact (Base_3 x w h).mono fun e w' h => ⟨3, by decide, h⟩
  · exact (Base_4 x w h).mono fun e w' h => ⟨4, by decide, h⟩
  · exact (Base_5 x w h).mono fun e w' h => ⟨5, by decide, h⟩
end Go.Proofs.YtendieoandclkaaDoor

namespace Go.Proofs.YtendieoandclkaaDoor
open Go.RowKit
open Pl

def BytesAt (W : World) (B0 : Nat) (v : Value) (n : Nat) : Prop := ∃ a c, v = .slice a n c ∧ (0 < n → ∃ b off, a = some ⟨b, off, none⟩ ∧ b < B0 ∧ ∀ i, i < n → ∃ x : Int, W.cell? ⟨b, off + i, none⟩ = some (.int .u8 x) ∧ 0 ≤ x ∧ x ≤ 255)
theorem RlBlock.setCell {W : World} {b b' o : Nat} {r : Rl} {u : Value} (h : RlBlock W b r) (hne : b' ≠ b) : RlBlock (W.setCell ⟨b', o, none⟩ u) b r := by
  unfold RlBlock at h ⊢
  simp only [World.setCell, Array.getElem?_modify, if_neg hne]; exact h
theorem abc (r : Nat) (h : r < 3) : (⟨#[97, 98, 99]⟩ : ByteArray).extract r (r + 1) = B [UInt8.ofNat (97 + r)] := by
  rcases (show r = 0 ∨ r = 1 ∨ r = 2 by omega) with rfl | rfl | rfl <;> decide
theorem B_app (s t : List UInt8) : B s ++ B t = B (s ++ t) := by
  rw [← B_toList (B s ++ B t)]; simp [B]

def RrBlock (W : World) (b : Nat) (si so : Value) (f t c : Int) : Prop := W.heap[b]? = some (.cells #[si, so, .int .u8 f, .int .u8 t, .int .u8 c] 68 (0, 0))
theorem RrBlock.below {W W' : World} {b : Nat} {si so : Value} {f t c : Int} (h : RrBlock W b si so f t c) (hb : Below W.heap.size W W') : RrBlock W' b si so f t c := by
  have hlt := lt_of_heap h
  unfold RrBlock at h ⊢; rw [hb.block b hlt]; exact h
theorem RrBlock.cells {W : World} {b : Nat} {si so : Value} {f t c : Int} (h : RrBlock W b si so f t c) : W.cell? ⟨b, 0, none⟩ = some si ∧ W.cell? ⟨b, 1, none⟩ = some so ∧ W.cell? ⟨b, 2, none⟩ = some (.int .u8 f) ∧ W.cell? ⟨b, 3, none⟩ = some (.int .u8 t) ∧ W.cell? ⟨b, 4, none⟩ = some (.int .u8 c) := by
  unfold RrBlock at h
  exact ⟨by simp [World.cell?, h], by simp [World.cell?, h], by simp [World.cell?, h], by simp [World.cell?, h], by simp [World.cell?, h]⟩
theorem RrBlock.setCell {W : World} {b b' o : Nat} {si so u : Value} {f t c : Int} (h : RrBlock W b si so f t c) (hne : b' ≠ b) : RrBlock (W.setCell ⟨b', o, none⟩ u) b si so f t c := by
  unfold RrBlock at h ⊢
  simp only [World.setCell, Array.getElem?_modify, if_neg hne]; exact h
theorem RlBlock.put2 {W : World} {b : Nat} {r : Rl} (h : RlBlock W b r) (l : List UInt8) : RlBlock (W.setCell ⟨b, 2, none⟩ (.string (B l))) b ⟨r.src, r.dst, l, r.out, r.cost⟩ := by
  unfold RlBlock at h ⊢
  simp [World.setCell, Array.getElem?_modify, h]
theorem RlBlock.put3 {W : World} {b : Nat} {r : Rl} (h : RlBlock W b r) (l : List UInt8) : RlBlock (W.setCell ⟨b, 3, none⟩ (.string (B l))) b ⟨r.src, r.dst, r.inp, l, r.cost⟩ := by
  unfold RlBlock at h ⊢
  simp [World.setCell, Array.getElem?_modify, h]
theorem RlBlock.free {W : World} {b : Nat} {r : Rl} (h : RlBlock W b r) (o : Nat) : W.frozen? ⟨b, o, none⟩ = false := by
  unfold RlBlock at h; simp [World.frozen?, h]
def abcAB1 (r : Nat) : List UInt8 := [[97, 98, 99, 65, 66, 49].getD r 97]
theorem abcAB (r : Nat) (h : r < 6) : (⟨#[97, 98, 99, 65, 66, 49]⟩ : ByteArray).extract r (r + 1) = B (abcAB1 r) := by
  rcases (show r = 0 ∨ r = 1 ∨ r = 2 ∨ r = 3 ∨ r = 4 ∨ r = 5 by omega) with rfl | rfl | rfl | rfl | rfl | rfl <;> decide
/-- A slice of the bytes xs, in memory below block number B0. -/
def BytesIs (W : World) (B0 : Nat) (v : Value) (xs : List Int) : Prop := ∃ a c, v = .slice a xs.length c ∧ (0 < xs.length → ∃ b off, a = some ⟨b, off, none⟩ ∧ b < B0 ∧ ∀ i (h : i < xs.length), W.cell? ⟨b, off + i, none⟩ = some (.int .u8 xs[i]) ∧ 0 ≤ xs[i] ∧ xs[i] ≤ 255)
theorem BytesIs.on {W W' : World} {v : Value} {xs : List Int} (h : BytesIs W W.heap.size v xs) (hb : Below W.heap.size W W') : BytesIs W' W'.heap.size v xs := by
  obtain ⟨a, c, rfl, h⟩ := h
  refine ⟨a, c, rfl, fun hp => ?_⟩
  obtain ⟨b, off, rfl, hlt, hc⟩ := h hp
  exact ⟨b, off, rfl, Nat.lt_of_lt_of_le hlt hb.size, fun i hi => ⟨(hb.cell (p := ⟨b, off + i, none⟩) hlt).trans (hc i hi).1, (hc i hi).2⟩⟩
theorem BytesIs.of {W : World} {B0 n : Nat} {v : Value} (h : BytesAt W B0 v n) : ∃ xs : List Int, xs.length = n ∧ BytesIs W B0 v xs := by
  obtain ⟨a, c, rfl, h⟩ := h
  by_cases hn : 0 < n
  · obtain ⟨b, off, rfl, hlt, hc⟩ := h hn
    have hl : (List.ofFn fun i : Fin n => (hc i.1 i.2).choose).length = n := List.length_ofFn
    refine ⟨List.ofFn fun i : Fin n => (hc i.1 i.2).choose, hl, some ⟨b, off, none⟩, c, by rw [hl], fun _ => ⟨b, off, rfl, hlt, fun i hi => ?_⟩⟩
    rw [List.getElem_ofFn]
    exact (hc i (hl ▸ hi)).choose_spec
  · obtain rfl : n = 0 := by omega
    exact ⟨[], rfl, a, c, rfl, fun h => absurd h (by simp)⟩
def inC (x : Int) : List UInt8 := [UInt8.ofNat (97 + (x.tmod 3).toNat)]
def outC (x : Int) : List UInt8 := abcAB1 (x.tmod 6).toNat
def inW (xs : List Int) : List UInt8 := (xs.take 2).flatMap inC
def outW (xs : List Int) : List UInt8 := (xs.take 2).flatMap outC
theorem flat_len (f : Int → List UInt8) (hf : ∀ x, (f x).length = 1) (l : List Int) : (l.flatMap f).length = l.length := by
  induction l with
  | nil => rfl
  | cons x l ih => rw [List.flatMap_cons, List.length_append, hf, ih, List.length_cons]; omega
theorem flat_step (f : Int → List UInt8) (xs : List Int) (k : Nat) (h : k < xs.length) : (xs.take (k + 1)).flatMap f = (xs.take k).flatMap f ++ f xs[k] := by
  rw [List.take_succ_eq_append_getElem h, List.flatMap_append]; simp
theorem flat_end {f : Int → List UInt8} {xs : List Int} {l : List UInt8} (h : l = (xs.take l.length).flatMap f) (h1 : l.length ≤ 2) (h2 : l.length ≤ xs.length) (h3 : ¬ l.length < xs.length ∨ ¬ l.length < 2) : l = (xs.take 2).flatMap f := by
  rw [h]
  rcases (show l.length = 2 ∨ xs.length = l.length by omega) with e | e
  · rw [e]
  · rw [List.take_of_length_le (by omega), List.take_of_length_le (by omega)]
theorem inW_len (xs : List Int) : (inW xs).length ≤ 2 := by unfold inW; rw [flat_len _ (fun _ => rfl), List.length_take]; omega
theorem outW_len (xs : List Int) : (outW xs).length ≤ 2 := by unfold outW; rw [flat_len _ (fun _ => rfl), List.length_take]; omega
theorem layM (w : World) (si so : Value) (f t c : Int) : RrBlock ((w.alloc (.cells #[si, so, .int .u8 f, .int .u8 t, .int .u8 c] 68)).alloc (.cells #[.int .i64 0, .int .i64 0, .string ⟨#[]⟩, .string ⟨#[]⟩, .int .i64 0] 29)) w.heap.size si so f t c ∧ RlBlock ((w.alloc (.cells #[si, so, .int .u8 f, .int .u8 t, .int .u8 c] 68)).alloc (.cells #[.int .i64 0, .int .i64 0, .string ⟨#[]⟩, .string ⟨#[]⟩, .int .i64 0] 29)) (w.heap.size + 1) ⟨0, 0, [], [], 0⟩ ∧ Below w.heap.size w ((w.alloc (.cells #[si, so, .int .u8 f, .int .u8 t, .int .u8 c] 68)).alloc (.cells #[.int .i64 0, .int .i64 0, .string ⟨#[]⟩, .string ⟨#[]⟩, .int .i64 0] 29)) ∧ ((w.alloc (.cells #[si, so, .int .u8 f, .int .u8 t, .int .u8 c] 68)).alloc (.cells #[.int .i64 0, .int .i64 0, .string ⟨#[]⟩, .string ⟨#[]⟩, .int .i64 0] 29)).heap.size = w.heap.size + 2 := by
  refine ⟨RrBlock.below (show RrBlock (w.alloc (.cells #[si, so, .int .u8 f, .int .u8 t, .int .u8 c] 68)) w.heap.size si so f t c from heap_alloc_new w _) ((Below.refl _ _).alloc (Nat.le_refl _) _), ?_, ((Below.refl _ _).alloc (Nat.le_refl _) _).alloc (by simp) _, by simp⟩
  have := rl_new (w.alloc (.cells #[si, so, .int .u8 f, .int .u8 t, .int .u8 c] 68)) ⟨0, 0, [], [], 0⟩ _ rfl
  rw [World.size_alloc] at this
  exact this
set_option maxHeartbeats 2000000 in
set_option maxRecDepth 100000 in
theorem Made1_any (la oa : Option Addr) (lc oc : Nat) (f t c m : Int) (hm : 1 ≤ m ∧ m ≤ 1000) (xs ys : List Int) (r0 r1 r4 : Int) (hr0 : r0 = f % m) (hr1 : r1 = t % m) (hr4 : r4 = c * 2) (hf : 0 ≤ f ∧ f ≤ 255) (ht : 0 ≤ t ∧ t ≤ 255) (hcc : 0 ≤ c ∧ c ≤ 255) (w : World) (hx : BytesIs w w.heap.size (.slice la xs.length lc) xs) (hy : BytesIs w w.heap.size (.slice oa ys.length oc) ys) (hl : xs.length ≤ maxLen) (ho : ys.length ≤ maxLen) :
    Calls Tryd.prog 28 #[.agg #[.slice la xs.length lc, .slice oa ys.length oc, .int .u8 f, .int .u8 t, .int .u8 c], .int .i64 m] w fun e w' => e = .returned (rlV ⟨r0, r1, inW xs, outW ys, r4⟩) ∧ Below w.heap.size w w' := by
  obtain ⟨k0, k1, hb, hsz⟩ := layM w (.slice la xs.length lc) (.slice oa ys.length oc) f t c
  have HX := Lib.hid hx
  have HY := Lib.hid hy
  have HB := Lib.hid hb
  have RR := Lib.hid k0
  have RB := Lib.hid k1
  have HSZ := Lib.hid hsz
  have HR0 := Lib.hid hr0
  have HR1 := Lib.hid hr1
  have HR4 := Lib.hid hr4
  clear hr0 hr1 hr4
  obtain ⟨z0, z1, z2, z3, z4⟩ := k0.cells
  have hm0 : ¬ m = 0 := by omega
  unfold maxLen at hl ho
  have wf : IntKind.i64.wrap f = f := IntWalk.i64_in _ (by omega)
  have wt : IntKind.i64.wrap t = t := IntWalk.i64_in _ (by omega)
  have wcc : IntKind.i64.wrap c = c := IntWalk.i64_in _ (by omega)
  clear hx hy hb k0 k1 hsz
  go_enter Tryd.func28, Tryd.ntmps28
  go_upto_region 1 with fail
  generalize (w.alloc _).alloc _ = x1 at *
  have a2 : ∀ ob, (x1.alloc ob).cell? ⟨w.heap.size, 2, none⟩ = some (.int .u8 f) := fun ob => (RR.out.below ((Below.refl _ _).alloc (Nat.le_refl _) ob)).cells.2.2.1
  have a3 : ∀ ob, (x1.alloc ob).cell? ⟨w.heap.size, 3, none⟩ = some (.int .u8 t) := fun ob => (RR.out.below ((Below.refl _ _).alloc (Nat.le_refl _) ob)).cells.2.2.2.1
  have a4 : ∀ ob, (x1.alloc ob).cell? ⟨w.heap.size, 4, none⟩ = some (.int .u8 c) := fun ob => (RR.out.below ((Below.refl _ _).alloc (Nat.le_refl _) ob)).cells.2.2.2.2
  go_region
  clear a2 a3 a4 z2 z3 z4 wf wt wcc hm0
  have kr := rl_new x1 ⟨f % m, t % m, [], [], c * 2⟩ #[.int .i64 (f % m), .int .i64 (t % m), .string ⟨#[]⟩, .string ⟨#[]⟩, .int .i64 (c * 2)] rfl
  have RB2 := Lib.hid (kr.below (Below.refl _ _).drew)
  have RR2 := Lib.hid ((RR.out.below ((Below.refl _ _).alloc (Nat.le_refl _) (.cells #[.int .i64 (f % m), .int .i64 (t % m), .string ⟨#[]⟩, .string ⟨#[]⟩, .int .i64 (c * 2)] 29))).below (Below.refl _ _).drew)
  have RQ2 := Lib.hid ((RB.out.below ((Below.refl _ _).alloc (Nat.le_refl _) (.cells #[.int .i64 (f % m), .int .i64 (t % m), .string ⟨#[]⟩, .string ⟨#[]⟩, .int .i64 (c * 2)] 29))).below (Below.refl _ _).drew)
  have HB2 := Lib.hid ((HB.out.alloc HB.out.size (.cells #[.int .i64 (f % m), .int .i64 (t % m), .string ⟨#[]⟩, .string ⟨#[]⟩, .int .i64 (c * 2)] 29)).drew)
  have hsz := HSZ.out
  clear kr RB RR HB HSZ z0 z1
  generalize (x1.alloc _).drew = x2 at *
  generalize x1.heap.size = g at *
  subst hsz
  rw [← HR0.out, ← HR1.out, ← HR4.out] at *
  clear HR0 HR1 HR4
  go_wp2_with fail
  go_loopw [6] (fun i wr => ∃ l : List UInt8, i = .int .i64 (l.length : Nat) ∧ l.length ≤ 2 ∧ l.length ≤ xs.length ∧ l = (xs.take l.length).flatMap inC ∧ RlBlock wr (w.heap.size + 2) ⟨r0, r1, l, [], r4⟩ ∧ RrBlock wr w.heap.size (.slice la xs.length lc) (.slice oa ys.length oc) f t c ∧ RlBlock wr (w.heap.size + 1) ⟨0, 0, [], [], 0⟩ ∧ Below w.heap.size w wr) (fun i _ => 2 - (intOf i).toNat)
  case atStart => exact ⟨[], rfl, by simp, Nat.zero_le _, rfl, RB2.out, RR2.out, RQ2.out, HB2.out⟩
  case round =>
    obtain ⟨l, rfl, h1, h2, hle, kb, kr, kq, hb⟩ := hrel
    have HLE := Lib.hid hle
    clear hle
    clear RB2 RR2 RQ2 HB2
    obtain ⟨z0, z1, z2, z3, z4⟩ := kr.cells
    clear z2 z3 z4
    have HB := Lib.hid hb
    have RB := Lib.hid kb
    have RR := Lib.hid kr
    have RQ := Lib.hid kq
    obtain ⟨q0, q1, q2, q3, q4⟩ := kb.cells
    dsimp only at q2 q3
    clear q0 q1 q3 q4 kr kq
    have fz := kb.free 2
    by_cases hp : l.length < xs.length
    · have hp' : (l.length : Int) < (xs.length : Int) := by omega
      by_cases hq : l.length < 2
      · have hq' : (l.length : Int) < 2 := by omega
        obtain ⟨a0, c0, hv, hc⟩ := HX.out.on hb
        obtain ⟨rfl, -⟩ : la = a0 ∧ lc = c0 := by simpa using hv
        obtain ⟨b, off, rfl, hbb, hc⟩ := hc (by omega)
        obtain ⟨hcell, hx0, hx1⟩ := hc l.length hp
        obtain ⟨x, hxx⟩ : ∃ x, x = xs[l.length] := ⟨_, rfl⟩
        rw [← hxx] at hcell hx0 hx1
        obtain ⟨r, hr, hr3⟩ : ∃ r : Nat, x.tmod 3 = (r : Int) ∧ r < 3 := ⟨(x.tmod 3).toNat, by rw [Int.tmod_eq_emod_of_nonneg hx0]; omega, by rw [Int.tmod_eq_emod_of_nonneg hx0]; omega⟩
        have hr0 : (0 : Int) ≤ (r : Int) := by omega
        have hr4 : (r : Int) + 1 ≤ 3 := by omega
        have hr5 : (r : Int) ≤ (r : Int) + 1 := by omega
        have hj0 : (0 : Int) ≤ (l.length : Int) := by omega
        have hwr : IntKind.u8.wrap ((r : Int) + 1) = (r : Int) + 1 := IntWalk.u8_in _ (by omega)
        have hn1 : ((r : Int) + 1).toNat = r + 1 := by omega
        have HA := Lib.hid (abc r hr3)
        have hcat : ¬ 9223372036854775807 < (B l).size + ((⟨#[97, 98, 99]⟩ : ByteArray).extract r (r + 1)).size := by rw [abc r hr3, size_B, size_B]; simp; omega
        have HST := Lib.hid (show l ++ [UInt8.ofNat (97 + r)] = (xs.take (l.length + 1)).flatMap inC by
          rw [flat_step _ _ _ hp, ← HLE.out, ← hxx]; unfold inC; rw [hr]; rfl)
        clear hxx
        have HC := Lib.hid (B_app l [UInt8.ofNat (97 + r)])
        have HL := Lib.hid (show (l ++ [UInt8.ofNat (97 + r)]).length = l.length + 1 by simp)
        clear hc hv hb kb
        go_upto_region 5 with fail
        go_still_tail 16, (by kernel_rfl)
        change wpList _ _ _ _ _ wr.drew
        have e0 : wr.drew.cell? ⟨w.heap.size + 2, 2, none⟩ = some (.string (B l)) := q2
        have fe : wr.drew.frozen? ⟨w.heap.size + 2, 2, none⟩ = false := fz
        have RB3 := Lib.hid ((RB.out.below (Below.refl _ _).drew).put2 (l ++ [UInt8.ofNat (97 + r)]))
        have RR3 := Lib.hid ((RR.out.below (Below.refl _ _).drew).setCell (b' := w.heap.size + 2) (o := 2) (u := .string (B (l ++ [UInt8.ofNat (97 + r)]))) (by omega))
        have RQ3 := Lib.hid ((RQ.out.below (Below.refl _ _).drew).setCell (b' := w.heap.size + 2) (o := 2) (u := .string (B (l ++ [UInt8.ofNat (97 + r)]))) (by omega))
        have HB3 := Lib.hid (HB.out.drew.setCell (p := ⟨w.heap.size + 2, 2, none⟩) (by simp) (.string (B (l ++ [UInt8.ofNat (97 + r)]))))
        clear q2 fz z0 z1 hcell
        generalize wr.drew = x3 at *
        go_wp2_with fail
        rw [HA.out, HC.out]
        go_roundw
        case rel => exact ⟨l ++ [UInt8.ofNat (97 + r)], by rw [HL.out]; go_num, by rw [HL.out]; omega, by rw [HL.out]; omega, by rw [HL.out]; exact HST.out, RB3.out, RR3.out, RQ3.out, HB3.out⟩
        case measure => simp [intOf]; omega
      · have hq' : ¬ (l.length : Int) < 2 := by omega
        clear fz q2 hb kb HX
        go_upto_region 7 with fail
        generalize wr = x3 at *
        go_wp2_with fail
        go_loopw [7] (fun i wr => ∃ o : List UInt8, i = .int .i64 (o.length : Nat) ∧ o.length ≤ 2 ∧ o.length ≤ ys.length ∧ o = (ys.take o.length).flatMap outC ∧ RlBlock wr (w.heap.size + 2) ⟨r0, r1, l, o, r4⟩ ∧ RrBlock wr w.heap.size (.slice la xs.length lc) (.slice oa ys.length oc) f t c ∧ RlBlock wr (w.heap.size + 1) ⟨0, 0, [], [], 0⟩ ∧ Below w.heap.size w wr) (fun i _ => 2 - (intOf i).toNat)
        case atStart => exact ⟨[], rfl, by simp, Nat.zero_le _, rfl, RB.out, RR.out, RQ.out, HB.out⟩
        case round =>
          obtain ⟨o, rfl, h3, h4, hoe, kb, kr, kq, hb⟩ := hrel
          have HOE := Lib.hid hoe
          clear hoe
          clear RB RR RQ HB z0 z1
          obtain ⟨z0, z1, z2, z3, z4⟩ := kr.cells
          clear z2 z3 z4
          have HB := Lib.hid hb
          have RB := Lib.hid kb
          have RR := Lib.hid kr
          have RQ := Lib.hid kq
          obtain ⟨q0, q1, q2, q3, q4⟩ := kb.cells
          dsimp only at q0 q1 q2 q3 q4
          clear kr kq
          have fz := kb.free 3
          by_cases hp2 : o.length < ys.length
          · have hp2' : (o.length : Int) < (ys.length : Int) := by omega
            by_cases hq2 : o.length < 2
            · have hq2' : (o.length : Int) < 2 := by omega
              clear q0 q1 q2 q4
              obtain ⟨a0, c0, hv, hc⟩ := HY.out.on hb
              obtain ⟨rfl, -⟩ : oa = a0 ∧ oc = c0 := by simpa using hv
              obtain ⟨b, off, rfl, hbb, hc⟩ := hc (by omega)
              obtain ⟨hcell, hx0, hx1⟩ := hc o.length hp2
              obtain ⟨x, hxx⟩ : ∃ x, x = ys[o.length] := ⟨_, rfl⟩
              rw [← hxx] at hcell hx0 hx1
              obtain ⟨r, hr, hr3⟩ : ∃ r : Nat, x.tmod 6 = (r : Int) ∧ r < 6 := ⟨(x.tmod 6).toNat, by rw [Int.tmod_eq_emod_of_nonneg hx0]; omega, by rw [Int.tmod_eq_emod_of_nonneg hx0]; omega⟩
              have hr0 : (0 : Int) ≤ (r : Int) := by omega
              have hr4 : (r : Int) + 1 ≤ 6 := by omega
              have hr5 : (r : Int) ≤ (r : Int) + 1 := by omega
              have hj0 : (0 : Int) ≤ (o.length : Int) := by omega
              have hwr : IntKind.u8.wrap ((r : Int) + 1) = (r : Int) + 1 := IntWalk.u8_in _ (by omega)
              have hn1 : ((r : Int) + 1).toNat = r + 1 := by omega
              have HA := Lib.hid (abcAB r hr3)
              have hcat : ¬ 9223372036854775807 < (B o).size + ((⟨#[97, 98, 99, 65, 66, 49]⟩ : ByteArray).extract r (r + 1)).size := by rw [abcAB r hr3, size_B, size_B]; simp [abcAB1]; omega
              have HST := Lib.hid (show o ++ abcAB1 r = (ys.take (o.length + 1)).flatMap outC by
                rw [flat_step _ _ _ hp2, ← HOE.out, ← hxx]; unfold outC; rw [hr]; rfl)
              clear hxx
              have HC := Lib.hid (B_app o (abcAB1 r))
              have HL := Lib.hid (show (o ++ abcAB1 r).length = o.length + 1 by simp [abcAB1])
              clear hc hv hb kb
              go_upto_region 9 with fail
              go_still_tail 16, (by kernel_rfl)
              change wpList _ _ _ _ _ wr.drew
              have e0 : wr.drew.cell? ⟨w.heap.size + 2, 3, none⟩ = some (.string (B o)) := q3
              have fe : wr.drew.frozen? ⟨w.heap.size + 2, 3, none⟩ = false := fz
              have RB3 := Lib.hid ((RB.out.below (Below.refl _ _).drew).put3 (o ++ abcAB1 r))
              have RR3 := Lib.hid ((RR.out.below (Below.refl _ _).drew).setCell (b' := w.heap.size + 2) (o := 3) (u := .string (B (o ++ abcAB1 r))) (by omega))
              have RQ3 := Lib.hid ((RQ.out.below (Below.refl _ _).drew).setCell (b' := w.heap.size + 2) (o := 3) (u := .string (B (o ++ abcAB1 r))) (by omega))
              have HB3 := Lib.hid (HB.out.drew.setCell (p := ⟨w.heap.size + 2, 3, none⟩) (by simp) (.string (B (o ++ abcAB1 r))))
              clear q3 fz z0 z1 hcell
              generalize wr.drew = x4 at *
              go_wp2_with fail
              rw [HA.out, HC.out]
              go_roundw
              case rel => exact ⟨o ++ abcAB1 r, by rw [HL.out]; go_num, by rw [HL.out]; omega, by rw [HL.out]; omega, by rw [HL.out]; exact HST.out, RB3.out, RR3.out, RQ3.out, HB3.out⟩
              case measure => simp [intOf]; omega
            · have hq2' : ¬ (o.length : Int) < 2 := by omega
              clear kb hb fz
              go_wp2_with (first | (refine wpList_store_rl rfl _ _ rfl _ _ RQ.out rfl ⟨r0, r1, l, o, r4⟩ (by unfold rlV; rfl) ?_; intro W' hB' hg' hs'; clear RQ))
              refine ret_rl rfl rfl rfl hB' ?_
              exact ⟨by unfold inW outW; rw [← flat_end HLE.out h1 h2 (by omega), ← flat_end HOE.out h3 h4 (by omega)], HB.out.grown hg' HB.out.size (by simp)⟩
          · have hp2' : ¬ (o.length : Int) < (ys.length : Int) := by omega
            clear kb hb fz
            go_wp2_with (first | (refine wpList_store_rl rfl _ _ rfl _ _ RQ.out rfl ⟨r0, r1, l, o, r4⟩ (by unfold rlV; rfl) ?_; intro W' hB' hg' hs'; clear RQ))
            refine ret_rl rfl rfl rfl hB' ?_
            exact ⟨by unfold inW outW; rw [← flat_end HLE.out h1 h2 (by omega), ← flat_end HOE.out h3 h4 (by omega)], HB.out.grown hg' HB.out.size (by simp)⟩
    · have hp' : ¬ (l.length : Int) < (xs.length : Int) := by omega
      clear fz q2 hb kb HX
      go_upto_region 7 with fail
      generalize wr = x3 at *
      go_wp2_with fail
      go_loopw [7] (fun i wr => ∃ o : List UInt8, i = .int .i64 (o.length : Nat) ∧ o.length ≤ 2 ∧ o.length ≤ ys.length ∧ o = (ys.take o.length).flatMap outC ∧ RlBlock wr (w.heap.size + 2) ⟨r0, r1, l, o, r4⟩ ∧ RrBlock wr w.heap.size (.slice la xs.length lc) (.slice oa ys.length oc) f t c ∧ RlBlock wr (w.heap.size + 1) ⟨0, 0, [], [], 0⟩ ∧ Below w.heap.size w wr) (fun i _ => 2 - (intOf i).toNat)
      case atStart => exact ⟨[], rfl, by simp, Nat.zero_le _, rfl, RB.out, RR.out, RQ.out, HB.out⟩
      case round =>
        obtain ⟨o, rfl, h3, h4, hoe, kb, kr, kq, hb⟩ := hrel
        have HOE := Lib.hid hoe
        clear hoe
        clear RB RR RQ HB z0 z1
        obtain ⟨z0, z1, z2, z3, z4⟩ := kr.cells
        clear z2 z3 z4
        have HB := Lib.hid hb
        have RB := Lib.hid kb
        have RR := Lib.hid kr
        have RQ := Lib.hid kq
        obtain ⟨q0, q1, q2, q3, q4⟩ := kb.cells
        dsimp only at q0 q1 q2 q3 q4
        clear kr kq
        have fz := kb.free 3
        by_cases hp2 : o.length < ys.length
        · have hp2' : (o.length : Int) < (ys.length : Int) := by omega
          by_cases hq2 : o.length < 2
          · have hq2' : (o.length : Int) < 2 := by omega
            clear q0 q1 q2 q4
            obtain ⟨a0, c0, hv, hc⟩ := HY.out.on hb
            obtain ⟨rfl, -⟩ : oa = a0 ∧ oc = c0 := by simpa using hv
            obtain ⟨b, off, rfl, hbb, hc⟩ := hc (by omega)
            obtain ⟨hcell, hx0, hx1⟩ := hc o.length hp2
            obtain ⟨x, hxx⟩ : ∃ x, x = ys[o.length] := ⟨_, rfl⟩
            rw [← hxx] at hcell hx0 hx1
            obtain ⟨r, hr, hr3⟩ : ∃ r : Nat, x.tmod 6 = (r : Int) ∧ r < 6 := ⟨(x.tmod 6).toNat, by rw [Int.tmod_eq_emod_of_nonneg hx0]; omega, by rw [Int.tmod_eq_emod_of_nonneg hx0]; omega⟩
            have hr0 : (0 : Int) ≤ (r : Int) := by omega
            have hr4 : (r : Int) + 1 ≤ 6 := by omega
            have hr5 : (r : Int) ≤ (r : Int) + 1 := by omega
            have hj0 : (0 : Int) ≤ (o.length : Int) := by omega
            have hwr : IntKind.u8.wrap ((r : Int) + 1) = (r : Int) + 1 := IntWalk.u8_in _ (by omega)
            have hn1 : ((r : Int) + 1).toNat = r + 1 := by omega
            have HA := Lib.hid (abcAB r hr3)
            have hcat : ¬ 9223372036854775807 < (B o).size + ((⟨#[97, 98, 99, 65, 66, 49]⟩ : ByteArray).extract r (r + 1)).size := by rw [abcAB r hr3, size_B, size_B]; simp [abcAB1]; omega
            have HST := Lib.hid (show o ++ abcAB1 r = (ys.take (o.length + 1)).flatMap outC by
              rw [flat_step _ _ _ hp2, ← HOE.out, ← hxx]; unfold outC; rw [hr]; rfl)
            clear hxx
            have HC := Lib.hid (B_app o (abcAB1 r))
            have HL := Lib.hid (show (o ++ abcAB1 r).length = o.length + 1 by simp [abcAB1])
            clear hc hv hb kb
            go_upto_region 9 with fail
            go_still_tail 16, (by kernel_rfl)
            change wpList _ _ _ _ _ wr.drew
            have e0 : wr.drew.cell? ⟨w.heap.size + 2, 3, none⟩ = some (.string (B o)) := q3
            have fe : wr.drew.frozen? ⟨w.heap.size + 2, 3, none⟩ = false := fz
            have RB3 := Lib.hid ((RB.out.below (Below.refl _ _).drew).put3 (o ++ abcAB1 r))
            have RR3 := Lib.hid ((RR.out.below (Below.refl _ _).drew).setCell (b' := w.heap.size + 2) (o := 3) (u := .string (B (o ++ abcAB1 r))) (by omega))
            have RQ3 := Lib.hid ((RQ.out.below (Below.refl _ _).drew).setCell (b' := w.heap.size + 2) (o := 3) (u := .string (B (o ++ abcAB1 r))) (by omega))
            have HB3 := Lib.hid (HB.out.drew.setCell (p := ⟨w.heap.size + 2, 3, none⟩) (by simp) (.string (B (o ++ abcAB1 r))))
            clear q3 fz z0 z1 hcell
            generalize wr.drew = x4 at *
            go_wp2_with fail
            rw [HA.out, HC.out]
            go_roundw
            case rel => exact ⟨o ++ abcAB1 r, by rw [HL.out]; go_num, by rw [HL.out]; omega, by rw [HL.out]; omega, by rw [HL.out]; exact HST.out, RB3.out, RR3.out, RQ3.out, HB3.out⟩
            case measure => simp [intOf]; omega
          · have hq2' : ¬ (o.length : Int) < 2 := by omega
            clear kb hb fz
            go_wp2_with (first | (refine wpList_store_rl rfl _ _ rfl _ _ RQ.out rfl ⟨r0, r1, l, o, r4⟩ (by unfold rlV; rfl) ?_; intro W' hB' hg' hs'; clear RQ))
            refine ret_rl rfl rfl rfl hB' ?_
            exact ⟨by unfold inW outW; rw [← flat_end HLE.out h1 h2 (by omega), ← flat_end HOE.out h3 h4 (by omega)], HB.out.grown hg' HB.out.size (by simp)⟩
        · have hp2' : ¬ (o.length : Int) < (ys.length : Int) := by omega
          clear kb hb fz
          go_wp2_with (first | (refine wpList_store_rl rfl _ _ rfl _ _ RQ.out rfl ⟨r0, r1, l, o, r4⟩ (by unfold rlV; rfl) ?_; intro W' hB' hg' hs'; clear RQ))
          refine ret_rl rfl rfl rfl hB' ?_
          exact ⟨by unfold inW outW; rw [← flat_end HLE.out h1 h2 (by omega), ← flat_end HOE.out h3 h4 (by omega)], HB.out.grown hg' HB.out.size (by simp)⟩
end Go.Proofs.YtendieoandclkaaDoor

namespace Go.Proofs.YtendieoandclkaaDoor
open Go.RowKit
open Pl

/-- A slice of n raw rules, in memory below block number B0. -/
def RawsAt (W : World) (B0 : Nat) (v : Value) (n : Nat) : Prop := ∃ a c, v = .slice a n c ∧ (0 < n → ∃ b off, a = some ⟨b, off, none⟩ ∧ b < B0 ∧ ∀ i, i < n → ∃ (la oa : Option Addr) (lc oc : Nat) (f t k : Int) (xs ys : List Int),
  W.cell? ⟨b, off + i * 5, none⟩ = some (.slice la xs.length lc) ∧ W.cell? ⟨b, off + i * 5 + 1, none⟩ = some (.slice oa ys.length oc) ∧ W.cell? ⟨b, off + i * 5 + 2, none⟩ = some (.int .u8 f) ∧ W.cell? ⟨b, off + i * 5 + 3, none⟩ = some (.int .u8 t) ∧ W.cell? ⟨b, off + i * 5 + 4, none⟩ = some (.int .u8 k) ∧
  BytesIs W B0 (.slice la xs.length lc) xs ∧ BytesIs W B0 (.slice oa ys.length oc) ys ∧ xs.length ≤ maxLen ∧ ys.length ≤ maxLen ∧ (0 ≤ f ∧ f ≤ 255) ∧ (0 ≤ t ∧ t ≤ 255) ∧ (0 ≤ k ∧ k ≤ 255))
theorem RawsAt.on {W W' : World} {v : Value} {n : Nat} (h : RawsAt W W.heap.size v n) (hb : Below W.heap.size W W') : RawsAt W' W'.heap.size v n := by
  obtain ⟨a, c, rfl, h⟩ := h
  refine ⟨a, c, rfl, fun hp => ?_⟩
  obtain ⟨b, off, rfl, hlt, hc⟩ := h hp
  refine ⟨b, off, rfl, Nat.lt_of_lt_of_le hlt hb.size, fun i hi => ?_⟩
  obtain ⟨la, oa, lc, oc, f, t, k, xs, ys, h0, h1, h2, h3, h4, h5, h6, h7⟩ := hc i hi
  have e := fun o => hb.cell (p := ⟨b, o, none⟩) hlt
  exact ⟨la, oa, lc, oc, f, t, k, xs, ys, (e _).trans h0, (e _).trans h1, (e _).trans h2, (e _).trans h3, (e _).trans h4, h5.on hb, h6.on hb, h7⟩
def RwBlock (W : World) (b : Nat) (k d : Int) (v : Value) : Prop := W.heap[b]? = some (.cells #[.int .u8 k, .int .u8 d, v] 27 (0, 0))
theorem RwBlock.below {W W' : World} {b : Nat} {k d : Int} {v : Value} (h : RwBlock W b k d v) (hb : Below W.heap.size W W') : RwBlock W' b k d v := by
  have hlt := lt_of_heap h
  unfold RwBlock at h ⊢; rw [hb.block b hlt]; exact h
theorem RwBlock.cells {W : World} {b : Nat} {k d : Int} {v : Value} (h : RwBlock W b k d v) : W.cell? ⟨b, 0, none⟩ = some (.int .u8 k) ∧ W.cell? ⟨b, 1, none⟩ = some (.int .u8 d) ∧ W.cell? ⟨b, 2, none⟩ = some v := by
  unfold RwBlock at h
  exact ⟨by simp [World.cell?, h], by simp [World.cell?, h], by simp [World.cell?, h]⟩
theorem RwBlock.keptBy {W W' : World} {b : Nat} {k d : Int} {v : Value} {row : Option Nat} (h : RwBlock W b k d v) (hg : W.grownBy W' row) (hne : row ≠ some b) : RwBlock W' b k d v := by
  have hlt := lt_of_heap h
  unfold RwBlock at h ⊢; rw [hg.block b hlt (fun e => hne e.symm)]; exact h
theorem RwBlock.setCell {W : World} {b b' o : Nat} {k d : Int} {v u : Value} (h : RwBlock W b k d v) (hne : b' ≠ b) : RwBlock (W.setCell ⟨b', o, none⟩ u) b k d v := by
  unfold RwBlock at h ⊢
  simp only [World.setCell, Array.getElem?_modify, if_neg hne]; exact h
/-- The rules rs: a row of the call's own, or full to the end, from some place of a block on. -/
def RlsFit (W : World) (base b0 off c : Nat) (rs : List Rl) : Prop := base ≤ b0 ∧ b0 < W.heap.size ∧ ((off = 0 ∧ RlsOwn W base (.slice (some ⟨b0, 0, none⟩) rs.length c) rs) ∨ (c = rs.length ∧ ∀ j u, (rs.flatMap rlCells)[j]? = some u → W.cell? ⟨b0, off + j, none⟩ = some u))
theorem RlsFit.keep {W W' : World} {base b0 off c : Nat} {rs : List Rl} (h : RlsFit W base b0 off c rs) (hs : W.heap.size ≤ W'.heap.size) (hk : ∀ g, base ≤ g → g < W.heap.size → W'.heap[g]? = W.heap[g]?) : RlsFit W' base b0 off c rs := by
  obtain ⟨h1, h2, h3⟩ := h
  refine ⟨h1, by omega, h3.imp (fun h => ⟨h.1, h.2.keep hk⟩) fun h => ⟨h.1, fun j u hj => ?_⟩⟩
  rw [World.cell?_of_block (w := W) (a := ⟨b0, off + j, none⟩) (hk b0 h1 h2)]; exact h.2 j u hj
theorem RlsFit.keep1 {W W' : World} {base b0 off c : Nat} {rs : List Rl} (h : RlsFit W base b0 off c rs) (hs : W.heap.size ≤ W'.heap.size) (hk : W'.heap[b0]? = W.heap[b0]?) : RlsFit W' base b0 off c rs := by
  obtain ⟨h1, h2, h3⟩ := h
  refine ⟨h1, by omega, h3.imp (fun h => ⟨h.1, h.2.keep1 hk⟩) fun h => ⟨h.1, fun j u hj => ?_⟩⟩
  rw [World.cell?_of_block (w := W) (a := ⟨b0, off + j, none⟩) hk]; exact h.2 j u hj
theorem RlsFit.base {W : World} {base base' b0 off c : Nat} {rs : List Rl} (h : RlsFit W base b0 off c rs) (hb : base' ≤ base) : RlsFit W base' b0 off c rs :=
  ⟨Nat.le_trans hb h.1, h.2.1, h.2.2.imp (fun h => ⟨h.1, h.2.base hb⟩) id⟩
theorem RlsFit.later {W W' : World} {base b0 off c : Nat} {rs : List Rl} (h : RlsFit W base b0 off c rs) (hb : Below W.heap.size W W') : RlsFit W' base b0 off c rs := h.keep hb.size fun g _ hg => hb.block g hg
/-- The rules without the first few. -/
theorem RlsOwn.drop {W : World} {base g : Nat} {rs : List Rl} (h : RlsOwn W base (.slice (some ⟨g, 0, none⟩) rs.length rs.length) rs) (q : Nat) (hq : q ≤ rs.length) : RlsFit W base g (q * 5) (rs.length - q) (rs.drop q) := by
  refine ⟨h.block.1, h.block.2, Or.inr ⟨by simp, fun j u hj => h.cells _ u ?_⟩⟩
  have e : rs.flatMap rlCells = (rs.take q).flatMap rlCells ++ (rs.drop q).flatMap rlCells := by rw [← List.flatMap_append, List.take_append_drop]
  have hl : ((rs.take q).flatMap rlCells).length = q * 5 := by rw [rlCells_length, List.length_take]; congr 1; omega
  rw [e, List.getElem?_append_right (by omega), hl]
  rw [show q * 5 + j - q * 5 = j by omega]; exact hj
/-- One rule more. -/
theorem wpList_append_fit {ops : Array Oper} {rest : List Oper} {o : Oper} {a : Act} {Q : Exit → Act → World → Prop} {W : World} (hgd : o.guard = none) (s x : Operand) (ho : o.op = .call { callee := .builtin .append, args := #[s, x], argTypes := #[31, 31] })
    {base b0 off c : Nat} {rs : List Rl} (hs : a.eval s = .slice (some ⟨b0, off, none⟩) rs.length c) (hown : RlsFit W base b0 off c rs) (r : Rl) (nb : Nat) (hx : a.eval x = .slice (some ⟨nb, 0, none⟩) 1 1) (hn : W.heap[nb]? = some (.cells (rlCells r).toArray 29 (0, 0))) (hlen : rs.length ≤ 1000)
    (h : ∀ g cap W' row, RlsOwn W' base (.slice (some ⟨g, 0, none⟩) (rs.length + 1) cap) (rs ++ [r]) → W.grownBy W' row → (row = none ∨ row = some b0) → (g = b0 ∨ W.heap.size ≤ g) → wpList Tryd.prog ops Q rest (a.put o.dst (.slice (some ⟨g, 0, none⟩) (rs.length + 1) cap)) W') : wpList Tryd.prog ops Q (o :: rest) a W := by
  obtain ⟨hb0, hb1, hf⟩ := hown
  obtain ⟨i0, hi0, hz0, hz1, hz2⟩ := info_parts infoRl
  have hlen' : (rs ++ [r]).length = rs.length + 1 := by simp
  have hn' : rs.length + 1 ≤ maxLen := by unfold maxLen; omega
  have hby : (rs.length + 1) * 56 ≤ 140737488355328 := by omega
  rcases hf with ⟨rfl, hf⟩ | ⟨rfl, hf⟩
  · refine wpList_append_lies _ hgd s x _ ho base 29 i0 _ 5 56 Tryd.underlying31 hi0 hz0 hz1 hz2 rfl (by omega) (.slice (some ⟨b0, 0, none⟩) rs.length c) rs.length (rs.flatMap rlCells) hs hf ⟨nb, 0, none⟩ 1 1 (rlCells r) hx rfl (World.news_of_block (cs := (rlCells r).toArray) (t := 29) (fr := (0, 0)) hn) (by simp [rlCells, Value.oneCell']) (by omega) hn' hby (by omega) W.heap.size rfl ?_
    intro gg cap' w8 hown8 hgrow hat hlt8
    refine h gg cap' w8 (some b0) ?_ hgrow (Or.inr rfl) (hat.imp (fun e => by simpa [Value.ownBlock] using e.symm) fun e => by omega)
    unfold RlsOwn
    rw [hlen', List.flatMap_append]
    simpa using hown8
  · refine wpList_append_grows W hgd s x _ ho 29 i0 _ 5 56 Tryd.underlying31 hi0 hz0 hz1 hz2 rfl (by omega) (some ⟨b0, off, none⟩) rs.length rs.length (rs.flatMap rlCells) hs (fun e => by cases e) (rlCells_length rs) (fun b hb j u hj => ?_) ⟨nb, 0, none⟩ 1 1 (rlCells r) hx rfl (World.news_of_block (cs := (rlCells r).toArray) (t := 29) (fr := (0, 0)) hn) (by simp [rlCells, Value.oneCell']) (by omega) hn' hby ?_
    · obtain rfl := Option.some.inj hb
      rw [show (⟨b0, off, none⟩ : Addr).add j = ⟨b0, off + j, none⟩ by unfold Addr.add; split <;> simp_all]
      exact hf j u hj
    · intro v' w8 hown8 hgrow
      obtain ⟨g, cap', rfl, hg, -⟩ := hown8.form (by omega)
      refine h g cap' w8 none ?_ hgrow (Or.inl rfl) (Or.inr hg)
      refine RlsOwn.base (b := W.heap.size) ?_ (by omega)
      unfold RlsOwn
      rw [hlen', List.flatMap_append]
      simpa using hown8
end Go.Proofs.YtendieoandclkaaDoor

namespace Go.Proofs.YtendieoandclkaaDoor
open Go.RowKit
open Pl

/-- What Made answers: a valid scheme of 2 to 9 rules, in rows of the call's own. -/
def MadePost (w : World) (e : Ending) (w' : World) : Prop := (∃ (m : Int) (b0 off c : Nat) (rs : List Rl), e = .returned (.agg #[.int .i64 m, .int .u8 1, .slice (some ⟨b0, off, none⟩) rs.length c]) ∧ RlsFit w' w.heap.size b0 off c rs ∧ validB m 1 rs = true ∧ 2 ≤ rs.length ∧ rs.length ≤ 9 ∧ 1 ≤ m ∧ m ≤ 2) ∧ Below w.heap.size w w'
theorem layMd (w : World) (k d : Int) (v : Value) : RwBlock ((w.alloc (.cells #[.int .u8 k, .int .u8 d, v] 27)).alloc (.cells #[.int .i64 0, .int .u8 0, .slice none 0 0] 33)) w.heap.size k d v ∧ SchBlock ((w.alloc (.cells #[.int .u8 k, .int .u8 d, v] 27)).alloc (.cells #[.int .i64 0, .int .u8 0, .slice none 0 0] 33)) (w.heap.size + 1) (.int .i64 0) (.int .u8 0) (.slice none 0 0) ∧ Below w.heap.size w ((w.alloc (.cells #[.int .u8 k, .int .u8 d, v] 27)).alloc (.cells #[.int .i64 0, .int .u8 0, .slice none 0 0] 33)) ∧ ((w.alloc (.cells #[.int .u8 k, .int .u8 d, v] 27)).alloc (.cells #[.int .i64 0, .int .u8 0, .slice none 0 0] 33)).heap.size = w.heap.size + 2 := by
  refine ⟨RwBlock.below (show RwBlock (w.alloc (.cells #[.int .u8 k, .int .u8 d, v] 27)) w.heap.size k d v from heap_alloc_new w _) ((Below.refl _ _).alloc (Nat.le_refl _) _), ?_, ((Below.refl _ _).alloc (Nat.le_refl _) _).alloc (by simp) _, by simp⟩
  have := SchBlock.new (w.alloc (.cells #[.int .u8 k, .int .u8 d, v] 27)) (.int .i64 0) (.int .u8 0) (.slice none 0 0)
  rw [World.size_alloc] at this
  exact this
theorem base_drop (j q : Nat) (hj : j < 6) (hq : q < 2) : validB (baseM j) 1 ((baseL j).drop q) = true := by
  rcases (show q = 0 ∨ q = 1 by omega) with rfl | rfl
  · exact (base_valid j hj).1
  · exact (base_valid j hj).2.1
theorem baseM_le (j : Nat) : 1 ≤ baseM j ∧ baseM j ≤ 2 := by unfold baseM; split <;> decide
set_option maxHeartbeats 2000000 in
set_option maxRecDepth 100000 in
theorem Made_any (k d : Int) (ma : Option Addr) (mn mc : Nat) (w : World) (hk : 0 ≤ k ∧ k ≤ 255) (hd : 0 ≤ d ∧ d ≤ 255) (hx : RawsAt w w.heap.size (.slice ma mn mc) mn) (hl : mn ≤ maxLen) :
    Calls Tryd.prog 9 #[.agg #[.int .u8 k, .int .u8 d, .slice ma mn mc]] w (MadePost w) := by
  obtain ⟨k0, k1, hb, hsz⟩ := layMd w k d (.slice ma mn mc)
  have HX := Lib.hid hx
  have HB := Lib.hid hb
  have RW := Lib.hid k0
  have SQ := Lib.hid k1
  have HSZ := Lib.hid hsz
  obtain ⟨z0, z1, z2⟩ := k0.cells
  unfold maxLen at hl
  obtain ⟨q, hq, hq2⟩ : ∃ q : Nat, d.tmod 2 = (q : Int) ∧ q < 2 := ⟨(d.tmod 2).toNat, by rw [Int.tmod_eq_emod_of_nonneg hd.1]; omega, by rw [Int.tmod_eq_emod_of_nonneg hd.1]; omega⟩
  have hwq : IntKind.i64.wrap (q : Int) = (q : Int) := IntWalk.i64_in _ (by omega)
  have CB := fun W => Lib.hid (Base_any k W hk.1)
  clear hx hb k0 k1 hsz
  go_enter Tryd.func9, Tryd.ntmps9
  go_wp2_with fail
  generalize (w.alloc _).alloc _ = x1 at *
  refine ((CB x1).out).mono ?_
  rintro e x2 ⟨j, hj, ⟨g, rfl, ho⟩, hb⟩
  have BV := Lib.hid (base_drop j q hj hq2)
  have BM := Lib.hid (baseM_le j)
  have BL := (base_valid j hj).2.2
  have HSX := HSZ.out
  have HO := Lib.hid ho
  have hgb := ho.block
  have RW2 := Lib.hid (RW.out.below hb)
  have SQ2 := Lib.hid (SQ.out.below hb)
  have HB2 := Lib.hid (HB.out.trans (hb.mono HB.out.size))
  have hsz2 := hb.size
  have r0 := (RW.out.below hb).cells.1
  have r1 := (RW.out.below hb).cells.2.1
  have r2 := (RW.out.below hb).cells.2.2
  clear ho hb CB HB RW SQ HSZ z0 z1 z2 hj
  generalize baseM j = m at *
  generalize baseL j = rs0 at *
  obtain ⟨bl3, bl5⟩ := BL
  have hq0 : (0 : Int) ≤ (q : Int) := by omega
  have hq1 : (q : Int) ≤ (rs0.length : Int) := by omega
  have NB := SchBlock.new x2 (.int .i64 0) (.int .u8 0) (.slice none 0 0)
  have HB3 := Lib.hid (HB2.out.alloc HB2.out.size (.cells #[.int .i64 0, .int .u8 0, .slice none 0 0] 33))
  have RW3 := Lib.hid (RW2.out.below ((Below.refl _ _).alloc (Nat.le_refl _) (.cells #[.int .i64 0, .int .u8 0, .slice none 0 0] 33)))
  have SQ3 := Lib.hid (SQ2.out.below ((Below.refl _ _).alloc (Nat.le_refl _) (.cells #[.int .i64 0, .int .u8 0, .slice none 0 0] 33)))
  have HO3 := Lib.hid (HO.out.later ((Below.refl _ _).alloc (Nat.le_refl _) (.cells #[.int .i64 0, .int .u8 0, .slice none 0 0] 33)))
  have hs3 : (x2.alloc (.cells #[.int .i64 0, .int .u8 0, .slice none 0 0] 33)).heap.size = x2.heap.size + 1 := World.size_alloc _ _
  clear r0 r1 r2 HB2 RW2 SQ2 HO
  go_wp2_with (first | (refine wpList_store_sch rfl _ _ rfl _ _ _ _ NB rfl _ _ _ _ _ rfl ?_; intro W' hB' hg' hs'; clear NB; have RW4 := Lib.hid (RW3.out.keptBy hg' (by simp; omega)); have SQ4 := Lib.hid (SQ3.out.kept hg' (by omega)); obtain ⟨t0, t1, t2⟩ := hB'.cells; have tf := hB'.free; obtain ⟨r0, r1, r2⟩ := RW4.out.cells))
  clear r0 r1 r2 t0 t1 t2 tf hwq hq hq0 hq1
  generalize hg3 : x2.heap.size = g3 at *
  have hgne : g3 ≠ g := by omega
  have eh : ∀ u, (W'.setCell ⟨g3, 2, none⟩ u).heap[g]? = (x2.alloc (.cells #[.int .i64 0, .int .u8 0, .slice none 0 0] 33)).heap[g]? := fun u => by
    simp only [World.setCell, Array.getElem?_modify, if_neg hgne]
    exact hg'.block g (by omega) (by simp; omega)
  have HF := Lib.hid (((HO3.out.drop q (by omega)).keep1 (W' := W'.setCell ⟨g3, 2, none⟩ (.slice (some ⟨g, q * 5, none⟩) (rs0.length - q) (rs0.length - q))) (by simp [hs']) (eh _)).base (show w.heap.size + 2 ≤ x1.heap.size by omega))
  have SB5 := Lib.hid (hB'.put2 (v := .slice (some ⟨g, q * 5, none⟩) (rs0.length - q) (rs0.length - q)))
  have RW5 := Lib.hid (RW4.out.setCell (b' := g3) (o := 2) (u := .slice (some ⟨g, q * 5, none⟩) (rs0.length - q) (rs0.length - q)) (by omega))
  have SQ5 := Lib.hid (SQ4.out.setCellAt (b' := g3) (o := 2) (u := .slice (some ⟨g, q * 5, none⟩) (rs0.length - q) (rs0.length - q)) (by omega))
  have HB5 := Lib.hid ((HB3.out.grown hg' HB3.out.size (by simp; omega)).setCell (p := ⟨g3, 2, none⟩) (by simp; omega) (.slice (some ⟨g, q * 5, none⟩) (rs0.length - q) (rs0.length - q)))
  have hs5 : g3 < (W'.setCell ⟨g3, 2, none⟩ (.slice (some ⟨g, q * 5, none⟩) (rs0.length - q) (rs0.length - q))).heap.size := by simp; omega
  have hdl : (rs0.drop q).length = rs0.length - q := by simp
  have DL := Lib.hid hdl
  have hl2 : 2 ≤ rs0.length - q := by omega
  have hl5 : rs0.length - q ≤ 5 := by omega
  have hgw : w.heap.size + 2 ≤ g3 := by omega
  clear HO3 hB' hg' hs' RW4 SQ4 HB3 RW3 SQ3 eh hs3 hdl bl3 bl5 hgb hsz2 hq2 HSX
  rw [← DL.out] at HF SB5 RW5 SQ5 HB5 hs5 hl2 hl5 ⊢
  generalize W'.setCell _ _ = x3 at *
  generalize rs0.drop q = rs1 at *
  generalize q * 5 = off1 at *
  clear hg3 DL
  go_loopw [4] (fun i wr => ∃ (n b0 off c : Nat) (rs : List Rl), i = .int .i64 (n : Nat) ∧ n ≤ 4 ∧ n ≤ mn ∧ 2 ≤ rs.length ∧ rs.length ≤ 5 + n ∧ validB m 1 rs = true ∧ b0 ≠ g3 ∧ RlsFit wr (w.heap.size + 2) b0 off c rs ∧ SchBlock wr g3 (.int .i64 m) (.int .u8 1) (.slice (some ⟨b0, off, none⟩) rs.length c) ∧ RwBlock wr w.heap.size k d (.slice ma mn mc) ∧ SchBlock wr (w.heap.size + 1) (.int .i64 0) (.int .u8 0) (.slice none 0 0) ∧ Below w.heap.size w wr ∧ g3 < wr.heap.size) (fun i _ => 4 - (intOf i).toNat)
  case atStart => exact ⟨0, g, off1, rs1.length, rs1, rfl, by omega, by omega, hl2, by omega, BV.out, hgne.symm, HF.out, SB5.out, RW5.out, SQ5.out, HB5.out, hs5⟩
  case round =>
    obtain ⟨n, b0, off, c, rs, rfl, h1, h2, h3, h4, hv, hb0, hf, hsb, hrw, hsq, hb, hsz⟩ := hrel
    clear HF SB5 RW5 SQ5 HB5 hs5 hl2 hl5 BV
    have HV := Lib.hid hv
    have HF := Lib.hid hf
    have SB := Lib.hid hsb
    have RW := Lib.hid hrw
    have SQ := Lib.hid hsq
    have HB := Lib.hid hb
    obtain ⟨t0, t1, t2⟩ := hsb.cells
    obtain ⟨r0, r1, r2⟩ := hrw.cells
    clear hv hf hrw
    by_cases hp : n < mn
    · have hp' : (n : Int) < (mn : Int) := by omega
      by_cases hq : n < 4
      · have hq' : (n : Int) < 4 := by omega
        have hn0 : (0 : Int) ≤ (n : Int) := by omega
        obtain ⟨a0, c0, hv, hc⟩ := HX.out.on hb
        obtain ⟨rfl, -⟩ : ma = a0 ∧ mc = c0 := by simpa using hv
        obtain ⟨bb, oo, rfl, hbb, hc⟩ := hc (by omega)
        obtain ⟨la, oa, lc, oc, f, t, kk, xs, ys, e0, e1, e2, e3, e4, ex, ey, el, eo, ef, et, ek⟩ := hc n hp
        have FW := Lib.hid (show ∀ W, Below wr.heap.size wr W → W.cell? ⟨g3, 0, none⟩ = some (.int .i64 m) ∧ W.cell? ⟨g3, 2, none⟩ = some (.slice (some ⟨b0, off, none⟩) rs.length c) ∧ W.cell? ⟨w.heap.size, 2, none⟩ = some (.slice (some ⟨bb, oo, none⟩) mn mc) ∧ W.cell? ⟨bb, oo + n * 5, none⟩ = some (.slice la xs.length lc) ∧ W.cell? ⟨bb, oo + n * 5 + 1, none⟩ = some (.slice oa ys.length oc) ∧ W.cell? ⟨bb, oo + n * 5 + 2, none⟩ = some (.int .u8 f) ∧ W.cell? ⟨bb, oo + n * 5 + 3, none⟩ = some (.int .u8 t) ∧ W.cell? ⟨bb, oo + n * 5 + 4, none⟩ = some (.int .u8 kk) from fun W h =>
          ⟨(SB.out.below h).cells.1, (SB.out.below h).cells.2.2, (RW.out.below h).cells.2.2, (h.cell (p := ⟨bb, _, none⟩) hbb).trans e0, (h.cell (p := ⟨bb, _, none⟩) hbb).trans e1, (h.cell (p := ⟨bb, _, none⟩) hbb).trans e2, (h.cell (p := ⟨bb, _, none⟩) hbb).trans e3, (h.cell (p := ⟨bb, _, none⟩) hbb).trans e4⟩)
        obtain ⟨y, hy⟩ : ∃ y : Rl, y = ⟨f % m, t % m, inW xs, outW ys, kk * 2⟩ := ⟨_, rfl⟩
        have CM := fun W (h : Below wr.heap.size wr W) => Lib.hid (Made1_any la oa lc oc f t kk m ⟨BM.out.1, by have := BM.out.2; omega⟩ xs ys _ _ _ rfl rfl rfl ef et ek W (ex.on h) (ey.on h) el eo)
        have hz : y.inp.length ≤ 2 ∧ y.out.length ≤ 2 := by rw [hy]; exact ⟨inW_len xs, outW_len ys⟩
        rw [← hy] at CM
        clear hy e0 e1 e2 e3 e4 ex ey hc hv hb
        go_upto_region 6 with fail
        clear t0 t1 t2 r0 r1 r2 hsb
        refine wp_normal ?_
        refine wp_region_hoist (C := fun W => Below wr.heap.size wr W) 9 11 (by kernel_rfl) (by kernel_rfl) (Below.refl _ _).drew (fun _ _ _ _ _ h => by cases h.1) ?_
        simp only [List.take_succ_cons, List.take_zero, List.drop_succ_cons, List.drop_zero]
        repeat (refine wpHoist_step ?_; intro K hK; refine ⟨?_, fun W h => ?_, ?_⟩; rotate_left; (· obtain ⟨f0, f1, f2, f3, f4, f5, f6, f7⟩ := FW.out W h; go_simp; rfl); go_simp; go_big_quiet_on)
        refine wpHoist_nil ?_
        clear FW
        refine wpListC_call 28 #[.agg #[.slice la xs.length lc, .slice oa ys.length oc, .int .u8 f, .int .u8 t, .int .u8 kk], .int .i64 m] rfl (by go_simp) (CM wr.drew (Below.refl _ _).drew).out ?_
        rintro e x6 ⟨rfl, hb6⟩
        have hb6' := (Below.refl wr.heap.size wr).drew.trans hb6
        refine Or.inl ⟨_, rfl, hb6', ?_⟩
        intro K hK
        go_simp
        go_big_quiet_on
        have HF6 := Lib.hid (HF.out.later hb6')
        have SB6 := Lib.hid (SB.out.below hb6')
        have RW6 := Lib.hid (RW.out.below hb6')
        have SQ6 := Lib.hid (SQ.out.below hb6')
        have HB6 := Lib.hid (HB.out.trans (hb6'.mono HB.out.size))
        have hs6 : g3 < x6.heap.size := Nat.lt_of_lt_of_le hsz hb6'.size
        have hw6 := HB.out.size
        have hr6 := hb6'.size
        clear HF SB RW SQ HB CM hb6
        have al := (Below.refl x6.heap.size x6).alloc (Nat.le_refl _) (.cells #[.int .i64 y.src, .int .i64 y.dst, .string (B y.inp), .string (B y.out), .int .i64 y.cost] 29)
        refine wpListC_value (w' := x6.alloc (.cells #[.int .i64 y.src, .int .i64 y.dst, .string (B y.inp), .string (B y.out), .int .i64 y.cost] 29)) (.slice (some ⟨x6.heap.size, 0, none⟩) 1 1) rfl (by go_simp) (hb6'.trans (al.mono hr6)) ?_
        intro K hK
        go_simp
        go_big_quiet_on
        refine wpListC_rest _ _ _ _ (fun j hj => decide_eq_true hj) (by simp) ?_
        have HF7 := HF6.out.later al
        have SB7 := Lib.hid (SB6.out.below al)
        have RW7 := Lib.hid (RW6.out.below al)
        have SQ7 := Lib.hid (SQ6.out.below al)
        have HB7 := Lib.hid (HB6.out.trans (al.mono HB6.out.size))
        have hs7 : (x6.alloc (.cells #[.int .i64 y.src, .int .i64 y.dst, .string (B y.inp), .string (B y.out), .int .i64 y.cost] 29)).heap.size = x6.heap.size + 1 := World.size_alloc _ _
        clear HF6 SB6 RW6 SQ6 HB6 al hb6'
        refine wpList_append_fit rfl _ _ rfl (by rfl) HF7 y x6.heap.size (by rfl) (heap_alloc_new x6 _) (by omega) ?_
        intro gg cap' w8 row hown8 hgrow hrow hgg
        have hn3 : row ≠ some g3 := by rcases hrow with rfl | rfl <;> simp; exact hb0
        have hn0 : row ≠ some w.heap.size := by rcases hrow with rfl | rfl <;> simp; have := HF7.1; omega
        have hn1 : row ≠ some (w.heap.size + 1) := by rcases hrow with rfl | rfl <;> simp; have := HF7.1; omega
        have hgg3 : g3 ≠ gg := by rcases hgg with h | h <;> omega
        have hob : ∀ kx, row = some kx → w.heap.size ≤ kx := fun kx h => by rcases hrow with rfl | rfl <;> simp at h; have := HF7.1; omega
        obtain ⟨z0, z1, z2⟩ := (SB7.out.keptBy hgrow hn3).cells
        have zf := (SB7.out.keptBy hgrow hn3).free
        have hlen : (rs ++ [y]).length = rs.length + 1 := by simp
        have SB8 := Lib.hid ((SB7.out.keptBy hgrow hn3).put2 (v := .slice (some ⟨gg, 0, none⟩) (rs.length + 1) cap'))
        have RW8 := Lib.hid ((RW7.out.keptBy hgrow hn0).setCell (b' := g3) (o := 2) (u := .slice (some ⟨gg, 0, none⟩) (rs.length + 1) cap') (by omega))
        have SQ8 := Lib.hid ((SQ7.out.keptBy hgrow hn1).setCellAt (b' := g3) (o := 2) (u := .slice (some ⟨gg, 0, none⟩) (rs.length + 1) cap') (by omega))
        have HB8 := Lib.hid ((HB7.out.grown hgrow HB7.out.size hob).setCell (p := ⟨g3, 2, none⟩) (by simp; omega) (.slice (some ⟨gg, 0, none⟩) (rs.length + 1) cap'))
        have HO8 := Lib.hid (hown8.keep1 (W' := w8.setCell ⟨g3, 2, none⟩ (.slice (some ⟨gg, 0, none⟩) (rs.length + 1) cap')) (by simp only [World.setCell, Array.getElem?_modify, if_neg hgg3]))
        have hs8 : g3 < (w8.setCell ⟨g3, 2, none⟩ (.slice (some ⟨gg, 0, none⟩) (rs.length + 1) cap')).heap.size := by have := hgrow.size; simp; omega
        have hl1 : rs.length + 1 ≤ 10 := by omega
        clear SB7 RW7 SQ7 HB7 HF7 hown8 hgrow hrow hgg hn3 hn0 hn1 hob hs7 hs6
        go_upto_region 7 with fail
        clear z0 z1 z2 zf
        generalize w8.setCell _ _ = x9 at *
        have HA9 := Lib.hid (show RlsAt x9 x9.heap.size (.slice (some ⟨gg, 0, none⟩) (rs ++ [y]).length cap') (rs ++ [y]) by
          have h := HO8.out
          rw [← hlen] at h
          obtain ⟨_, _, _, _, h⟩ := h.at
          exact h)
        have hi9 : rs.length < (rs ++ [y]).length := by omega
        have CR := Lib.hid (RRight_any m 1 (some ⟨gg, 0, none⟩) cap' (rs ++ [y]) rs.length hi9 x9 HA9.out (by unfold maxLen; omega) (fun x hx => by
          have hm := valid_ok HV.out
          rcases List.mem_append.1 hx with h | h
          · obtain ⟨kx, hkx, rfl⟩ := List.getElem_of_mem h
            have := (hm.2.2.2.2 kx hkx).1
            have hl1 := this.i
            have hl2 := this.o
            unfold maxLen
            omega
          · obtain rfl := List.mem_singleton.1 h
            unfold maxLen; omega) (by have := BM.out; omega))
        rw [List.getElem_append_right (Nat.le_refl _)] at CR
        simp only [Nat.sub_self, List.getElem_cons_zero] at CR
        rw [hlen] at CR
        obtain ⟨t0, t1, t2⟩ := SB8.out.cells
        have tf := SB8.out.free
        have wi : IntKind.i64.wrap (rs.length : Int) = (rs.length : Int) := IntWalk.i64_in _ (by omega)
        have wj : (rs.length : Int) + 1 - 1 = (rs.length : Int) := by omega
        clear HA9 hi9
        go_wp2_with fail
        refine (CR.out).mono ?_
        rintro e x10 ⟨rfl, hb10⟩
        have SB10 := SB8.out.below hb10
        have RW10 := Lib.hid (RW8.out.below hb10)
        have SQ10 := Lib.hid (SQ8.out.below hb10)
        have HB10 := Lib.hid (HB8.out.trans (hb10.mono HB8.out.size))
        have HO10 := Lib.hid (HO8.out.later hb10)
        have hs10 := Nat.lt_of_lt_of_le hs8 hb10.size
        clear SB8 RW8 SQ8 HB8 HO8 hs8 CR t0 t1 t2 tf hb10
        cases hr : rightB m (rs ++ [y]) rs.length y with
        | true =>
          have HV2 := Lib.hid (validB_add HV.out (by omega) hr)
          clear hr
          have SB10 := Lib.hid SB10
          go_wp2_with fail
          go_roundw
          case rel => exact ⟨n + 1, gg, 0, cap', rs ++ [y], by go_num, by omega, by omega, by omega, by omega, HV2.out, hgg3.symm, ⟨HO10.out.block.1, HO10.out.block.2, Or.inl ⟨rfl, by rw [hlen]; exact HO10.out⟩⟩, by rw [hlen]; exact SB10.out, RW10.out, SQ10.out, HB10.out, hs10⟩
          case measure => simp [intOf]; omega
        | false =>
          clear hr
          obtain ⟨t0, t1, t2⟩ := SB10.cells
          have tf := SB10.free
          have SB11 := Lib.hid (SB10.put2 (v := .slice (some ⟨gg, 0, none⟩) rs.length cap'))
          have RW11 := Lib.hid (RW10.out.setCell (b' := g3) (o := 2) (u := .slice (some ⟨gg, 0, none⟩) rs.length cap') (by omega))
          have SQ11 := Lib.hid (SQ10.out.setCellAt (b' := g3) (o := 2) (u := .slice (some ⟨gg, 0, none⟩) rs.length cap') (by omega))
          have HB11 := Lib.hid (HB10.out.setCell (p := ⟨g3, 2, none⟩) (by simp; omega) (.slice (some ⟨gg, 0, none⟩) rs.length cap'))
          have HO11 := Lib.hid (HO10.out.cut.keep1 (W' := x10.setCell ⟨g3, 2, none⟩ (.slice (some ⟨gg, 0, none⟩) rs.length cap')) (by simp only [World.setCell, Array.getElem?_modify, if_neg hgg3]))
          have hs11 : g3 < (x10.setCell ⟨g3, 2, none⟩ (.slice (some ⟨gg, 0, none⟩) rs.length cap')).heap.size := by simp; omega
          have wl0 : (0 : Int) ≤ (rs.length : Int) := by omega
          have hcap : (rs.length : Int) ≤ (cap' : Int) := by
            obtain ⟨_, _, h1, h2, _⟩ := (show RlsOwn x10 (w.heap.size + 2) (.slice (some ⟨gg, 0, none⟩) (rs ++ [y]).length cap') (rs ++ [y]) by rw [hlen]; exact HO10.out).at
            simp at h1; omega
          clear SB10 RW10 SQ10 HB10 HO10 hs10
          go_wp2_with fail
          go_roundw
          case rel => exact ⟨n + 1, gg, 0, cap', rs, by go_num, by omega, by omega, by omega, by omega, HV.out, hgg3.symm, ⟨HO11.out.block.1, HO11.out.block.2, Or.inl ⟨rfl, HO11.out⟩⟩, SB11.out, RW11.out, SQ11.out, HB11.out, hs11⟩
          case measure => simp [intOf]; omega
      · have hq' : ¬ (n : Int) < 4 := by omega
        clear hsb hb
        go_wp2_with (first | (refine wpList_store_sch rfl _ _ rfl _ _ _ _ SQ.out rfl _ _ _ _ _ rfl ?_; intro W' hB' hg' hs'; clear SQ))
        refine ret_sch rfl rfl rfl hB' ?_
        have hne : b0 ≠ w.heap.size + 1 := by have := HF.out.1; omega
        exact ⟨⟨m, b0, off, c, rs, rfl, (HF.out.keep1 (by omega) (hg'.block b0 HF.out.2.1 (by simp; omega))).base (by omega), HV.out, h3, by omega, BM.out.1, BM.out.2⟩, HB.out.grown hg' HB.out.size (by simp)⟩
    · have hp' : ¬ (n : Int) < (mn : Int) := by omega
      clear hsb hb
      go_wp2_with (first | (refine wpList_store_sch rfl _ _ rfl _ _ _ _ SQ.out rfl _ _ _ _ _ rfl ?_; intro W' hB' hg' hs'; clear SQ))
      refine ret_sch rfl rfl rfl hB' ?_
      have hne : b0 ≠ w.heap.size + 1 := by have := HF.out.1; omega
      exact ⟨⟨m, b0, off, c, rs, rfl, (HF.out.keep1 (by omega) (hg'.block b0 HF.out.2.1 (by simp; omega))).base (by omega), HV.out, h3, by omega, BM.out.1, BM.out.2⟩, HB.out.grown hg' HB.out.size (by simp)⟩
end Go.Proofs.YtendieoandclkaaDoor
