/-
  The reference's base schemes: simple, Base (written by vf.py).
-/
import Derived.Test.YtnbiedijofdjhaaDoorVE
namespace Go.Proofs.YtnbiedijofdjhaaDoor
open Go.RowKit
open Pl

theorem RlsOwn.fresh (w : World) (rs : List Rl) (cs : Array Value) (n base : Nat) (hcs : cs = (rs.flatMap rlCells).toArray) (hn : n = rs.length) (hl : rs.length ≤ maxLen) (hb : base ≤ w.heap.size) :
    RlsOwn (w.alloc (.cells cs 29)) base (.slice (some ⟨w.heap.size, 0, none⟩) n n) rs := by
  subst hcs hn
  refine ⟨rlCells_length rs, Or.inr ⟨w.heap.size, rs.length, (rs.flatMap rlCells).toArray, rfl, hb, heap_alloc_new w _, Nat.le_refl _, hl, by rw [List.size_toArray, rlCells_length], ?_⟩⟩
  rw [← rlCells_length]; exact List.take_length
def PrBlock (W : World) (b : Nat) (x y : Int) : Prop := W.heap[b]? = some (.cells #[.int .i64 x, .int .i64 y] 109 (0, 0))
theorem PrBlock.below {W W' : World} {b : Nat} {x y : Int} (h : PrBlock W b x y) (hb : Below W.heap.size W W') : PrBlock W' b x y := by
  have hlt := lt_of_heap h
  unfold PrBlock at h ⊢; rw [hb.block b hlt]; exact h
theorem PrBlock.cells {W : World} {b : Nat} {x y : Int} (h : PrBlock W b x y) : W.cell? ⟨b, 0, none⟩ = some (.int .i64 x) ∧ W.cell? ⟨b, 1, none⟩ = some (.int .i64 y) := by
  unfold PrBlock at h
  exact ⟨by simp [World.cell?, h], by simp [World.cell?, h]⟩
set_option maxHeartbeats 400000 in
set_option maxRecDepth 100000 in
theorem simple_any (a b : Int) (i o : ByteArray) (w : World) : Calls Tryd.prog 82 #[.agg #[.int .i64 a, .int .i64 b], .string i, .string o] w fun e w' => e = .returned (.agg #[.int .i64 a, .int .i64 b, .string i, .string o, .int .i64 (i.size : Nat)]) ∧ Below w.heap.size w w' := by
  have hb : Below w.heap.size w ((w.alloc (.cells #[.int .i64 a, .int .i64 b] 109)).alloc (.cells #[.int .i64 0, .int .i64 0, .string ⟨#[]⟩, .string ⟨#[]⟩, .int .i64 0] 29)) := ((Below.refl _ _).alloc (Nat.le_refl _) _).alloc (by simp) _
  have PB : PrBlock ((w.alloc (.cells #[.int .i64 a, .int .i64 b] 109)).alloc (.cells #[.int .i64 0, .int .i64 0, .string ⟨#[]⟩, .string ⟨#[]⟩, .int .i64 0] 29)) w.heap.size a b := PrBlock.below (show PrBlock (w.alloc (.cells #[.int .i64 a, .int .i64 b] 109)) w.heap.size a b from heap_alloc_new w _) ((Below.refl _ _).alloc (Nat.le_refl _) _)
  have RB : RlBlock ((w.alloc (.cells #[.int .i64 a, .int .i64 b] 109)).alloc (.cells #[.int .i64 0, .int .i64 0, .string ⟨#[]⟩, .string ⟨#[]⟩, .int .i64 0] 29)) (w.heap.size + 1) ⟨0, 0, [], [], 0⟩ := by
    have := rl_new (w.alloc (.cells #[.int .i64 a, .int .i64 b] 109)) ⟨0, 0, [], [], 0⟩ _ rfl
    rw [World.size_alloc] at this
    exact this
  have HB := Lib.hid hb
  obtain ⟨z0, z1⟩ := PB.cells
  clear hb PB
  go_enter Tryd.func82, Tryd.ntmps82
  go_wp2_with (first | (refine wpList_store_rl rfl _ _ rfl _ _ RB rfl ⟨a, b, i.data.toList, o.data.toList, (i.size : Nat)⟩ (by unfold rlV; dsimp only; rw [B_toList, B_toList]; rfl) ?_; intro W' hB' hg' hs'; clear RB))
  refine ret_rl rfl rfl rfl hB' ?_
  exact ⟨by unfold rlV; dsimp only; rw [B_toList, B_toList], HB.out.grown hg' HB.out.size (by simp)⟩
/-- The six base schemes. -/
def baseM (k : Nat) : Int := if k = 2 then 2 else 1
def baseL : Nat → List Rl
  | 0 => [⟨0, 0, [97], [97], 1⟩, ⟨0, 0, [98], [98], 1⟩, ⟨0, 0, [99], [99], 1⟩]
  | 1 => [⟨0, 0, [97], [65], 1⟩, ⟨0, 0, [98, 97], [66], 2⟩, ⟨0, 0, [99, 97], [67], 2⟩, ⟨0, 0, [98], [98], 1⟩]
  | 2 => [⟨0, 1, [99], [], 1⟩, ⟨1, 0, [97], [65], 1⟩, ⟨1, 0, [98], [66], 1⟩, ⟨0, 0, [97], [97], 1⟩, ⟨0, 0, [98], [98], 1⟩]
  | 3 => [⟨0, 0, [97], [97], 1⟩, ⟨0, 0, [98], [98], 1⟩, ⟨0, 0, [97, 98], [97, 98, 99, 49], 2⟩, ⟨0, 0, [99], [99], 1⟩]
  | 4 => [⟨0, 0, [97], [97], 1⟩, ⟨0, 0, [98], [98], 0⟩, ⟨0, 0, [99], [98], 7⟩, ⟨0, 0, [98], [99], 9⟩]
  | _ => [⟨0, 0, [97], [97], 1⟩, ⟨0, 0, [97], [65], 1⟩, ⟨0, 0, [97, 97], [66], 2⟩, ⟨0, 0, [98], [98], 1⟩, ⟨0, 0, [98], [], 20⟩]
theorem base_valid : ∀ k, k < 6 → validB (baseM k) 1 (baseL k) = true ∧ validB (baseM k) 1 ((baseL k).drop 1) = true ∧ 3 ≤ (baseL k).length ∧ (baseL k).length ≤ 5 := by decide
def BasePost (k : Nat) (w : World) (e : Ending) (w' : World) : Prop := (∃ g, e = .returned (.agg #[.int .i64 (baseM k), .int .u8 1, .slice (some ⟨g, 0, none⟩) (baseL k).length (baseL k).length]) ∧ RlsOwn w' w.heap.size (.slice (some ⟨g, 0, none⟩) (baseL k).length (baseL k).length) (baseL k)) ∧ Below w.heap.size w w'
theorem layB (w : World) : SchBlock (((w.alloc (.cells #[.int .i64 0, .int .u8 0, .slice none 0 0] 24)).alloc (.cells #[.int .i64 1, .int .u8 1, .slice none 0 0] 24)).alloc (.cells #[.int .i64 0, .int .i64 0] 109)) w.heap.size (.int .i64 0) (.int .u8 0) (.slice none 0 0) ∧ SchBlock (((w.alloc (.cells #[.int .i64 0, .int .u8 0, .slice none 0 0] 24)).alloc (.cells #[.int .i64 1, .int .u8 1, .slice none 0 0] 24)).alloc (.cells #[.int .i64 0, .int .i64 0] 109)) (w.heap.size + 1) (.int .i64 1) (.int .u8 1) (.slice none 0 0) ∧ PrBlock (((w.alloc (.cells #[.int .i64 0, .int .u8 0, .slice none 0 0] 24)).alloc (.cells #[.int .i64 1, .int .u8 1, .slice none 0 0] 24)).alloc (.cells #[.int .i64 0, .int .i64 0] 109)) (w.heap.size + 1 + 1) 0 0 ∧ Below w.heap.size w (((w.alloc (.cells #[.int .i64 0, .int .u8 0, .slice none 0 0] 24)).alloc (.cells #[.int .i64 1, .int .u8 1, .slice none 0 0] 24)).alloc (.cells #[.int .i64 0, .int .i64 0] 109)) := by
  have e1 : (w.alloc (.cells #[.int .i64 0, .int .u8 0, .slice none 0 0] 24)).heap.size = w.heap.size + 1 := World.size_alloc _ _
  have e2 : ((w.alloc (.cells #[.int .i64 0, .int .u8 0, .slice none 0 0] 24)).alloc (.cells #[.int .i64 1, .int .u8 1, .slice none 0 0] 24)).heap.size = w.heap.size + 1 + 1 := by rw [World.size_alloc, e1]
  have k0 := SchBlock.new w (.int .i64 0) (.int .u8 0) (.slice none 0 0)
  have k1 : SchBlock ((w.alloc (.cells #[.int .i64 0, .int .u8 0, .slice none 0 0] 24)).alloc (.cells #[.int .i64 1, .int .u8 1, .slice none 0 0] 24)) (w.heap.size + 1) (.int .i64 1) (.int .u8 1) (.slice none 0 0) := by have := SchBlock.new (w.alloc (.cells #[.int .i64 0, .int .u8 0, .slice none 0 0] 24)) (.int .i64 1) (.int .u8 1) (.slice none 0 0); rwa [e1] at this
  have k2 : PrBlock (((w.alloc (.cells #[.int .i64 0, .int .u8 0, .slice none 0 0] 24)).alloc (.cells #[.int .i64 1, .int .u8 1, .slice none 0 0] 24)).alloc (.cells #[.int .i64 0, .int .i64 0] 109)) (w.heap.size + 1 + 1) 0 0 := by have := heap_alloc_new ((w.alloc (.cells #[.int .i64 0, .int .u8 0, .slice none 0 0] 24)).alloc (.cells #[.int .i64 1, .int .u8 1, .slice none 0 0] 24)) (.cells #[.int .i64 0, .int .i64 0] 109); rw [e2] at this; exact this
  exact ⟨(k0.alloc _).alloc _, k1.alloc _, k2, ((((Below.refl _ _).alloc (Nat.le_refl _) _).alloc (by omega) _).alloc (by omega) _)⟩
set_option maxHeartbeats 1000000 in
set_option maxRecDepth 100000 in
theorem Base_0 (x : Int) (w : World) (hx : x.tmod 6 = 0) : Calls Tryd.prog 51 #[.int .u8 x] w (BasePost 0 w) := by
  obtain ⟨k0, k1, k2, hb⟩ := layB w
  have HB := Lib.hid hb
  have SB0 := Lib.hid k0
  have SB1 := Lib.hid k1
  have PB := Lib.hid k2
  have hk1 := k1.lt
  clear k0 k1 k2 hb
  go_enter Tryd.func51, Tryd.ntmps51
  go_upto_region 6 with fail
  generalize ((w.alloc _).alloc _).alloc _ = x1 at *
  have CJ : ∀ W, Below x1.heap.size x1 W → W.cell? ⟨w.heap.size + 1 + 1, 0, none⟩ = some (.int .i64 0) ∧ W.cell? ⟨w.heap.size + 1 + 1, 1, none⟩ = some (.int .i64 0) ∧ Below x1.heap.size x1 W := fun W hb => ⟨(PB.out.below hb).cells.1, (PB.out.below hb).cells.2, hb⟩
  have C0 : ∀ W, (W.cell? ⟨w.heap.size + 1 + 1, 0, none⟩ = some (.int .i64 0) ∧ W.cell? ⟨w.heap.size + 1 + 1, 1, none⟩ = some (.int .i64 0) ∧ Below x1.heap.size x1 W) → Calls Tryd.prog 82 #[.agg #[.int .i64 0, .int .i64 0], .string ⟨#[97]⟩, .string ⟨#[97]⟩] W fun e w' => e = .returned (.agg #[.int .i64 0, .int .i64 0, .string ⟨#[97]⟩, .string ⟨#[97]⟩, .int .i64 1]) ∧ (w'.cell? ⟨w.heap.size + 1 + 1, 0, none⟩ = some (.int .i64 0) ∧ w'.cell? ⟨w.heap.size + 1 + 1, 1, none⟩ = some (.int .i64 0) ∧ Below x1.heap.size x1 w') := fun W h => (simple_any 0 0 ⟨#[97]⟩ ⟨#[97]⟩ W).mono fun e w' h' => ⟨h'.1, CJ w' (h.2.2.trans (h'.2.mono h.2.2.size))⟩
  have C1 : ∀ W, (W.cell? ⟨w.heap.size + 1 + 1, 0, none⟩ = some (.int .i64 0) ∧ W.cell? ⟨w.heap.size + 1 + 1, 1, none⟩ = some (.int .i64 0) ∧ Below x1.heap.size x1 W) → Calls Tryd.prog 82 #[.agg #[.int .i64 0, .int .i64 0], .string ⟨#[98]⟩, .string ⟨#[98]⟩] W fun e w' => e = .returned (.agg #[.int .i64 0, .int .i64 0, .string ⟨#[98]⟩, .string ⟨#[98]⟩, .int .i64 1]) ∧ (w'.cell? ⟨w.heap.size + 1 + 1, 0, none⟩ = some (.int .i64 0) ∧ w'.cell? ⟨w.heap.size + 1 + 1, 1, none⟩ = some (.int .i64 0) ∧ Below x1.heap.size x1 w') := fun W h => (simple_any 0 0 ⟨#[98]⟩ ⟨#[98]⟩ W).mono fun e w' h' => ⟨h'.1, CJ w' (h.2.2.trans (h'.2.mono h.2.2.size))⟩
  have C2 : ∀ W, (W.cell? ⟨w.heap.size + 1 + 1, 0, none⟩ = some (.int .i64 0) ∧ W.cell? ⟨w.heap.size + 1 + 1, 1, none⟩ = some (.int .i64 0) ∧ Below x1.heap.size x1 W) → Calls Tryd.prog 82 #[.agg #[.int .i64 0, .int .i64 0], .string ⟨#[99]⟩, .string ⟨#[99]⟩] W fun e w' => e = .returned (.agg #[.int .i64 0, .int .i64 0, .string ⟨#[99]⟩, .string ⟨#[99]⟩, .int .i64 1]) ∧ (w'.cell? ⟨w.heap.size + 1 + 1, 0, none⟩ = some (.int .i64 0) ∧ w'.cell? ⟨w.heap.size + 1 + 1, 1, none⟩ = some (.int .i64 0) ∧ Below x1.heap.size x1 w') := fun W h => (simple_any 0 0 ⟨#[99]⟩ ⟨#[99]⟩ W).mono fun e w' h' => ⟨h'.1, CJ w' (h.2.2.trans (h'.2.mono h.2.2.size))⟩
  refine wp_region_qp (m := False) (pc := []) (C := fun W => W.cell? ⟨w.heap.size + 1 + 1, 0, none⟩ = some (.int .i64 0) ∧ W.cell? ⟨w.heap.size + 1 + 1, 1, none⟩ = some (.int .i64 0) ∧ Below x1.heap.size x1 W) 6 (by kernel_rfl) (by kernel_rfl) (CJ _ (Below.refl _ _).drew) (fun h => h.elim) ?_
  simp only [List.take_succ_cons, List.take_zero, List.drop_succ_cons, List.drop_zero]
  repeat (refine wpQP_step rfl ?_; intro K hK; first | (refine quiet_value ?_ (fun W h => ?_) ?_; rotate_left; (· obtain ⟨s0, s1, hb2⟩ := h; go_simp; rfl); go_simp; go_big_quiet_on) | (refine quiet_call _ _ _ (fun W => ?_) C0 ?_; (· go_simp; done); go_simp; go_big_quiet_on) | (refine quiet_call _ _ _ (fun W => ?_) C1 ?_; (· go_simp; done); go_simp; go_big_quiet_on) | (refine quiet_call _ _ _ (fun W => ?_) C2 ?_; (· go_simp; done); go_simp; go_big_quiet_on))
  refine wpQP_nil ?_
  rintro - x2 ⟨-, -, hb⟩
  have HB2 := Lib.hid (HB.out.trans (hb.mono HB.out.size))
  have S0 := SB0.out.below hb
  have S1 := SB1.out.below hb
  have hle := hb.size
  clear hb C0 C1 C2 CJ SB0 SB1 PB HB
  have hs0 := S0.lt
  have hs1 := S1.lt
  obtain ⟨q0, q1, q2⟩ := S1.cells
  have zf := S1.free
  have es : (x2.setCell ⟨w.heap.size + 1, 2, none⟩ (.slice (some ⟨x2.heap.size, 0, none⟩) 3 3)).heap.size = x2.heap.size := by simp
  have F3 : RlsOwn ((x2.setCell ⟨w.heap.size + 1, 2, none⟩ (.slice (some ⟨x2.heap.size, 0, none⟩) 3 3)).alloc (.cells #[.int .i64 0, .int .i64 0, .string ⟨#[97]⟩, .string ⟨#[97]⟩, .int .i64 1, .int .i64 0, .int .i64 0, .string ⟨#[98]⟩, .string ⟨#[98]⟩, .int .i64 1, .int .i64 0, .int .i64 0, .string ⟨#[99]⟩, .string ⟨#[99]⟩, .int .i64 1] 29)) (w.heap.size + 2) (.slice (some ⟨x2.heap.size, 0, none⟩) 3 3) (baseL 0) := by
    have := RlsOwn.fresh (x2.setCell ⟨w.heap.size + 1, 2, none⟩ (.slice (some ⟨x2.heap.size, 0, none⟩) 3 3)) (baseL 0) #[.int .i64 0, .int .i64 0, .string ⟨#[97]⟩, .string ⟨#[97]⟩, .int .i64 1, .int .i64 0, .int .i64 0, .string ⟨#[98]⟩, .string ⟨#[98]⟩, .int .i64 1, .int .i64 0, .int .i64 0, .string ⟨#[99]⟩, .string ⟨#[99]⟩, .int .i64 1] 3 (w.heap.size + 2) rfl rfl (by decide) (by rw [es]; omega)
    rwa [es] at this
  have F3 := Lib.hid F3
  have T0 := (S0.setCellAt (b' := w.heap.size + 1) (o := 2) (u := .slice (some ⟨x2.heap.size, 0, none⟩) 3 3) (by omega)).alloc (.cells #[.int .i64 0, .int .i64 0, .string ⟨#[97]⟩, .string ⟨#[97]⟩, .int .i64 1, .int .i64 0, .int .i64 0, .string ⟨#[98]⟩, .string ⟨#[98]⟩, .int .i64 1, .int .i64 0, .int .i64 0, .string ⟨#[99]⟩, .string ⟨#[99]⟩, .int .i64 1] 29)
  have T1 := Lib.hid ((S1.put2 (v := .slice (some ⟨x2.heap.size, 0, none⟩) 3 3)).alloc (.cells #[.int .i64 0, .int .i64 0, .string ⟨#[97]⟩, .string ⟨#[97]⟩, .int .i64 1, .int .i64 0, .int .i64 0, .string ⟨#[98]⟩, .string ⟨#[98]⟩, .int .i64 1, .int .i64 0, .int .i64 0, .string ⟨#[99]⟩, .string ⟨#[99]⟩, .int .i64 1] 29))
  have HB3 := Lib.hid ((HB2.out.setCell (p := ⟨w.heap.size + 1, 2, none⟩) (by simp) (.slice (some ⟨x2.heap.size, 0, none⟩) 3 3)).alloc (by rw [es]; exact HB2.out.size) (.cells #[.int .i64 0, .int .i64 0, .string ⟨#[97]⟩, .string ⟨#[97]⟩, .int .i64 1, .int .i64 0, .int .i64 0, .string ⟨#[98]⟩, .string ⟨#[98]⟩, .int .i64 1, .int .i64 0, .int .i64 0, .string ⟨#[99]⟩, .string ⟨#[99]⟩, .int .i64 1] 29))
  clear es S0 S1
  go_upto_region 15 with fail
  clear q0 q1 q2 zf
  generalize World.alloc _ _ = x3 at *
  generalize x2.heap.size = g2 at *
  obtain ⟨t0, t1, t2⟩ := T1.out.cells
  go_wp2_with (first | (refine wpList_store_sch rfl _ _ rfl _ _ _ _ T0 rfl _ _ _ _ _ rfl ?_; intro W' hB' hg' hs'))
  refine ret_sch rfl rfl rfl hB' ?_
  refine ⟨⟨_, rfl, (F3.out.keep fun g hg hl => hg'.block g hl (by simp; omega)).base (by omega)⟩, HB3.out.grown hg' HB3.out.size (by simp)⟩
set_option maxHeartbeats 1000000 in
set_option maxRecDepth 100000 in
theorem Base_1 (x : Int) (w : World) (hx : x.tmod 6 = 1) : Calls Tryd.prog 51 #[.int .u8 x] w (BasePost 1 w) := by
  obtain ⟨k0, k1, k2, hb⟩ := layB w
  have HB := Lib.hid hb
  have SB0 := Lib.hid k0
  have SB1 := Lib.hid k1
  have PB := Lib.hid k2
  have hk1 := k1.lt
  clear k0 k1 k2 hb
  go_enter Tryd.func51, Tryd.ntmps51
  go_upto_region 8 with fail
  generalize ((w.alloc _).alloc _).alloc _ = x1 at *
  have CJ : ∀ W, Below x1.heap.size x1 W → W.cell? ⟨w.heap.size + 1 + 1, 0, none⟩ = some (.int .i64 0) ∧ W.cell? ⟨w.heap.size + 1 + 1, 1, none⟩ = some (.int .i64 0) ∧ Below x1.heap.size x1 W := fun W hb => ⟨(PB.out.below hb).cells.1, (PB.out.below hb).cells.2, hb⟩
  have C0 : ∀ W, (W.cell? ⟨w.heap.size + 1 + 1, 0, none⟩ = some (.int .i64 0) ∧ W.cell? ⟨w.heap.size + 1 + 1, 1, none⟩ = some (.int .i64 0) ∧ Below x1.heap.size x1 W) → Calls Tryd.prog 82 #[.agg #[.int .i64 0, .int .i64 0], .string ⟨#[97]⟩, .string ⟨#[65]⟩] W fun e w' => e = .returned (.agg #[.int .i64 0, .int .i64 0, .string ⟨#[97]⟩, .string ⟨#[65]⟩, .int .i64 1]) ∧ (w'.cell? ⟨w.heap.size + 1 + 1, 0, none⟩ = some (.int .i64 0) ∧ w'.cell? ⟨w.heap.size + 1 + 1, 1, none⟩ = some (.int .i64 0) ∧ Below x1.heap.size x1 w') := fun W h => (simple_any 0 0 ⟨#[97]⟩ ⟨#[65]⟩ W).mono fun e w' h' => ⟨h'.1, CJ w' (h.2.2.trans (h'.2.mono h.2.2.size))⟩
  have C1 : ∀ W, (W.cell? ⟨w.heap.size + 1 + 1, 0, none⟩ = some (.int .i64 0) ∧ W.cell? ⟨w.heap.size + 1 + 1, 1, none⟩ = some (.int .i64 0) ∧ Below x1.heap.size x1 W) → Calls Tryd.prog 82 #[.agg #[.int .i64 0, .int .i64 0], .string ⟨#[98, 97]⟩, .string ⟨#[66]⟩] W fun e w' => e = .returned (.agg #[.int .i64 0, .int .i64 0, .string ⟨#[98, 97]⟩, .string ⟨#[66]⟩, .int .i64 2]) ∧ (w'.cell? ⟨w.heap.size + 1 + 1, 0, none⟩ = some (.int .i64 0) ∧ w'.cell? ⟨w.heap.size + 1 + 1, 1, none⟩ = some (.int .i64 0) ∧ Below x1.heap.size x1 w') := fun W h => (simple_any 0 0 ⟨#[98, 97]⟩ ⟨#[66]⟩ W).mono fun e w' h' => ⟨h'.1, CJ w' (h.2.2.trans (h'.2.mono h.2.2.size))⟩
  have C2 : ∀ W, (W.cell? ⟨w.heap.size + 1 + 1, 0, none⟩ = some (.int .i64 0) ∧ W.cell? ⟨w.heap.size + 1 + 1, 1, none⟩ = some (.int .i64 0) ∧ Below x1.heap.size x1 W) → Calls Tryd.prog 82 #[.agg #[.int .i64 0, .int .i64 0], .string ⟨#[99, 97]⟩, .string ⟨#[67]⟩] W fun e w' => e = .returned (.agg #[.int .i64 0, .int .i64 0, .string ⟨#[99, 97]⟩, .string ⟨#[67]⟩, .int .i64 2]) ∧ (w'.cell? ⟨w.heap.size + 1 + 1, 0, none⟩ = some (.int .i64 0) ∧ w'.cell? ⟨w.heap.size + 1 + 1, 1, none⟩ = some (.int .i64 0) ∧ Below x1.heap.size x1 w') := fun W h => (simple_any 0 0 ⟨#[99, 97]⟩ ⟨#[67]⟩ W).mono fun e w' h' => ⟨h'.1, CJ w' (h.2.2.trans (h'.2.mono h.2.2.size))⟩
  have C3 : ∀ W, (W.cell? ⟨w.heap.size + 1 + 1, 0, none⟩ = some (.int .i64 0) ∧ W.cell? ⟨w.heap.size + 1 + 1, 1, none⟩ = some (.int .i64 0) ∧ Below x1.heap.size x1 W) → Calls Tryd.prog 82 #[.agg #[.int .i64 0, .int .i64 0], .string ⟨#[98]⟩, .string ⟨#[98]⟩] W fun e w' => e = .returned (.agg #[.int .i64 0, .int .i64 0, .string ⟨#[98]⟩, .string ⟨#[98]⟩, .int .i64 1]) ∧ (w'.cell? ⟨w.heap.size + 1 + 1, 0, none⟩ = some (.int .i64 0) ∧ w'.cell? ⟨w.heap.size + 1 + 1, 1, none⟩ = some (.int .i64 0) ∧ Below x1.heap.size x1 w') := fun W h => (simple_any 0 0 ⟨#[98]⟩ ⟨#[98]⟩ W).mono fun e w' h' => ⟨h'.1, CJ w' (h.2.2.trans (h'.2.mono h.2.2.size))⟩
  refine wp_region_qp (m := False) (pc := []) (C := fun W => W.cell? ⟨w.heap.size + 1 + 1, 0, none⟩ = some (.int .i64 0) ∧ W.cell? ⟨w.heap.size + 1 + 1, 1, none⟩ = some (.int .i64 0) ∧ Below x1.heap.size x1 W) 8 (by kernel_rfl) (by kernel_rfl) (CJ _ (Below.refl _ _).drew) (fun h => h.elim) ?_
  simp only [List.take_succ_cons, List.take_zero, List.drop_succ_cons, List.drop_zero]
  repeat (refine wpQP_step rfl ?_; intro K hK; first | (refine quiet_value ?_ (fun W h => ?_) ?_; rotate_left; (· obtain ⟨s0, s1, hb2⟩ := h; go_simp; rfl); go_simp; go_big_quiet_on) | (refine quiet_call _ _ _ (fun W => ?_) C0 ?_; (· go_simp; done); go_simp; go_big_quiet_on) | (refine quiet_call _ _ _ (fun W => ?_) C1 ?_; (· go_simp; done); go_simp; go_big_quiet_on) | (refine quiet_call _ _ _ (fun W => ?_) C2 ?_; (· go_simp; done); go_simp; go_big_quiet_on) | (refine quiet_call _ _ _ (fun W => ?_) C3 ?_; (· go_simp; done); go_simp; go_big_quiet_on))
  refine wpQP_nil ?_
  rintro - x2 ⟨-, -, hb⟩
  have HB2 := Lib.hid (HB.out.trans (hb.mono HB.out.size))
  have S0 := SB0.out.below hb
  have S1 := SB1.out.below hb
  have hle := hb.size
  clear hb C0 C1 C2 C3 CJ SB0 SB1 PB HB
  have hs0 := S0.lt
  have hs1 := S1.lt
  obtain ⟨q0, q1, q2⟩ := S1.cells
  have zf := S1.free
  have es : (x2.setCell ⟨w.heap.size + 1, 2, none⟩ (.slice (some ⟨x2.heap.size, 0, none⟩) 4 4)).heap.size = x2.heap.size := by simp
  have F3 : RlsOwn ((x2.setCell ⟨w.heap.size + 1, 2, none⟩ (.slice (some ⟨x2.heap.size, 0, none⟩) 4 4)).alloc (.cells #[.int .i64 0, .int .i64 0, .string ⟨#[97]⟩, .string ⟨#[65]⟩, .int .i64 1, .int .i64 0, .int .i64 0, .string ⟨#[98, 97]⟩, .string ⟨#[66]⟩, .int .i64 2, .int .i64 0, .int .i64 0, .string ⟨#[99, 97]⟩, .string ⟨#[67]⟩, .int .i64 2, .int .i64 0, .int .i64 0, .string ⟨#[98]⟩, .string ⟨#[98]⟩, .int .i64 1] 29)) (w.heap.size + 2) (.slice (some ⟨x2.heap.size, 0, none⟩) 4 4) (baseL 1) := by
    have := RlsOwn.fresh (x2.setCell ⟨w.heap.size + 1, 2, none⟩ (.slice (some ⟨x2.heap.size, 0, none⟩) 4 4)) (baseL 1) #[.int .i64 0, .int .i64 0, .string ⟨#[97]⟩, .string ⟨#[65]⟩, .int .i64 1, .int .i64 0, .int .i64 0, .string ⟨#[98, 97]⟩, .string ⟨#[66]⟩, .int .i64 2, .int .i64 0, .int .i64 0, .string ⟨#[99, 97]⟩, .string ⟨#[67]⟩, .int .i64 2, .int .i64 0, .int .i64 0, .string ⟨#[98]⟩, .string ⟨#[98]⟩, .int .i64 1] 4 (w.heap.size + 2) rfl rfl (by decide) (by rw [es]; omega)
    rwa [es] at this
  have F3 := Lib.hid F3
  have T0 := (S0.setCellAt (b' := w.heap.size + 1) (o := 2) (u := .slice (some ⟨x2.heap.size, 0, none⟩) 4 4) (by omega)).alloc (.cells #[.int .i64 0, .int .i64 0, .string ⟨#[97]⟩, .string ⟨#[65]⟩, .int .i64 1, .int .i64 0, .int .i64 0, .string ⟨#[98, 97]⟩, .string ⟨#[66]⟩, .int .i64 2, .int .i64 0, .int .i64 0, .string ⟨#[99, 97]⟩, .string ⟨#[67]⟩, .int .i64 2, .int .i64 0, .int .i64 0, .string ⟨#[98]⟩, .string ⟨#[98]⟩, .int .i64 1] 29)
  have T1 := Lib.hid ((S1.put2 (v := .slice (some ⟨x2.heap.size, 0, none⟩) 4 4)).alloc (.cells #[.int .i64 0, .int .i64 0, .string ⟨#[97]⟩, .string ⟨#[65]⟩, .int .i64 1, .int .i64 0, .int .i64 0, .string ⟨#[98, 97]⟩, .string ⟨#[66]⟩, .int .i64 2, .int .i64 0, .int .i64 0, .string ⟨#[99, 97]⟩, .string ⟨#[67]⟩, .int .i64 2, .int .i64 0, .int .i64 0, .string ⟨#[98]⟩, .string ⟨#[98]⟩, .int .i64 1] 29))
  have HB3 := Lib.hid ((HB2.out.setCell (p := ⟨w.heap.size + 1, 2, none⟩) (by simp) (.slice (some ⟨x2.heap.size, 0, none⟩) 4 4)).alloc (by rw [es]; exact HB2.out.size) (.cells #[.int .i64 0, .int .i64 0, .string ⟨#[97]⟩, .string ⟨#[65]⟩, .int .i64 1, .int .i64 0, .int .i64 0, .string ⟨#[98, 97]⟩, .string ⟨#[66]⟩, .int .i64 2, .int .i64 0, .int .i64 0, .string ⟨#[99, 97]⟩, .string ⟨#[67]⟩, .int .i64 2, .int .i64 0, .int .i64 0, .string ⟨#[98]⟩, .string ⟨#[98]⟩, .int .i64 1] 29))
  clear es S0 S1
  go_upto_region 15 with fail
  clear q0 q1 q2 zf
  generalize World.alloc _ _ = x3 at *
  generalize x2.heap.size = g2 at *
  obtain ⟨t0, t1, t2⟩ := T1.out.cells
  go_wp2_with (first | (refine wpList_store_sch rfl _ _ rfl _ _ _ _ T0 rfl _ _ _ _ _ rfl ?_; intro W' hB' hg' hs'))
  refine ret_sch rfl rfl rfl hB' ?_
  refine ⟨⟨_, rfl, (F3.out.keep fun g hg hl => hg'.block g hl (by simp; omega)).base (by omega)⟩, HB3.out.grown hg' HB3.out.size (by simp)⟩
set_option maxHeartbeats 1000000 in
set_option maxRecDepth 100000 in
theorem Base_2 (x : Int) (w : World) (hx : x.tmod 6 = 2) : Calls Tryd.prog 51 #[.int .u8 x] w (BasePost 2 w) := by
  obtain ⟨k0, k1, k2, hb⟩ := layB w
  have HB := Lib.hid hb
  have SB0 := Lib.hid k0
  have SB1 := Lib.hid k1
  have PB := Lib.hid k2
  have hk1 := k1.lt
  clear k0 k1 k2 hb
  go_enter Tryd.func51, Tryd.ntmps51
  go_upto_region 10 with fail
  generalize ((w.alloc _).alloc _).alloc _ = x1 at *
  have CJ : ∀ W, Below x1.heap.size x1 W → W.cell? ⟨w.heap.size + 1 + 1, 0, none⟩ = some (.int .i64 0) ∧ W.cell? ⟨w.heap.size + 1 + 1, 1, none⟩ = some (.int .i64 0) ∧ Below x1.heap.size x1 W := fun W hb => ⟨(PB.out.below hb).cells.1, (PB.out.below hb).cells.2, hb⟩
  have C0 : ∀ W, (W.cell? ⟨w.heap.size + 1 + 1, 0, none⟩ = some (.int .i64 0) ∧ W.cell? ⟨w.heap.size + 1 + 1, 1, none⟩ = some (.int .i64 0) ∧ Below x1.heap.size x1 W) → Calls Tryd.prog 82 #[.agg #[.int .i64 0, .int .i64 1], .string ⟨#[99]⟩, .string ⟨#[]⟩] W fun e w' => e = .returned (.agg #[.int .i64 0, .int .i64 1, .string ⟨#[99]⟩, .string ⟨#[]⟩, .int .i64 1]) ∧ (w'.cell? ⟨w.heap.size + 1 + 1, 0, none⟩ = some (.int .i64 0) ∧ w'.cell? ⟨w.heap.size + 1 + 1, 1, none⟩ = some (.int .i64 0) ∧ Below x1.heap.size x1 w') := fun W h => (simple_any 0 1 ⟨#[99]⟩ ⟨#[]⟩ W).mono fun e w' h' => ⟨h'.1, CJ w' (h.2.2.trans (h'.2.mono h.2.2.size))⟩
  have C1 : ∀ W, (W.cell? ⟨w.heap.size + 1 + 1, 0, none⟩ = some (.int .i64 0) ∧ W.cell? ⟨w.heap.size + 1 + 1, 1, none⟩ = some (.int .i64 0) ∧ Below x1.heap.size x1 W) → Calls Tryd.prog 82 #[.agg #[.int .i64 1, .int .i64 0], .string ⟨#[97]⟩, .string ⟨#[65]⟩] W fun e w' => e = .returned (.agg #[.int .i64 1, .int .i64 0, .string ⟨#[97]⟩, .string ⟨#[65]⟩, .int .i64 1]) ∧ (w'.cell? ⟨w.heap.size + 1 + 1, 0, none⟩ = some (.int .i64 0) ∧ w'.cell? ⟨w.heap.size + 1 + 1, 1, none⟩ = some (.int .i64 0) ∧ Below x1.heap.size x1 w') := fun W h => (simple_any 1 0 ⟨#[97]⟩ ⟨#[65]⟩ W).mono fun e w' h' => ⟨h'.1, CJ w' (h.2.2.trans (h'.2.mono h.2.2.size))⟩
  have C2 : ∀ W, (W.cell? ⟨w.heap.size + 1 + 1, 0, none⟩ = some (.int .i64 0) ∧ W.cell? ⟨w.heap.size + 1 + 1, 1, none⟩ = some (.int .i64 0) ∧ Below x1.heap.size x1 W) → Calls Tryd.prog 82 #[.agg #[.int .i64 1, .int .i64 0], .string ⟨#[98]⟩, .string ⟨#[66]⟩] W fun e w' => e = .returned (.agg #[.int .i64 1, .int .i64 0, .string ⟨#[98]⟩, .string ⟨#[66]⟩, .int .i64 1]) ∧ (w'.cell? ⟨w.heap.size + 1 + 1, 0, none⟩ = some (.int .i64 0) ∧ w'.cell? ⟨w.heap.size + 1 + 1, 1, none⟩ = some (.int .i64 0) ∧ Below x1.heap.size x1 w') := fun W h => (simple_any 1 0 ⟨#[98]⟩ ⟨#[66]⟩ W).mono fun e w' h' => ⟨h'.1, CJ w' (h.2.2.trans (h'.2.mono h.2.2.size))⟩
  have C3 : ∀ W, (W.cell? ⟨w.heap.size + 1 + 1, 0, none⟩ = some (.int .i64 0) ∧ W.cell? ⟨w.heap.size + 1 + 1, 1, none⟩ = some (.int .i64 0) ∧ Below x1.heap.size x1 W) → Calls Tryd.prog 82 #[.agg #[.int .i64 0, .int .i64 0], .string ⟨#[97]⟩, .string ⟨#[97]⟩] W fun e w' => e = .returned (.agg #[.int .i64 0, .int .i64 0, .string ⟨#[97]⟩, .string ⟨#[97]⟩, .int .i64 1]) ∧ (w'.cell? ⟨w.heap.size + 1 + 1, 0, none⟩ = some (.int .i64 0) ∧ w'.cell? ⟨w.heap.size + 1 + 1, 1, none⟩ = some (.int .i64 0) ∧ Below x1.heap.size x1 w') := fun W h => (simple_any 0 0 ⟨#[97]⟩ ⟨#[97]⟩ W).mono fun e w' h' => ⟨h'.1, CJ w' (h.2.2.trans (h'.2.mono h.2.2.size))⟩
  have C4 : ∀ W, (W.cell? ⟨w.heap.size + 1 + 1, 0, none⟩ = some (.int .i64 0) ∧ W.cell? ⟨w.heap.size + 1 + 1, 1, none⟩ = some (.int .i64 0) ∧ Below x1.heap.size x1 W) → Calls Tryd.prog 82 #[.agg #[.int .i64 0, .int .i64 0], .string ⟨#[98]⟩, .string ⟨#[98]⟩] W fun e w' => e = .returned (.agg #[.int .i64 0, .int .i64 0, .string ⟨#[98]⟩, .string ⟨#[98]⟩, .int .i64 1]) ∧ (w'.cell? ⟨w.heap.size + 1 + 1, 0, none⟩ = some (.int .i64 0) ∧ w'.cell? ⟨w.heap.size + 1 + 1, 1, none⟩ = some (.int .i64 0) ∧ Below x1.heap.size x1 w') := fun W h => (simple_any 0 0 ⟨#[98]⟩ ⟨#[98]⟩ W).mono fun e w' h' => ⟨h'.1, CJ w' (h.2.2.trans (h'.2.mono h.2.2.size))⟩
  refine wp_region_qp (m := False) (pc := []) (C := fun W => W.cell? ⟨w.heap.size + 1 + 1, 0, none⟩ = some (.int .i64 0) ∧ W.cell? ⟨w.heap.size + 1 + 1, 1, none⟩ = some (.int .i64 0) ∧ Below x1.heap.size x1 W) 10 (by kernel_rfl) (by kernel_rfl) (CJ _ (Below.refl _ _).drew) (fun h => h.elim) ?_
  simp only [List.take_succ_cons, List.take_zero, List.drop_succ_cons, List.drop_zero]
  repeat (refine wpQP_step rfl ?_; intro K hK; first | (refine quiet_value ?_ (fun W h => ?_) ?_; rotate_left; (· obtain ⟨s0, s1, hb2⟩ := h; go_simp; rfl); go_simp; go_big_quiet_on) | (refine quiet_call _ _ _ (fun W => ?_) C0 ?_; (· go_simp; done); go_simp; go_big_quiet_on) | (refine quiet_call _ _ _ (fun W => ?_) C1 ?_; (· go_simp; done); go_simp; go_big_quiet_on) | (refine quiet_call _ _ _ (fun W => ?_) C2 ?_; (· go_simp; done); go_simp; go_big_quiet_on) | (refine quiet_call _ _ _ (fun W => ?_) C3 ?_; (· go_simp; done); go_simp; go_big_quiet_on) | (refine quiet_call _ _ _ (fun W => ?_) C4 ?_; (· go_simp; done); go_simp; go_big_quiet_on))
  refine wpQP_nil ?_
  rintro - x2 ⟨-, -, hb⟩
  have HB2 := Lib.hid (HB.out.trans (hb.mono HB.out.size))
  have S0 := SB0.out.below hb
  have S1 := SB1.out.below hb
  have hle := hb.size
  clear hb C0 C1 C2 C3 C4 CJ SB0 SB1 PB HB
  have hs0 := S0.lt
  have hs1 := S1.lt
  have F3 := Lib.hid (RlsOwn.fresh x2 (baseL 2) #[.int .i64 0, .int .i64 1, .string ⟨#[99]⟩, .string ⟨#[]⟩, .int .i64 1, .int .i64 1, .int .i64 0, .string ⟨#[97]⟩, .string ⟨#[65]⟩, .int .i64 1, .int .i64 1, .int .i64 0, .string ⟨#[98]⟩, .string ⟨#[66]⟩, .int .i64 1, .int .i64 0, .int .i64 0, .string ⟨#[97]⟩, .string ⟨#[97]⟩, .int .i64 1, .int .i64 0, .int .i64 0, .string ⟨#[98]⟩, .string ⟨#[98]⟩, .int .i64 1] 5 (w.heap.size + 2) rfl rfl (by decide) (by omega))
  have T0 := Lib.hid (S0.alloc (.cells #[.int .i64 0, .int .i64 1, .string ⟨#[99]⟩, .string ⟨#[]⟩, .int .i64 1, .int .i64 1, .int .i64 0, .string ⟨#[97]⟩, .string ⟨#[65]⟩, .int .i64 1, .int .i64 1, .int .i64 0, .string ⟨#[98]⟩, .string ⟨#[66]⟩, .int .i64 1, .int .i64 0, .int .i64 0, .string ⟨#[97]⟩, .string ⟨#[97]⟩, .int .i64 1, .int .i64 0, .int .i64 0, .string ⟨#[98]⟩, .string ⟨#[98]⟩, .int .i64 1] 29))
  have T1 := S1.alloc (.cells #[.int .i64 0, .int .i64 1, .string ⟨#[99]⟩, .string ⟨#[]⟩, .int .i64 1, .int .i64 1, .int .i64 0, .string ⟨#[97]⟩, .string ⟨#[65]⟩, .int .i64 1, .int .i64 1, .int .i64 0, .string ⟨#[98]⟩, .string ⟨#[66]⟩, .int .i64 1, .int .i64 0, .int .i64 0, .string ⟨#[97]⟩, .string ⟨#[97]⟩, .int .i64 1, .int .i64 0, .int .i64 0, .string ⟨#[98]⟩, .string ⟨#[98]⟩, .int .i64 1] 29)
  have HB3 := Lib.hid (HB2.out.alloc HB2.out.size (.cells #[.int .i64 0, .int .i64 1, .string ⟨#[99]⟩, .string ⟨#[]⟩, .int .i64 1, .int .i64 1, .int .i64 0, .string ⟨#[97]⟩, .string ⟨#[65]⟩, .int .i64 1, .int .i64 1, .int .i64 0, .string ⟨#[98]⟩, .string ⟨#[66]⟩, .int .i64 1, .int .i64 0, .int .i64 0, .string ⟨#[97]⟩, .string ⟨#[97]⟩, .int .i64 1, .int .i64 0, .int .i64 0, .string ⟨#[98]⟩, .string ⟨#[98]⟩, .int .i64 1] 29))
  clear S0 S1 HB2
  go_upto_region 15 with (first | (refine wpList_store_sch rfl _ _ rfl _ _ _ _ T1 rfl _ _ _ _ _ rfl ?_; intro W1 hB1 hg1 hs2; clear T1))
  have T0' := T0.out.kept hg1 (by omega)
  have F4 := Lib.hid (F3.out.keep fun g hg hl => hg1.block g hl (by simp; omega))
  have HB4 := Lib.hid (HB3.out.grown hg1 HB3.out.size (by simp))
  clear T0 F3 HB3 hs2 hg1
  obtain ⟨t0, t1, t2⟩ := hB1.cells
  go_wp2_with (first | (refine wpList_store_sch rfl _ _ rfl _ _ _ _ T0' rfl _ _ _ _ _ rfl ?_; intro W' hB' hg' hs'))
  refine ret_sch rfl rfl rfl hB' ?_
  refine ⟨⟨_, rfl, (F4.out.keep fun g hg hl => hg'.block g hl (by simp; omega)).base (by omega)⟩, HB4.out.grown hg' HB4.out.size (by simp)⟩
set_option maxHeartbeats 1000000 in
set_option maxRecDepth 100000 in
theorem Base_3 (x : Int) (w : World) (hx : x.tmod 6 = 3) : Calls Tryd.prog 51 #[.int .u8 x] w (BasePost 3 w) := by
  obtain ⟨k0, k1, k2, hb⟩ := layB w
  have HB := Lib.hid hb
  have SB0 := Lib.hid k0
  have SB1 := Lib.hid k1
  have PB := Lib.hid k2
  have hk1 := k1.lt
  clear k0 k1 k2 hb
  go_enter Tryd.func51, Tryd.ntmps51
  go_upto_region 12 with fail
  generalize ((w.alloc _).alloc _).alloc _ = x1 at *
  have CJ : ∀ W, Below x1.heap.size x1 W → W.cell? ⟨w.heap.size + 1 + 1, 0, none⟩ = some (.int .i64 0) ∧ W.cell? ⟨w.heap.size + 1 + 1, 1, none⟩ = some (.int .i64 0) ∧ Below x1.heap.size x1 W := fun W hb => ⟨(PB.out.below hb).cells.1, (PB.out.below hb).cells.2, hb⟩
  have C0 : ∀ W, (W.cell? ⟨w.heap.size + 1 + 1, 0, none⟩ = some (.int .i64 0) ∧ W.cell? ⟨w.heap.size + 1 + 1, 1, none⟩ = some (.int .i64 0) ∧ Below x1.heap.size x1 W) → Calls Tryd.prog 82 #[.agg #[.int .i64 0, .int .i64 0], .string ⟨#[97]⟩, .string ⟨#[97]⟩] W fun e w' => e = .returned (.agg #[.int .i64 0, .int .i64 0, .string ⟨#[97]⟩, .string ⟨#[97]⟩, .int .i64 1]) ∧ (w'.cell? ⟨w.heap.size + 1 + 1, 0, none⟩ = some (.int .i64 0) ∧ w'.cell? ⟨w.heap.size + 1 + 1, 1, none⟩ = some (.int .i64 0) ∧ Below x1.heap.size x1 w') := fun W h => (simple_any 0 0 ⟨#[97]⟩ ⟨#[97]⟩ W).mono fun e w' h' => ⟨h'.1, CJ w' (h.2.2.trans (h'.2.mono h.2.2.size))⟩
  have C1 : ∀ W, (W.cell? ⟨w.heap.size + 1 + 1, 0, none⟩ = some (.int .i64 0) ∧ W.cell? ⟨w.heap.size + 1 + 1, 1, none⟩ = some (.int .i64 0) ∧ Below x1.heap.size x1 W) → Calls Tryd.prog 82 #[.agg #[.int .i64 0, .int .i64 0], .string ⟨#[98]⟩, .string ⟨#[98]⟩] W fun e w' => e = .returned (.agg #[.int .i64 0, .int .i64 0, .string ⟨#[98]⟩, .string ⟨#[98]⟩, .int .i64 1]) ∧ (w'.cell? ⟨w.heap.size + 1 + 1, 0, none⟩ = some (.int .i64 0) ∧ w'.cell? ⟨w.heap.size + 1 + 1, 1, none⟩ = some (.int .i64 0) ∧ Below x1.heap.size x1 w') := fun W h => (simple_any 0 0 ⟨#[98]⟩ ⟨#[98]⟩ W).mono fun e w' h' => ⟨h'.1, CJ w' (h.2.2.trans (h'.2.mono h.2.2.size))⟩
  have C2 : ∀ W, (W.cell? ⟨w.heap.size + 1 + 1, 0, none⟩ = some (.int .i64 0) ∧ W.cell? ⟨w.heap.size + 1 + 1, 1, none⟩ = some (.int .i64 0) ∧ Below x1.heap.size x1 W) → Calls Tryd.prog 82 #[.agg #[.int .i64 0, .int .i64 0], .string ⟨#[97, 98]⟩, .string ⟨#[97, 98, 99, 49]⟩] W fun e w' => e = .returned (.agg #[.int .i64 0, .int .i64 0, .string ⟨#[97, 98]⟩, .string ⟨#[97, 98, 99, 49]⟩, .int .i64 2]) ∧ (w'.cell? ⟨w.heap.size + 1 + 1, 0, none⟩ = some (.int .i64 0) ∧ w'.cell? ⟨w.heap.size + 1 + 1, 1, none⟩ = some (.int .i64 0) ∧ Below x1.heap.size x1 w') := fun W h => (simple_any 0 0 ⟨#[97, 98]⟩ ⟨#[97, 98, 99, 49]⟩ W).mono fun e w' h' => ⟨h'.1, CJ w' (h.2.2.trans (h'.2.mono h.2.2.size))⟩
  have C3 : ∀ W, (W.cell? ⟨w.heap.size + 1 + 1, 0, none⟩ = some (.int .i64 0) ∧ W.cell? ⟨w.heap.size + 1 + 1, 1, none⟩ = some (.int .i64 0) ∧ Below x1.heap.size x1 W) → Calls Tryd.prog 82 #[.agg #[.int .i64 0, .int .i64 0], .string ⟨#[99]⟩, .string ⟨#[99]⟩] W fun e w' => e = .returned (.agg #[.int .i64 0, .int .i64 0, .string ⟨#[99]⟩, .string ⟨#[99]⟩, .int .i64 1]) ∧ (w'.cell? ⟨w.heap.size + 1 + 1, 0, none⟩ = some (.int .i64 0) ∧ w'.cell? ⟨w.heap.size + 1 + 1, 1, none⟩ = some (.int .i64 0) ∧ Below x1.heap.size x1 w') := fun W h => (simple_any 0 0 ⟨#[99]⟩ ⟨#[99]⟩ W).mono fun e w' h' => ⟨h'.1, CJ w' (h.2.2.trans (h'.2.mono h.2.2.size))⟩
  refine wp_region_qp (m := False) (pc := []) (C := fun W => W.cell? ⟨w.heap.size + 1 + 1, 0, none⟩ = some (.int .i64 0) ∧ W.cell? ⟨w.heap.size + 1 + 1, 1, none⟩ = some (.int .i64 0) ∧ Below x1.heap.size x1 W) 8 (by kernel_rfl) (by kernel_rfl) (CJ _ (Below.refl _ _).drew) (fun h => h.elim) ?_
  simp only [List.take_succ_cons, List.take_zero, List.drop_succ_cons, List.drop_zero]
  repeat (refine wpQP_step rfl ?_; intro K hK; first | (refine quiet_value ?_ (fun W h => ?_) ?_; rotate_left; (· obtain ⟨s0, s1, hb2⟩ := h; go_simp; rfl); go_simp; go_big_quiet_on) | (refine quiet_call _ _ _ (fun W => ?_) C0 ?_; (· go_simp; done); go_simp; go_big_quiet_on) | (refine quiet_call _ _ _ (fun W => ?_) C1 ?_; (· go_simp; done); go_simp; go_big_quiet_on) | (refine quiet_call _ _ _ (fun W => ?_) C2 ?_; (· go_simp; done); go_simp; go_big_quiet_on) | (refine quiet_call _ _ _ (fun W => ?_) C3 ?_; (· go_simp; done); go_simp; go_big_quiet_on))
  refine wpQP_nil ?_
  rintro - x2 ⟨-, -, hb⟩
  have HB2 := Lib.hid (HB.out.trans (hb.mono HB.out.size))
  have S0 := SB0.out.below hb
  have S1 := SB1.out.below hb
  have hle := hb.size
  clear hb C0 C1 C2 C3 CJ SB0 SB1 PB HB
  have hs0 := S0.lt
  have hs1 := S1.lt
  obtain ⟨q0, q1, q2⟩ := S1.cells
  have zf := S1.free
  have es : (x2.setCell ⟨w.heap.size + 1, 2, none⟩ (.slice (some ⟨x2.heap.size, 0, none⟩) 4 4)).heap.size = x2.heap.size := by simp
  have F3 : RlsOwn ((x2.setCell ⟨w.heap.size + 1, 2, none⟩ (.slice (some ⟨x2.heap.size, 0, none⟩) 4 4)).alloc (.cells #[.int .i64 0, .int .i64 0, .string ⟨#[97]⟩, .string ⟨#[97]⟩, .int .i64 1, .int .i64 0, .int .i64 0, .string ⟨#[98]⟩, .string ⟨#[98]⟩, .int .i64 1, .int .i64 0, .int .i64 0, .string ⟨#[97, 98]⟩, .string ⟨#[97, 98, 99, 49]⟩, .int .i64 2, .int .i64 0, .int .i64 0, .string ⟨#[99]⟩, .string ⟨#[99]⟩, .int .i64 1] 29)) (w.heap.size + 2) (.slice (some ⟨x2.heap.size, 0, none⟩) 4 4) (baseL 3) := by
    have := RlsOwn.fresh (x2.setCell ⟨w.heap.size + 1, 2, none⟩ (.slice (some ⟨x2.heap.size, 0, none⟩) 4 4)) (baseL 3) #[.int .i64 0, .int .i64 0, .string ⟨#[97]⟩, .string ⟨#[97]⟩, .int .i64 1, .int .i64 0, .int .i64 0, .string ⟨#[98]⟩, .string ⟨#[98]⟩, .int .i64 1, .int .i64 0, .int .i64 0, .string ⟨#[97, 98]⟩, .string ⟨#[97, 98, 99, 49]⟩, .int .i64 2, .int .i64 0, .int .i64 0, .string ⟨#[99]⟩, .string ⟨#[99]⟩, .int .i64 1] 4 (w.heap.size + 2) rfl rfl (by decide) (by rw [es]; omega)
    rwa [es] at this
  have F3 := Lib.hid F3
  have T0 := (S0.setCellAt (b' := w.heap.size + 1) (o := 2) (u := .slice (some ⟨x2.heap.size, 0, none⟩) 4 4) (by omega)).alloc (.cells #[.int .i64 0, .int .i64 0, .string ⟨#[97]⟩, .string ⟨#[97]⟩, .int .i64 1, .int .i64 0, .int .i64 0, .string ⟨#[98]⟩, .string ⟨#[98]⟩, .int .i64 1, .int .i64 0, .int .i64 0, .string ⟨#[97, 98]⟩, .string ⟨#[97, 98, 99, 49]⟩, .int .i64 2, .int .i64 0, .int .i64 0, .string ⟨#[99]⟩, .string ⟨#[99]⟩, .int .i64 1] 29)
  have T1 := Lib.hid ((S1.put2 (v := .slice (some ⟨x2.heap.size, 0, none⟩) 4 4)).alloc (.cells #[.int .i64 0, .int .i64 0, .string ⟨#[97]⟩, .string ⟨#[97]⟩, .int .i64 1, .int .i64 0, .int .i64 0, .string ⟨#[98]⟩, .string ⟨#[98]⟩, .int .i64 1, .int .i64 0, .int .i64 0, .string ⟨#[97, 98]⟩, .string ⟨#[97, 98, 99, 49]⟩, .int .i64 2, .int .i64 0, .int .i64 0, .string ⟨#[99]⟩, .string ⟨#[99]⟩, .int .i64 1] 29))
  have HB3 := Lib.hid ((HB2.out.setCell (p := ⟨w.heap.size + 1, 2, none⟩) (by simp) (.slice (some ⟨x2.heap.size, 0, none⟩) 4 4)).alloc (by rw [es]; exact HB2.out.size) (.cells #[.int .i64 0, .int .i64 0, .string ⟨#[97]⟩, .string ⟨#[97]⟩, .int .i64 1, .int .i64 0, .int .i64 0, .string ⟨#[98]⟩, .string ⟨#[98]⟩, .int .i64 1, .int .i64 0, .int .i64 0, .string ⟨#[97, 98]⟩, .string ⟨#[97, 98, 99, 49]⟩, .int .i64 2, .int .i64 0, .int .i64 0, .string ⟨#[99]⟩, .string ⟨#[99]⟩, .int .i64 1] 29))
  clear es S0 S1
  go_upto_region 15 with fail
  clear q0 q1 q2 zf
  generalize World.alloc _ _ = x3 at *
  generalize x2.heap.size = g2 at *
  obtain ⟨t0, t1, t2⟩ := T1.out.cells
  go_wp2_with (first | (refine wpList_store_sch rfl _ _ rfl _ _ _ _ T0 rfl _ _ _ _ _ rfl ?_; intro W' hB' hg' hs'))
  refine ret_sch rfl rfl rfl hB' ?_
  refine ⟨⟨_, rfl, (F3.out.keep fun g hg hl => hg'.block g hl (by simp; omega)).base (by omega)⟩, HB3.out.grown hg' HB3.out.size (by simp)⟩
set_option maxHeartbeats 1000000 in
set_option maxRecDepth 100000 in
theorem Base_4 (x : Int) (w : World) (hx : x.tmod 6 = 4) : Calls Tryd.prog 51 #[.int .u8 x] w (BasePost 4 w) := by
  obtain ⟨k0, k1, k2, hb⟩ := layB w
  have HB := Lib.hid hb
  have SB0 := Lib.hid k0
  have SB1 := Lib.hid k1
  have PB := Lib.hid k2
  have hk1 := k1.lt
  clear k0 k1 k2 hb
  go_enter Tryd.func51, Tryd.ntmps51
  go_upto_region 14 with fail
  generalize ((w.alloc _).alloc _).alloc _ = x1 at *
  obtain ⟨p0, p1⟩ := PB.out.cells
  go_wp2_with fail
  refine (simple_any 0 0 ⟨#[97]⟩ ⟨#[97]⟩ x1).mono ?_
  rintro e x2 ⟨rfl, hb⟩
  have HB2 := Lib.hid (HB.out.trans (hb.mono HB.out.size))
  have S0 := SB0.out.below hb
  have S1 := SB1.out.below hb
  have hle := hb.size
  clear hb SB0 SB1 PB HB p0 p1
  have hs0 := S0.lt
  have hs1 := S1.lt
  obtain ⟨q0, q1, q2⟩ := S1.cells
  have zf := S1.free
  have es : (x2.setCell ⟨w.heap.size + 1, 2, none⟩ (.slice (some ⟨x2.heap.size, 0, none⟩) 4 4)).heap.size = x2.heap.size := by simp
  have F3 : RlsOwn ((x2.setCell ⟨w.heap.size + 1, 2, none⟩ (.slice (some ⟨x2.heap.size, 0, none⟩) 4 4)).alloc (.cells #[.int .i64 0, .int .i64 0, .string ⟨#[97]⟩, .string ⟨#[97]⟩, .int .i64 1, .int .i64 0, .int .i64 0, .string ⟨#[98]⟩, .string ⟨#[98]⟩, .int .i64 0, .int .i64 0, .int .i64 0, .string ⟨#[99]⟩, .string ⟨#[98]⟩, .int .i64 7, .int .i64 0, .int .i64 0, .string ⟨#[98]⟩, .string ⟨#[99]⟩, .int .i64 9] 29)) (w.heap.size + 2) (.slice (some ⟨x2.heap.size, 0, none⟩) 4 4) (baseL 4) := by
    have := RlsOwn.fresh (x2.setCell ⟨w.heap.size + 1, 2, none⟩ (.slice (some ⟨x2.heap.size, 0, none⟩) 4 4)) (baseL 4) #[.int .i64 0, .int .i64 0, .string ⟨#[97]⟩, .string ⟨#[97]⟩, .int .i64 1, .int .i64 0, .int .i64 0, .string ⟨#[98]⟩, .string ⟨#[98]⟩, .int .i64 0, .int .i64 0, .int .i64 0, .string ⟨#[99]⟩, .string ⟨#[98]⟩, .int .i64 7, .int .i64 0, .int .i64 0, .string ⟨#[98]⟩, .string ⟨#[99]⟩, .int .i64 9] 4 (w.heap.size + 2) rfl rfl (by decide) (by rw [es]; omega)
    rwa [es] at this
  have F3 := Lib.hid F3
  have T0 := (S0.setCellAt (b' := w.heap.size + 1) (o := 2) (u := .slice (some ⟨x2.heap.size, 0, none⟩) 4 4) (by omega)).alloc (.cells #[.int .i64 0, .int .i64 0, .string ⟨#[97]⟩, .string ⟨#[97]⟩, .int .i64 1, .int .i64 0, .int .i64 0, .string ⟨#[98]⟩, .string ⟨#[98]⟩, .int .i64 0, .int .i64 0, .int .i64 0, .string ⟨#[99]⟩, .string ⟨#[98]⟩, .int .i64 7, .int .i64 0, .int .i64 0, .string ⟨#[98]⟩, .string ⟨#[99]⟩, .int .i64 9] 29)
  have T1 := Lib.hid ((S1.put2 (v := .slice (some ⟨x2.heap.size, 0, none⟩) 4 4)).alloc (.cells #[.int .i64 0, .int .i64 0, .string ⟨#[97]⟩, .string ⟨#[97]⟩, .int .i64 1, .int .i64 0, .int .i64 0, .string ⟨#[98]⟩, .string ⟨#[98]⟩, .int .i64 0, .int .i64 0, .int .i64 0, .string ⟨#[99]⟩, .string ⟨#[98]⟩, .int .i64 7, .int .i64 0, .int .i64 0, .string ⟨#[98]⟩, .string ⟨#[99]⟩, .int .i64 9] 29))
  have HB3 := Lib.hid ((HB2.out.setCell (p := ⟨w.heap.size + 1, 2, none⟩) (by simp) (.slice (some ⟨x2.heap.size, 0, none⟩) 4 4)).alloc (by rw [es]; exact HB2.out.size) (.cells #[.int .i64 0, .int .i64 0, .string ⟨#[97]⟩, .string ⟨#[97]⟩, .int .i64 1, .int .i64 0, .int .i64 0, .string ⟨#[98]⟩, .string ⟨#[98]⟩, .int .i64 0, .int .i64 0, .int .i64 0, .string ⟨#[99]⟩, .string ⟨#[98]⟩, .int .i64 7, .int .i64 0, .int .i64 0, .string ⟨#[98]⟩, .string ⟨#[99]⟩, .int .i64 9] 29))
  clear es S0 S1
  go_upto_region 15 with fail
  clear q0 q1 q2 zf
  generalize World.alloc _ _ = x3 at *
  generalize x2.heap.size = g2 at *
  obtain ⟨t0, t1, t2⟩ := T1.out.cells
  go_wp2_with (first | (refine wpList_store_sch rfl _ _ rfl _ _ _ _ T0 rfl _ _ _ _ _ rfl ?_; intro W' hB' hg' hs'))
  refine ret_sch rfl rfl rfl hB' ?_
  refine ⟨⟨_, rfl, (F3.out.keep fun g hg hl => hg'.block g hl (by simp; omega)).base (by omega)⟩, HB3.out.grown hg' HB3.out.size (by simp)⟩
set_option maxHeartbeats 1000000 in
set_option maxRecDepth 100000 in
theorem Base_5 (x : Int) (w : World) (hx : x.tmod 6 = 5) : Calls Tryd.prog 51 #[.int .u8 x] w (BasePost 5 w) := by
  obtain ⟨k0, k1, k2, hb⟩ := layB w
  have HB := Lib.hid hb
  have SB0 := Lib.hid k0
  have SB1 := Lib.hid k1
  have PB := Lib.hid k2
  have hk1 := k1.lt
  clear k0 k1 k2 hb
  go_enter Tryd.func51, Tryd.ntmps51
  go_upto_region 4 with fail
  generalize ((w.alloc _).alloc _).alloc _ = x1 at *
  have CJ : ∀ W, Below x1.heap.size x1 W → W.cell? ⟨w.heap.size + 1 + 1, 0, none⟩ = some (.int .i64 0) ∧ W.cell? ⟨w.heap.size + 1 + 1, 1, none⟩ = some (.int .i64 0) ∧ Below x1.heap.size x1 W := fun W hb => ⟨(PB.out.below hb).cells.1, (PB.out.below hb).cells.2, hb⟩
  have C0 : ∀ W, (W.cell? ⟨w.heap.size + 1 + 1, 0, none⟩ = some (.int .i64 0) ∧ W.cell? ⟨w.heap.size + 1 + 1, 1, none⟩ = some (.int .i64 0) ∧ Below x1.heap.size x1 W) → Calls Tryd.prog 82 #[.agg #[.int .i64 0, .int .i64 0], .string ⟨#[97]⟩, .string ⟨#[97]⟩] W fun e w' => e = .returned (.agg #[.int .i64 0, .int .i64 0, .string ⟨#[97]⟩, .string ⟨#[97]⟩, .int .i64 1]) ∧ (w'.cell? ⟨w.heap.size + 1 + 1, 0, none⟩ = some (.int .i64 0) ∧ w'.cell? ⟨w.heap.size + 1 + 1, 1, none⟩ = some (.int .i64 0) ∧ Below x1.heap.size x1 w') := fun W h => (simple_any 0 0 ⟨#[97]⟩ ⟨#[97]⟩ W).mono fun e w' h' => ⟨h'.1, CJ w' (h.2.2.trans (h'.2.mono h.2.2.size))⟩
  have C1 : ∀ W, (W.cell? ⟨w.heap.size + 1 + 1, 0, none⟩ = some (.int .i64 0) ∧ W.cell? ⟨w.heap.size + 1 + 1, 1, none⟩ = some (.int .i64 0) ∧ Below x1.heap.size x1 W) → Calls Tryd.prog 82 #[.agg #[.int .i64 0, .int .i64 0], .string ⟨#[97]⟩, .string ⟨#[65]⟩] W fun e w' => e = .returned (.agg #[.int .i64 0, .int .i64 0, .string ⟨#[97]⟩, .string ⟨#[65]⟩, .int .i64 1]) ∧ (w'.cell? ⟨w.heap.size + 1 + 1, 0, none⟩ = some (.int .i64 0) ∧ w'.cell? ⟨w.heap.size + 1 + 1, 1, none⟩ = some (.int .i64 0) ∧ Below x1.heap.size x1 w') := fun W h => (simple_any 0 0 ⟨#[97]⟩ ⟨#[65]⟩ W).mono fun e w' h' => ⟨h'.1, CJ w' (h.2.2.trans (h'.2.mono h.2.2.size))⟩
  have C2 : ∀ W, (W.cell? ⟨w.heap.size + 1 + 1, 0, none⟩ = some (.int .i64 0) ∧ W.cell? ⟨w.heap.size + 1 + 1, 1, none⟩ = some (.int .i64 0) ∧ Below x1.heap.size x1 W) → Calls Tryd.prog 82 #[.agg #[.int .i64 0, .int .i64 0], .string ⟨#[97, 97]⟩, .string ⟨#[66]⟩] W fun e w' => e = .returned (.agg #[.int .i64 0, .int .i64 0, .string ⟨#[97, 97]⟩, .string ⟨#[66]⟩, .int .i64 2]) ∧ (w'.cell? ⟨w.heap.size + 1 + 1, 0, none⟩ = some (.int .i64 0) ∧ w'.cell? ⟨w.heap.size + 1 + 1, 1, none⟩ = some (.int .i64 0) ∧ Below x1.heap.size x1 w') := fun W h => (simple_any 0 0 ⟨#[97, 97]⟩ ⟨#[66]⟩ W).mono fun e w' h' => ⟨h'.1, CJ w' (h.2.2.trans (h'.2.mono h.2.2.size))⟩
  have C3 : ∀ W, (W.cell? ⟨w.heap.size + 1 + 1, 0, none⟩ = some (.int .i64 0) ∧ W.cell? ⟨w.heap.size + 1 + 1, 1, none⟩ = some (.int .i64 0) ∧ Below x1.heap.size x1 W) → Calls Tryd.prog 82 #[.agg #[.int .i64 0, .int .i64 0], .string ⟨#[98]⟩, .string ⟨#[98]⟩] W fun e w' => e = .returned (.agg #[.int .i64 0, .int .i64 0, .string ⟨#[98]⟩, .string ⟨#[98]⟩, .int .i64 1]) ∧ (w'.cell? ⟨w.heap.size + 1 + 1, 0, none⟩ = some (.int .i64 0) ∧ w'.cell? ⟨w.heap.size + 1 + 1, 1, none⟩ = some (.int .i64 0) ∧ Below x1.heap.size x1 w') := fun W h => (simple_any 0 0 ⟨#[98]⟩ ⟨#[98]⟩ W).mono fun e w' h' => ⟨h'.1, CJ w' (h.2.2.trans (h'.2.mono h.2.2.size))⟩
  refine wp_region_qp (m := False) (pc := []) (C := fun W => W.cell? ⟨w.heap.size + 1 + 1, 0, none⟩ = some (.int .i64 0) ∧ W.cell? ⟨w.heap.size + 1 + 1, 1, none⟩ = some (.int .i64 0) ∧ Below x1.heap.size x1 W) 9 (by kernel_rfl) (by kernel_rfl) (CJ _ (Below.refl _ _).drew) (fun h => h.elim) ?_
  simp only [List.take_succ_cons, List.take_zero, List.drop_succ_cons, List.drop_zero]
  repeat (refine wpQP_step rfl ?_; intro K hK; first | (refine quiet_value ?_ (fun W h => ?_) ?_; rotate_left; (· obtain ⟨s0, s1, hb2⟩ := h; go_simp; rfl); go_simp; go_big_quiet_on) | (refine quiet_call _ _ _ (fun W => ?_) C0 ?_; (· go_simp; done); go_simp; go_big_quiet_on) | (refine quiet_call _ _ _ (fun W => ?_) C1 ?_; (· go_simp; done); go_simp; go_big_quiet_on) | (refine quiet_call _ _ _ (fun W => ?_) C2 ?_; (· go_simp; done); go_simp; go_big_quiet_on) | (refine quiet_call _ _ _ (fun W => ?_) C3 ?_; (· go_simp; done); go_simp; go_big_quiet_on))
  refine wpQP_nil ?_
  rintro - x2 ⟨-, -, hb⟩
  have HB2 := Lib.hid (HB.out.trans (hb.mono HB.out.size))
  have S0 := SB0.out.below hb
  have S1 := SB1.out.below hb
  have hle := hb.size
  clear hb C0 C1 C2 C3 CJ SB0 SB1 PB HB
  have hs0 := S0.lt
  have hs1 := S1.lt
  obtain ⟨q0, q1, q2⟩ := S1.cells
  have zf := S1.free
  have es : (x2.setCell ⟨w.heap.size + 1, 2, none⟩ (.slice (some ⟨x2.heap.size, 0, none⟩) 5 5)).heap.size = x2.heap.size := by simp
  have F3 : RlsOwn ((x2.setCell ⟨w.heap.size + 1, 2, none⟩ (.slice (some ⟨x2.heap.size, 0, none⟩) 5 5)).alloc (.cells #[.int .i64 0, .int .i64 0, .string ⟨#[97]⟩, .string ⟨#[97]⟩, .int .i64 1, .int .i64 0, .int .i64 0, .string ⟨#[97]⟩, .string ⟨#[65]⟩, .int .i64 1, .int .i64 0, .int .i64 0, .string ⟨#[97, 97]⟩, .string ⟨#[66]⟩, .int .i64 2, .int .i64 0, .int .i64 0, .string ⟨#[98]⟩, .string ⟨#[98]⟩, .int .i64 1, .int .i64 0, .int .i64 0, .string ⟨#[98]⟩, .string ⟨#[]⟩, .int .i64 20] 29)) (w.heap.size + 2) (.slice (some ⟨x2.heap.size, 0, none⟩) 5 5) (baseL 5) := by
    have := RlsOwn.fresh (x2.setCell ⟨w.heap.size + 1, 2, none⟩ (.slice (some ⟨x2.heap.size, 0, none⟩) 5 5)) (baseL 5) #[.int .i64 0, .int .i64 0, .string ⟨#[97]⟩, .string ⟨#[97]⟩, .int .i64 1, .int .i64 0, .int .i64 0, .string ⟨#[97]⟩, .string ⟨#[65]⟩, .int .i64 1, .int .i64 0, .int .i64 0, .string ⟨#[97, 97]⟩, .string ⟨#[66]⟩, .int .i64 2, .int .i64 0, .int .i64 0, .string ⟨#[98]⟩, .string ⟨#[98]⟩, .int .i64 1, .int .i64 0, .int .i64 0, .string ⟨#[98]⟩, .string ⟨#[]⟩, .int .i64 20] 5 (w.heap.size + 2) rfl rfl (by decide) (by rw [es]; omega)
    rwa [es] at this
  have F3 := Lib.hid F3
  have T0 := (S0.setCellAt (b' := w.heap.size + 1) (o := 2) (u := .slice (some ⟨x2.heap.size, 0, none⟩) 5 5) (by omega)).alloc (.cells #[.int .i64 0, .int .i64 0, .string ⟨#[97]⟩, .string ⟨#[97]⟩, .int .i64 1, .int .i64 0, .int .i64 0, .string ⟨#[97]⟩, .string ⟨#[65]⟩, .int .i64 1, .int .i64 0, .int .i64 0, .string ⟨#[97, 97]⟩, .string ⟨#[66]⟩, .int .i64 2, .int .i64 0, .int .i64 0, .string ⟨#[98]⟩, .string ⟨#[98]⟩, .int .i64 1, .int .i64 0, .int .i64 0, .string ⟨#[98]⟩, .string ⟨#[]⟩, .int .i64 20] 29)
  have T1 := Lib.hid ((S1.put2 (v := .slice (some ⟨x2.heap.size, 0, none⟩) 5 5)).alloc (.cells #[.int .i64 0, .int .i64 0, .string ⟨#[97]⟩, .string ⟨#[97]⟩, .int .i64 1, .int .i64 0, .int .i64 0, .string ⟨#[97]⟩, .string ⟨#[65]⟩, .int .i64 1, .int .i64 0, .int .i64 0, .string ⟨#[97, 97]⟩, .string ⟨#[66]⟩, .int .i64 2, .int .i64 0, .int .i64 0, .string ⟨#[98]⟩, .string ⟨#[98]⟩, .int .i64 1, .int .i64 0, .int .i64 0, .string ⟨#[98]⟩, .string ⟨#[]⟩, .int .i64 20] 29))
  have HB3 := Lib.hid ((HB2.out.setCell (p := ⟨w.heap.size + 1, 2, none⟩) (by simp) (.slice (some ⟨x2.heap.size, 0, none⟩) 5 5)).alloc (by rw [es]; exact HB2.out.size) (.cells #[.int .i64 0, .int .i64 0, .string ⟨#[97]⟩, .string ⟨#[97]⟩, .int .i64 1, .int .i64 0, .int .i64 0, .string ⟨#[97]⟩, .string ⟨#[65]⟩, .int .i64 1, .int .i64 0, .int .i64 0, .string ⟨#[97, 97]⟩, .string ⟨#[66]⟩, .int .i64 2, .int .i64 0, .int .i64 0, .string ⟨#[98]⟩, .string ⟨#[98]⟩, .int .i64 1, .int .i64 0, .int .i64 0, .string ⟨#[98]⟩, .string ⟨#[]⟩, .int .i64 20] 29))
  clear es S0 S1
  go_upto_region 15 with fail
  clear q0 q1 q2 zf
  generalize World.alloc _ _ = x3 at *
  generalize x2.heap.size = g2 at *
  obtain ⟨t0, t1, t2⟩ := T1.out.cells
  go_wp2_with (first | (refine wpList_store_sch rfl _ _ rfl _ _ _ _ T0 rfl _ _ _ _ _ rfl ?_; intro W' hB' hg' hs'))
  refine ret_sch rfl rfl rfl hB' ?_
  refine ⟨⟨_, rfl, (F3.out.keep fun g hg hl => hg'.block g hl (by simp; omega)).base (by omega)⟩, HB3.out.grown hg' HB3.out.size (by simp)⟩
theorem Base_any (x : Int) (w : World) (hx : 0 ≤ x) : Calls Tryd.prog 51 #[.int .u8 x] w fun e w' => ∃ k, k < 6 ∧ BasePost k w e w' := by
  have h1 := Int.tmod_nonneg 6 hx
  have h2 := Int.tmod_lt_of_pos x (show (0 : Int) < 6 by decide)
  rcases (show x.tmod 6 = 0 ∨ x.tmod 6 = 1 ∨ x.tmod 6 = 2 ∨ x.tmod 6 = 3 ∨ x.tmod 6 = 4 ∨ x.tmod 6 = 5 by omega) with h | h | h | h | h | h
  · exact (Base_0 x w h).mono fun e w' h => ⟨0, by decide, h⟩
  · exact (Base_1 x w h).mono fun e w' h => ⟨1, by decide, h⟩
  · exact (Base_2 x w h).mono fun e w' h => ⟨2, by decide, h⟩
  · exact (Base_3 x w h).mono fun e w' h => ⟨3, by decide, h⟩
  · exact (Base_4 x w h).mono fun e w' h => ⟨4, by decide, h⟩
  · exact (Base_5 x w h).mono fun e w' h => ⟨5, by decide, h⟩
end Go.Proofs.YtnbiedijofdjhaaDoor
