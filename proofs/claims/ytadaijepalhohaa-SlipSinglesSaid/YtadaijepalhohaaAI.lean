/-
  The table in memory; tableFor.
-/
import Derived.Test.YtadaijepalhohaaAH
namespace Go.Proofs.Ytadaijepalhohaa
open Go.RowKit
open Pl

/-- All but the named blocks are as they were. -/
structure But (ex : List Nat) (w w' : World) : Prop where
  os : w'.os = w.os
  tape : w'.tape = w.tape
  output : w'.output = w.output
  size : w.heap.size ≤ w'.heap.size
  block : ∀ k, k < w.heap.size → k ∉ ex → w'.heap[k]? = w.heap[k]?
theorem But.refl (ex : List Nat) (w : World) : But ex w w := ⟨rfl, rfl, rfl, Nat.le_refl _, fun _ _ _ => rfl⟩
theorem But.trans {ex : List Nat} {a b c : World} (h : But ex a b) (k : But ex b c) : But ex a c :=
  ⟨k.os.trans h.os, k.tape.trans h.tape, k.output.trans h.output, Nat.le_trans h.size k.size, fun i hi hx => (k.block i (Nat.lt_of_lt_of_le hi h.size) hx).trans (h.block i hi hx)⟩
theorem But.of {ex : List Nat} {w w' : World} (h : Below w.heap.size w w') : But ex w w' := ⟨h.os, h.tape, h.output, h.size, fun k hk _ => h.block k hk⟩
theorem But.more {ex ex' : List Nat} {w w' : World} (h : But ex w w') (hs : ∀ k, k ∈ ex → k ∈ ex') : But ex' w w' := ⟨h.os, h.tape, h.output, h.size, fun k hk hx => h.block k hk (fun e => hx (hs k e))⟩
theorem But.setCell {ex : List Nat} {a w : World} (h : But ex a w) {p : Addr} (hp : p.block ∈ ex) (u : Value) : But ex a (w.setCell p u) :=
  h.trans ⟨rfl, rfl, rfl, by simp [World.setCell], fun k _ hx => Below.heap_setCell _ _ _ _ (fun e => hx (e ▸ hp))⟩
theorem But.alloc {ex : List Nat} {a w : World} (h : But ex a w) (o : Obj) : But ex a (w.alloc o) := h.trans (But.of ((Below.refl _ _).alloc (Nat.le_refl _) o))
theorem But.drew {ex : List Nat} {a w : World} (h : But ex a w) : But ex a w.drew := ⟨h.os, h.tape, h.output, h.size, h.block⟩
theorem But.low {ex : List Nat} {w w' : World} (h : But ex w w') {b : Nat} (hb : b ≤ w.heap.size) (hx : ∀ k, k ∈ ex → b ≤ k) : Below b w w' :=
  ⟨h.os, h.tape, h.output, h.size, fun k hk => h.block k (by omega) (fun e => by have := hx k e; omega)⟩
theorem Blk.but {W W' : World} {b : Nat} {t : TypeId} {vs : List Value} {ex : List Nat} (h : Blk W b t vs) (hb : But ex W W') (hx : b ∉ ex) : Blk W' b t vs := by
  have hlt := h.lt
  unfold Blk at h ⊢; rw [hb.block b hlt hx]; exact h
def intV (x : Int) : Value := .int .i64 x
/-- A block of numbers. -/
abbrev Row (W : World) (b : Nat) (xs : List Int) : Prop := Blk W b 3 (xs.map intV)
theorem Row.get {W : World} {b : Nat} {xs : List Int} (h : Row W b xs) (i : Nat) (hi : i < xs.length) : W.cell? ⟨b, i, none⟩ = some (.int .i64 xs[i]) := by
  rw [Blk.cell h, List.getElem?_map, List.getElem?_eq_getElem hi]; rfl
theorem Row.set {W : World} {b : Nat} {xs : List Int} (h : Row W b xs) (i : Nat) (v : Int) : Row (W.setCell ⟨b, i, none⟩ (.int .i64 v)) b (xs.set i v) := by
  have := Blk.put h i (.int .i64 v)
  unfold Row
  rw [List.map_set]
  exact this
abbrev cloV (bp bl : Nat) : Value := .func (.func 39) #[] #[.pointer (some ⟨bp, 0, none⟩), .pointer (some ⟨bl, 0, none⟩)]
/-- The cells of a table. -/
def tabC (s : Sl) (a : Option Addr) (c bp bl : Nat) (t : ByteArray) (u v x : Value) : List Value :=
  [.int .i64 s.swap, .int .i64 s.drop, .int .i64 s.add, .int .i64 s.put, .slice a s.alike.length c, cloV bp bl, .string t, u, v, x]
abbrev rowV (b n : Nat) : Value := .slice (some ⟨b, 0, none⟩) n n
def HasRow (W : World) (b n : Nat) : Prop := ∃ R : List Int, R.length = n ∧ Row W b R
theorem make_ints (n : Nat) (hn : n ≤ 1000000) (W : World) : (Instr.makeSlice 64 (.int .i64 (n : Nat)) (.int .i64 (n : Nat))).run Try.prog W = .ok (.slice (some ⟨W.heap.size, 0, none⟩) n n) (W.alloc (.cells ((List.replicate n 0).map intV).toArray 3)) := by
  obtain ⟨i, hi, hz, hs, hb⟩ : ∃ i, Try.prog.info? 3 = some i ∧ i.zero = some (.int .i64 0) ∧ i.size = 1 ∧ i.bytes = 8 := ⟨_, rfl, by kernel_rfl, by kernel_rfl, by kernel_rfl⟩
  have h := run_make (P := Try.prog) W 64 3 i _ Try.underlying64 hi hz .i64 .i64 n n (by omega) (Int.le_refl _) (by rw [hb]; omega) (by omega)
  rw [h, hs]
  have e : (Value.int .i64 0).cells = #[.int .i64 0] := rfl
  rw [e, made_list, List.map_replicate]
  simp [intV]
/-- A table that was made for typed: its rows lie apart from each other and from all that was there before. -/
structure TabInv (W1 W : World) (T x y z : Nat) (s : Sl) (a : Option Addr) (c bp bl : Nat) (t : ByteArray) : Prop where
  blk : Blk W T 77 (tabC s a c bp bl t (rowV x (t.size + 1)) (rowV y (t.size + 1)) (rowV z (t.size + 1)))
  rx : HasRow W x (t.size + 1)
  ry : HasRow W y (t.size + 1)
  rz : HasRow W z (t.size + 1)
  ne : T ≠ x ∧ T ≠ y ∧ T ≠ z ∧ x ≠ y ∧ x ≠ z ∧ y ≠ z
  ok : PutsOk W1 s a c bp bl
  low : Below W1.heap.size W1 W
  ge : W1.heap.size ≤ T ∧ W1.heap.size ≤ x ∧ W1.heap.size ≤ y ∧ W1.heap.size ≤ z
theorem HasRow.below {W W' : World} {b n : Nat} (h : HasRow W b n) (hb : Below W.heap.size W W') : HasRow W' b n := by
  obtain ⟨R, h1, h2⟩ := h
  exact ⟨R, h1, Blk.below h2 hb⟩
/-- What the loop of tableFor keeps. -/
def TfRel (W1 : World) (T : Nat) (s : Sl) (a : Option Addr) (c bp bl : Nat) (t : ByteArray) (i : Nat) (W : World) : Prop :=
  Below W1.heap.size W1 W ∧ W1.heap.size ≤ T ∧ ∃ v7 v8 v9 : Value, ∃ x y z : Nat, Blk W T 77 (tabC s a c bp bl t v7 v8 v9) ∧
    (1 ≤ i → v7 = rowV x (t.size + 1) ∧ T < x ∧ HasRow W x (t.size + 1)) ∧ (2 ≤ i → v8 = rowV y (t.size + 1) ∧ x < y ∧ HasRow W y (t.size + 1)) ∧ (3 ≤ i → v9 = rowV z (t.size + 1) ∧ y < z ∧ HasRow W z (t.size + 1)) ∧ (i ≤ 0 → v7 = .slice none 0 0) ∧ (i ≤ 1 → v8 = .slice none 0 0) ∧ (i ≤ 2 → v9 = .slice none 0 0)
section
variable {P : Program} {ops : Array Oper} {md : Region.Mode} {S : World → Prop} {Q : Exit → Act → World → Prop} {fuel : Nat} {listed : Array Bool} {a : Act} {w : World}
/-- What alone may come now, and makes a new world. -/
theorem held_make (i : Nat) {o : Oper} (v : Value) (w' : World) (hi : ops[i]? = some o) (hr : Region.ready md ops listed = [i]) (hw : Region.wanted o (yielded ops a.tmps) = true) (hv : (execOp a.eval o).run P w = .ok (.value v) w') (hS : S w')
    (h : wpAnyH P md ops Q S fuel (listed.setIfInBounds i true) (a.put o.dst v) w') : wpAnyH P md ops Q S (fuel + 1) listed a w := by
  refine held_one i hi hr hw ?_
  unfold Oper.wp
  rw [hv]
  exact ⟨hS, h⟩
end
set_option maxHeartbeats 2000000 in
set_option maxRecDepth 100000 in
theorem tableFor_any (s : Sl) (a : Option Addr) (c : Nat) (t : ByteArray) (w : World) (hx : AlsAt w w.heap.size (.slice a s.alike.length c) s.alike) (hl : s.alike.length ≤ 1000000) (ht : t.size ≤ 100000) :
    Calls Try.prog 23 #[.agg #[.int .i64 s.swap, .int .i64 s.drop, .int .i64 s.add, .int .i64 s.put, .slice a s.alike.length c], .string t] w fun e w' => ∃ W1 T x y z bp bl, e = .returned (.pointer (some ⟨T, 0, none⟩)) ∧ TabInv W1 w' T x y z s a c bp bl t ∧ Below w.heap.size w W1 := by
  have b1 := (Below.refl w.heap.size w).alloc (Nat.le_refl _) (.cells #[.int .i64 s.swap, .int .i64 s.drop, .int .i64 s.add, .int .i64 s.put, .slice a s.alike.length c] 32)
  have SB := Lib.hid (SlBlock.new w s (.slice a s.alike.length c))
  have HX := Lib.hid (hx.on b1)
  have HB := Lib.hid b1
  clear hx b1
  go_enter Try.func23, Try.ntmps23
  go_upto_region 1 with fail
  generalize w.alloc _ = w1 at *
  have FW := Lib.hid (show ∀ W, Below w1.heap.size w1 W → W.cell? ⟨w.heap.size, 0, none⟩ = some (.int .i64 s.swap) ∧ W.cell? ⟨w.heap.size, 1, none⟩ = some (.int .i64 s.drop) ∧ W.cell? ⟨w.heap.size, 2, none⟩ = some (.int .i64 s.add) ∧ W.cell? ⟨w.heap.size, 3, none⟩ = some (.int .i64 s.put) ∧ W.cell? ⟨w.heap.size, 4, none⟩ = some (.slice a s.alike.length c) from fun W h => (SB.out.below h).cells)
  have CP := fun W (h : Below w1.heap.size w1 W) => Lib.hid (puts_any s a c W (HX.out.on h) hl)
  refine wp_normal ?_
  have S0 : Below w1.heap.size w1 w1.drew := (Below.refl _ _).drew
  refine held_start (S := fun W => Below w1.heap.size w1 W) 7 (by kernel_rfl) rfl ?_
  refine held_take 0 (.agg #[.int .i64 s.swap, .int .i64 s.drop, .int .i64 s.add, .int .i64 s.put, .slice a s.alike.length c]) rfl (by kernel_rfl) (by kernel_rfl) (by kernel_rfl) (fun c a w h => by cases h.1) (by kernel_rfl) (fun W hW => by obtain ⟨f0, f1, f2, f3, f4⟩ := FW.out W hW; go_simp) S0 ?_
  refine held_take 1 (.agg #[.int .i64 s.swap, .int .i64 s.drop, .int .i64 s.add, .int .i64 s.put, .slice a s.alike.length c]) rfl (by kernel_rfl) (by kernel_rfl) (by kernel_rfl) (fun c a w h => by cases h.1) (by kernel_rfl) (fun W hW => by obtain ⟨f0, f1, f2, f3, f4⟩ := FW.out W hW; go_simp) S0 ?_
  refine held_take 3 (.string t) rfl (by kernel_rfl) (by kernel_rfl) (by kernel_rfl) (fun c a w h => by cases h.1) (by kernel_rfl) (fun W hW => by go_simp) S0 ?_
  refine held_call 2 33 #[.agg #[.int .i64 s.swap, .int .i64 s.drop, .int .i64 s.add, .int .i64 s.put, .slice a s.alike.length c]] rfl (by kernel_rfl) (by kernel_rfl) (by go_simp) (CP _ S0).out ?_
  rintro e W1 ⟨bp, bl, rfl, hok, hb⟩
  refine ⟨_, rfl, S0.trans (hb.mono S0.size), ?_⟩
  have S1 : Below w1.heap.size w1 W1 := S0.trans (hb.mono S0.size)
  have OK := Lib.hid hok
  clear hok hb
  refine held_value 4 (.agg #[.int .i64 s.swap, .int .i64 s.drop, .int .i64 s.add, .int .i64 s.put, .slice a s.alike.length c, cloV bp bl, .string t, .slice none 0 0, .slice none 0 0, .slice none 0 0]) rfl (by kernel_rfl) (by kernel_rfl) (by kernel_rfl) S1 ?_
  refine held_make 5 (.pointer (some ⟨W1.heap.size, 0, none⟩)) (W1.alloc (.cells #[.int .i64 s.swap, .int .i64 s.drop, .int .i64 s.add, .int .i64 s.put, .slice a s.alike.length c, cloV bp bl, .string t, .slice none 0 0, .slice none 0 0, .slice none 0 0] 77)) rfl (by kernel_rfl) (by kernel_rfl) (by kernel_rfl) (S1.alloc S1.size _) ?_
  refine held_value 6 (.pointer (some ⟨W1.heap.size, 0, none⟩)) rfl (by kernel_rfl) (by kernel_rfl) (by kernel_rfl) (S1.alloc S1.size _) ?_
  refine held_done (by kernel_rfl) ⟨rfl, ?_⟩
  have TB := Blk.new W1 77 (tabC s a c bp bl t (.slice none 0 0) (.slice none 0 0) (.slice none 0 0))
  have RR := Lib.hid (show TfRel W1 W1.heap.size s a c bp bl t 0 (W1.alloc (.cells (tabC s a c bp bl t (.slice none 0 0) (.slice none 0 0) (.slice none 0 0)).toArray 77)) from
    ⟨(Below.refl _ _).alloc (Nat.le_refl _) _, Nat.le_refl _, _, _, _, 0, 0, 0, TB, fun h => absurd h (by omega), fun h => absurd h (by omega), fun h => absurd h (by omega), fun _ => rfl, fun _ => rfl, fun _ => rfl⟩)
  have BW := Lib.hid (HB.out.trans (S1.mono HB.out.size))
  have MK : ∀ W, Hid ((Instr.makeSlice 64 (.int .i64 ((t.size : Int) + 1)) (.int .i64 ((t.size : Int) + 1))).run Try.prog W = .ok (.slice (some ⟨W.heap.size, 0, none⟩) (t.size + 1) (t.size + 1)) (W.alloc (.cells ((List.replicate (t.size + 1) 0).map intV).toArray 3))) := fun W => make_ints (t.size + 1) (by omega) W
  clear TB FW CP S0 S1 HB HX SB
  go_wp2_with fail
  go_loopw [13] (fun iv wr => ∃ i : Nat, iv = .int .i64 (i : Nat) ∧ i ≤ 3 ∧ TfRel W1 W1.heap.size s a c bp bl t i wr) (fun iv _ => 3 - (intOf iv).toNat)
  case atStart => exact ⟨0, rfl, Nat.zero_le _, RR.out⟩
  case round =>
    obtain ⟨i, rfl, hi, hr⟩ := hrel
    obtain ⟨hb, hg, v7, v8, v9, x, y, z, hblk, h7, h8, h9, n7, n8, n9⟩ := hr
    clear RR
    rcases (show i = 0 ∨ i = 1 ∨ i = 2 ∨ i = 3 by omega) with rfl | rfl | rfl | rfl
    · obtain rfl := n7 (by omega)
      obtain rfl := n8 (by omega)
      obtain rfl := n9 (by omega)
      have HBK := Lib.hid hblk
      have HLO := Lib.hid hb
      have HGE := Lib.hid hg
      clear hblk hb hg h7 h8 h9 n7 n8 n9 
      have ht1 : IntKind.i64.wrap ((t.size : Int) + 1) = (t.size : Int) + 1 := IntWalk.i64_in _ (by omega)
      go_upto_region 5 with fail
      refine wp_normal ?_
      refine wp_region_pick (C := fun W => Below wr.heap.size wr W) [0, 1, 2, 3, 4, 6, 7] [5, 8, 9] (fun j => decide (8 ≤ j)) (by kernel_rfl) (by kernel_rfl) (by kernel_rfl) rfl (by kernel_rfl) (Below.refl _ _).drew (fun c d v a w h => by cases h.1) ?_
      refine hoistI_step (.pointer (some ⟨W1.heap.size, 0, none⟩)) rfl (fun W hW => by go_simp) ?_
      refine hoistI_step (.int .i64 0) rfl (fun W hW => by go_simp) ?_
      refine hoistI_step (.string t) rfl (fun W hW => by go_simp) ?_
      refine hoistI_step (.int .i64 (t.size : Nat)) rfl (fun W hW => by go_simp) ?_
      refine hoistI_step (.int .i64 ((t.size : Int) + 1)) rfl (fun W hW => by go_simp) ?_
      refine hoistI_step (.pointer (some ⟨W1.heap.size, 0, none⟩)) rfl (fun W hW => by go_simp) ?_
      refine hoistI_step (.pointer (some ⟨W1.heap.size, 7, none⟩)) rfl (fun W hW => by go_simp) ?_
      refine hoistI_done (seqI_step ?_)
      have D1 := (Below.refl wr.heap.size wr).drew
      have DB := D1.alloc D1.size (.cells ((List.replicate (t.size + 1) 0).map intV).toArray 3)
      have mk := (MK wr.drew).out
      refine wpOp_value (w' := wr.drew.alloc (.cells ((List.replicate (t.size + 1) 0).map intV).toArray 3)) (.slice (some ⟨wr.drew.heap.size, 0, none⟩) (t.size + 1) (t.size + 1)) rfl rfl (by go_simp) ⟨fun _ => DB, ?_⟩
      refine seqI_tail 8 _ (by rfl) (by kernel_rfl) (by decide) ?_
      simp only [List.drop_succ_cons, List.drop_zero]
      have NW := Blk.new wr.drew 3 ((List.replicate (t.size + 1) 0).map intV)
      have TB := HBK.out.below DB
      have tc : (wr.drew.alloc (.cells ((List.replicate (t.size + 1) 0).map intV).toArray 3)).cell? ⟨W1.heap.size, 7, none⟩ = some (.slice none 0 0) := (TB.cell 7).trans rfl
      have tf := TB.free 7
      have TP := TB.put 7 (rowV wr.drew.heap.size (t.size + 1))
      have hT : W1.heap.size < wr.drew.heap.size := HBK.out.lt
      have RN := Lib.hid (show TfRel W1 W1.heap.size s a c bp bl t 1 ((wr.drew.alloc (.cells ((List.replicate (t.size + 1) 0).map intV).toArray 3)).setCell ⟨W1.heap.size, 7, none⟩ (rowV wr.drew.heap.size (t.size + 1))) from
        ⟨(HLO.out.trans (DB.mono HLO.out.size)).setCell (Nat.le_refl _) _, Nat.le_refl _, (rowV wr.drew.heap.size (t.size + 1)), .slice none 0 0, .slice none 0 0, wr.drew.heap.size, 0, 0, TP, fun _ => ⟨rfl, hT, ⟨_, by simp, Blk.setCell NW (by omega)⟩⟩, fun h => absurd h (by omega), fun h => absurd h (by omega), fun h => absurd h (by omega), fun _ => rfl, fun _ => rfl⟩)
      clear NW TB TP HBK HLO DB D1    
      generalize wr.drew.alloc _ = x9 at *
      generalize wr.drew.heap.size = gn at *
      go_wp2_with fail
      go_roundw
      case rel => exact ⟨1, by go_num, by omega, RN.out⟩
      case measure => simp [intOf]
    · obtain ⟨rfl, g7, r7⟩ := h7 (by omega)
      obtain rfl := n8 (by omega)
      obtain rfl := n9 (by omega)
      have HBK := Lib.hid hblk
      have HLO := Lib.hid hb
      have HGE := Lib.hid hg
      have r7 := Lib.hid r7
      have G7 := Lib.hid g7
      clear hblk hb hg h7 h8 h9 n7 n8 n9 g7
      have ht1 : IntKind.i64.wrap ((t.size : Int) + 1) = (t.size : Int) + 1 := IntWalk.i64_in _ (by omega)
      go_upto_region 5 with fail
      refine wp_normal ?_
      refine wp_region_pick (C := fun W => Below wr.heap.size wr W) [0, 1, 2, 3, 4, 6, 7] [5, 8, 9] (fun j => decide (8 ≤ j)) (by kernel_rfl) (by kernel_rfl) (by kernel_rfl) rfl (by kernel_rfl) (Below.refl _ _).drew (fun c d v a w h => by cases h.1) ?_
      refine hoistI_step (.pointer (some ⟨W1.heap.size, 0, none⟩)) rfl (fun W hW => by go_simp) ?_
      refine hoistI_step (.int .i64 1) rfl (fun W hW => by go_simp) ?_
      refine hoistI_step (.string t) rfl (fun W hW => by go_simp) ?_
      refine hoistI_step (.int .i64 (t.size : Nat)) rfl (fun W hW => by go_simp) ?_
      refine hoistI_step (.int .i64 ((t.size : Int) + 1)) rfl (fun W hW => by go_simp) ?_
      refine hoistI_step (.pointer (some ⟨W1.heap.size, 0, none⟩)) rfl (fun W hW => by go_simp) ?_
      refine hoistI_step (.pointer (some ⟨W1.heap.size, 7, none⟩)) rfl (fun W hW => by go_simp) ?_
      refine hoistI_done (seqI_step ?_)
      have D1 := (Below.refl wr.heap.size wr).drew
      have DB := D1.alloc D1.size (.cells ((List.replicate (t.size + 1) 0).map intV).toArray 3)
      have mk := (MK wr.drew).out
      refine wpOp_value (w' := wr.drew.alloc (.cells ((List.replicate (t.size + 1) 0).map intV).toArray 3)) (.slice (some ⟨wr.drew.heap.size, 0, none⟩) (t.size + 1) (t.size + 1)) rfl rfl (by go_simp) ⟨fun _ => DB, ?_⟩
      refine seqI_tail 8 _ (by rfl) (by kernel_rfl) (by decide) ?_
      simp only [List.drop_succ_cons, List.drop_zero]
      have NW := Blk.new wr.drew 3 ((List.replicate (t.size + 1) 0).map intV)
      have TB := HBK.out.below DB
      have tc : (wr.drew.alloc (.cells ((List.replicate (t.size + 1) 0).map intV).toArray 3)).cell? ⟨W1.heap.size, 8, none⟩ = some (.slice none 0 0) := (TB.cell 8).trans rfl
      have tf := TB.free 8
      have TP := TB.put 8 (rowV wr.drew.heap.size (t.size + 1))
      have hT : W1.heap.size < wr.drew.heap.size := HBK.out.lt
      have r7' := r7.out.below DB
      have RN := Lib.hid (show TfRel W1 W1.heap.size s a c bp bl t 2 ((wr.drew.alloc (.cells ((List.replicate (t.size + 1) 0).map intV).toArray 3)).setCell ⟨W1.heap.size, 8, none⟩ (rowV wr.drew.heap.size (t.size + 1))) from
        ⟨(HLO.out.trans (DB.mono HLO.out.size)).setCell (Nat.le_refl _) _, Nat.le_refl _, (rowV x (t.size + 1)), (rowV wr.drew.heap.size (t.size + 1)), .slice none 0 0, x, wr.drew.heap.size, 0, TP, fun _ => ⟨rfl, G7.out, by obtain ⟨R, e1, e2⟩ := r7'; exact ⟨R, e1, Blk.setCell e2 (by have := G7.out; omega)⟩⟩, fun _ => ⟨rfl, (by obtain ⟨R, e1, e2⟩ := r7.out; exact Blk.lt e2), ⟨_, by simp, Blk.setCell NW (by omega)⟩⟩, fun h => absurd h (by omega), fun h => absurd h (by omega), fun h => absurd h (by omega), fun _ => rfl⟩)
      clear NW TB TP HBK HLO DB D1 r7' r7 G7 
      generalize wr.drew.alloc _ = x9 at *
      generalize wr.drew.heap.size = gn at *
      go_wp2_with fail
      go_roundw
      case rel => exact ⟨2, by go_num, by omega, RN.out⟩
      case measure => simp [intOf]
    · obtain ⟨rfl, g7, r7⟩ := h7 (by omega)
      obtain ⟨rfl, g8, r8⟩ := h8 (by omega)
      obtain rfl := n9 (by omega)
      have HBK := Lib.hid hblk
      have HLO := Lib.hid hb
      have HGE := Lib.hid hg
      have r7 := Lib.hid r7
      have r8 := Lib.hid r8
      have G7 := Lib.hid g7
      have G8 := Lib.hid g8
      clear hblk hb hg h7 h8 h9 n7 n8 n9 g7 g8
      have ht1 : IntKind.i64.wrap ((t.size : Int) + 1) = (t.size : Int) + 1 := IntWalk.i64_in _ (by omega)
      go_upto_region 5 with fail
      refine wp_normal ?_
      refine wp_region_pick (C := fun W => Below wr.heap.size wr W) [0, 1, 2, 3, 4, 6, 7] [5, 8, 9] (fun j => decide (8 ≤ j)) (by kernel_rfl) (by kernel_rfl) (by kernel_rfl) rfl (by kernel_rfl) (Below.refl _ _).drew (fun c d v a w h => by cases h.1) ?_
      refine hoistI_step (.pointer (some ⟨W1.heap.size, 0, none⟩)) rfl (fun W hW => by go_simp) ?_
      refine hoistI_step (.int .i64 2) rfl (fun W hW => by go_simp) ?_
      refine hoistI_step (.string t) rfl (fun W hW => by go_simp) ?_
      refine hoistI_step (.int .i64 (t.size : Nat)) rfl (fun W hW => by go_simp) ?_
      refine hoistI_step (.int .i64 ((t.size : Int) + 1)) rfl (fun W hW => by go_simp) ?_
      refine hoistI_step (.pointer (some ⟨W1.heap.size, 0, none⟩)) rfl (fun W hW => by go_simp) ?_
      refine hoistI_step (.pointer (some ⟨W1.heap.size, 7, none⟩)) rfl (fun W hW => by go_simp) ?_
      refine hoistI_done (seqI_step ?_)
      have D1 := (Below.refl wr.heap.size wr).drew
      have DB := D1.alloc D1.size (.cells ((List.replicate (t.size + 1) 0).map intV).toArray 3)
      have mk := (MK wr.drew).out
      refine wpOp_value (w' := wr.drew.alloc (.cells ((List.replicate (t.size + 1) 0).map intV).toArray 3)) (.slice (some ⟨wr.drew.heap.size, 0, none⟩) (t.size + 1) (t.size + 1)) rfl rfl (by go_simp) ⟨fun _ => DB, ?_⟩
      refine seqI_tail 8 _ (by rfl) (by kernel_rfl) (by decide) ?_
      simp only [List.drop_succ_cons, List.drop_zero]
      have NW := Blk.new wr.drew 3 ((List.replicate (t.size + 1) 0).map intV)
      have TB := HBK.out.below DB
      have tc : (wr.drew.alloc (.cells ((List.replicate (t.size + 1) 0).map intV).toArray 3)).cell? ⟨W1.heap.size, 9, none⟩ = some (.slice none 0 0) := (TB.cell 9).trans rfl
      have tf := TB.free 9
      have TP := TB.put 9 (rowV wr.drew.heap.size (t.size + 1))
      have hT : W1.heap.size < wr.drew.heap.size := HBK.out.lt
      have r7' := r7.out.below DB
      have r8' := r8.out.below DB
      have RN := Lib.hid (show TfRel W1 W1.heap.size s a c bp bl t 3 ((wr.drew.alloc (.cells ((List.replicate (t.size + 1) 0).map intV).toArray 3)).setCell ⟨W1.heap.size, 9, none⟩ (rowV wr.drew.heap.size (t.size + 1))) from
        ⟨(HLO.out.trans (DB.mono HLO.out.size)).setCell (Nat.le_refl _) _, Nat.le_refl _, (rowV x (t.size + 1)), (rowV y (t.size + 1)), (rowV wr.drew.heap.size (t.size + 1)), x, y, wr.drew.heap.size, TP, fun _ => ⟨rfl, G7.out, by obtain ⟨R, e1, e2⟩ := r7'; exact ⟨R, e1, Blk.setCell e2 (by have := G7.out; omega)⟩⟩, fun _ => ⟨rfl, G8.out, by obtain ⟨R, e1, e2⟩ := r8'; exact ⟨R, e1, Blk.setCell e2 (by have := (show W1.heap.size < y from Nat.lt_trans G7.out G8.out); omega)⟩⟩, fun _ => ⟨rfl, (by obtain ⟨R, e1, e2⟩ := r8.out; exact Blk.lt e2), ⟨_, by simp, Blk.setCell NW (by omega)⟩⟩, fun h => absurd h (by omega), fun h => absurd h (by omega), fun h => absurd h (by omega)⟩)
      clear NW TB TP HBK HLO DB D1 r7' r8' r7 r8 G7 G8
      generalize wr.drew.alloc _ = x9 at *
      generalize wr.drew.heap.size = gn at *
      go_wp2_with fail
      go_roundw
      case rel => exact ⟨3, by go_num, by omega, RN.out⟩
      case measure => simp [intOf]
    · obtain ⟨rfl, g7, r7⟩ := h7 (by omega)
      obtain ⟨rfl, g8, r8⟩ := h8 (by omega)
      obtain ⟨rfl, g9, r9⟩ := h9 (by omega)
      have TI := Lib.hid (show TabInv W1 wr W1.heap.size x y z s a c bp bl t from ⟨hblk, r7, r8, r9, ⟨by omega, by omega, by omega, by omega, by omega, by omega⟩, OK.out, hb, ⟨Nat.le_refl _, by omega, by omega, by omega⟩⟩)
      clear hblk hb hg h7 h8 h9 n7 n8 n9 g7 g8 g9 r7 r8 r9
      go_wp2_with fail
      go_ret
      exact ⟨W1, W1.heap.size, x, y, z, bp, bl, rfl, TI.out, BW.out⟩
end Go.Proofs.Ytadaijepalhohaa
