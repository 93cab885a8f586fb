/-
  The reference's Made: some valid event, for any raw one. Here: readings of a raw event and what the loops keep.
-/
import Derived.Test.YtmioocmjlbjfpaaDoorEE
import Derived.Deep.RegionHeld3
import Derived.Deep.DeepCutAuto
namespace Go.Proofs.YtmioocmjlbjfpaaDoor
open Go.RowKit
open Pl

/-- The slice reads as pairs of bytes. -/
def PairsAt (W : World) (B0 : Nat) (v : Value) (n : Nat) : Prop := ∃ a c, v = .slice a n c ∧ (0 < n → ∃ b off, a = some ⟨b, off, none⟩ ∧ b < B0 ∧ ∀ i, i < n → ∃ x y : Nat, W.cell? ⟨b, off + i * 2, none⟩ = some (.int .u8 (x : Int)) ∧ W.cell? ⟨b, off + i * 2 + 1, none⟩ = some (.int .u8 (y : Int)) ∧ x ≤ 255 ∧ y ≤ 255)
theorem PairsAt.below {W W' : World} {B0 : Nat} {v : Value} {n : Nat} (h : PairsAt W B0 v n) (hb : Below B0 W W') : PairsAt W' B0 v n := by
  obtain ⟨a, c, rfl, h⟩ := h
  refine ⟨a, c, rfl, fun hp => ?_⟩
  obtain ⟨b, off, rfl, hlt, hc⟩ := h hp
  exact ⟨b, off, rfl, hlt, fun i hi => by
    obtain ⟨x, y, hx, hy, h1⟩ := hc i hi
    exact ⟨x, y, (hb.cell (p := ⟨b, _, none⟩) hlt).trans hx, (hb.cell (p := ⟨b, _, none⟩) hlt).trans hy, h1⟩⟩

/-- The slice reads as these pairs of bytes. -/
def PairsFn (W : World) (B0 : Nat) (v : Value) (n : Nat) (X Y : Nat → Nat) : Prop := ∃ a c, v = .slice a n c ∧ (0 < n → ∃ b off, a = some ⟨b, off, none⟩ ∧ b < B0 ∧ ∀ i, i < n → W.cell? ⟨b, off + i * 2, none⟩ = some (.int .u8 (X i : Nat)) ∧ W.cell? ⟨b, off + i * 2 + 1, none⟩ = some (.int .u8 (Y i : Nat)) ∧ X i ≤ 255 ∧ Y i ≤ 255)
theorem PairsFn.below {W W' : World} {B0 : Nat} {v : Value} {n : Nat} {X Y : Nat → Nat} (h : PairsFn W B0 v n X Y) (hb : Below B0 W W') : PairsFn W' B0 v n X Y := by
  obtain ⟨a, c, rfl, h⟩ := h
  refine ⟨a, c, rfl, fun hp => ?_⟩
  obtain ⟨b, off, rfl, hlt, hc⟩ := h hp
  exact ⟨b, off, rfl, hlt, fun i hi => ⟨(hb.cell (p := ⟨b, _, none⟩) hlt).trans (hc i hi).1, (hb.cell (p := ⟨b, _, none⟩) hlt).trans (hc i hi).2.1, (hc i hi).2.2⟩⟩
theorem PairsFn.up {W : World} {B0 B1 : Nat} {v : Value} {n : Nat} {X Y : Nat → Nat} (h : PairsFn W B0 v n X Y) (hb : B0 ≤ B1) : PairsFn W B1 v n X Y := by
  obtain ⟨a, c, rfl, h⟩ := h
  refine ⟨a, c, rfl, fun hp => ?_⟩
  obtain ⟨b, off, rfl, hlt, hc⟩ := h hp
  exact ⟨b, off, rfl, by omega, hc⟩
theorem PairsAt.fn {W : World} {B0 : Nat} {v : Value} {n : Nat} (h : PairsAt W B0 v n) : ∃ X Y, PairsFn W B0 v n X Y := by
  obtain ⟨a, c, rfl, h⟩ := h
  rcases Nat.eq_zero_or_pos n with rfl | hp
  · exact ⟨fun _ => 0, fun _ => 0, a, c, rfl, fun h0 => absurd h0 (by omega)⟩
  · obtain ⟨b, off, rfl, hlt, hc⟩ := h hp
    have hc' : ∀ i, ∃ q : Nat × Nat, i < n → W.cell? ⟨b, off + i * 2, none⟩ = some (.int .u8 (q.1 : Int)) ∧ W.cell? ⟨b, off + i * 2 + 1, none⟩ = some (.int .u8 (q.2 : Int)) ∧ q.1 ≤ 255 ∧ q.2 ≤ 255 := fun i => by
      by_cases hi : i < n
      · obtain ⟨x, y, hx, hy, h1, h2⟩ := hc i hi
        exact ⟨(x, y), fun _ => ⟨hx, hy, h1, h2⟩⟩
      · exact ⟨(0, 0), fun h => absurd h hi⟩
    exact ⟨fun i => (Classical.choose (hc' i)).1, fun i => (Classical.choose (hc' i)).2, some ⟨b, off, none⟩, c, rfl, fun _ => ⟨b, off, rfl, hlt, fun i hi => Classical.choose_spec (hc' i) hi⟩⟩
/-- A coordinate, as the program reckons it. -/
abbrev crd (x : Nat) : Int := (IntKind.i64.wrap (4 * IntKind.i64.wrap (x : Int))).tmod 1001
/-- The first j points. -/
def ptsL (X Y : Nat → Nat) (j : Nat) : List (Int × Int) := (List.range j).map fun i => (crd (X i), crd (Y i))
theorem ptsL_succ (X Y : Nat → Nat) (j : Nat) : ptsL X Y (j + 1) = ptsL X Y j ++ [(crd (X j), crd (Y j))] := by
  unfold ptsL; rw [List.range_succ, List.map_append]; rfl
/-- Two points at least. -/
def padR (n : Int) : List (Int × Int) → List (Int × Int)
  | [] => [(0, n), (30, n)]
  | [q] => [q, (30, n)]
  | q :: r :: t => q :: r :: t
theorem padR_more {n : Int} {ps : List (Int × Int)} (h : ps.length < 2) : padR n (ps ++ [(30 * (ps.length : Int), n)]) = padR n ps := by
  rcases ps with _ | ⟨q, _ | ⟨r, t⟩⟩
  · rfl
  · rfl
  · simp at h; omega
theorem padR_full {n : Int} {ps : List (Int × Int)} (h : 2 ≤ ps.length) : padR n ps = ps := by
  rcases ps with _ | ⟨q, _ | ⟨r, t⟩⟩
  · simp at h
  · simp at h
  · rfl
/-- The text that Made takes: never empty. -/
def letsOf (t : List UInt8) : List UInt8 := if t = [] then [97] else t
/-- The event that Made makes. -/
def madeEv (kd : Int) (u : List UInt8) (ps : List (Int × Int)) (n m : Int) : Ev :=
  if kd = 1 then ⟨1, u.take 1, [], [], 0, 0⟩ else if kd = 2 then ⟨2, chordOf n m, [], [], 0, 0⟩ else if kd = 3 then ⟨3, [], ps.take 1, [], 0, 0⟩
  else if kd = 4 then ⟨4, [], ps, [], 0, 0⟩ else if kd = 5 then ⟨5, [], [], u, 0, 0⟩ else if kd = 9 then ⟨9, [], [], [], n % 40, 1 + m % 40⟩
  else if kd = 10 then ⟨10, [], [], [], n % 50, 0⟩ else ⟨kd, [], [], [], 0, 0⟩

/-- The block of a raw event that a function laid. -/
def RwBlock (W : World) (b : Nat) (k : Int) (lv pv : Value) (n m : Int) : Prop := W.heap[b]? = some (.cells #[.int .u8 k, lv, pv, .int .u8 n, .int .u8 m] 25 (0, 0))
theorem RwBlock.new (w : World) (k : Int) (lv pv : Value) (n m : Int) : RwBlock (w.alloc (.cells #[.int .u8 k, lv, pv, .int .u8 n, .int .u8 m] 25)) w.heap.size k lv pv n m := heap_alloc_new w _
theorem RwBlock.below {W W' : World} {b : Nat} {k : Int} {lv pv : Value} {n m : Int} (h : RwBlock W b k lv pv n m) (hb : Below W.heap.size W W') : RwBlock W' b k lv pv n m := by
  have hlt := lt_of_heap h
  unfold RwBlock at h ⊢; rw [hb.block b hlt]; exact h
theorem RwBlock.cells {W : World} {b : Nat} {k : Int} {lv pv : Value} {n m : Int} (h : RwBlock W b k lv pv n m) :
    W.cell? ⟨b, 0, none⟩ = some (.int .u8 k) ∧ W.cell? ⟨b, 1, none⟩ = some lv ∧ W.cell? ⟨b, 2, none⟩ = some pv ∧ W.cell? ⟨b, 3, none⟩ = some (.int .u8 n) ∧ W.cell? ⟨b, 4, none⟩ = some (.int .u8 m) := by
  unfold RwBlock at h
  refine ⟨?_, ?_, ?_, ?_, ?_⟩ <;> simp [World.cell?, h]
theorem RwBlock.kept {W W' : World} {b : Nat} {k : Int} {lv pv : Value} {n m : Int} (h : RwBlock W b k lv pv n m) {row : Option Nat} (hg : W.grownBy W' row) (hne : some b ≠ row) : RwBlock W' b k lv pv n m := by
  have hlt := lt_of_heap h
  unfold RwBlock at h ⊢
  rw [hg.block b hlt hne]; exact h
theorem RwBlock.alloc {W : World} {b : Nat} {k : Int} {lv pv : Value} {n m : Int} (h : RwBlock W b k lv pv n m) (o : Obj) : RwBlock (W.alloc o) b k lv pv n m :=
  h.below ((Below.refl _ _).alloc (Nat.le_refl _) o)
theorem insideB_snoc {ps : List (Int × Int)} {x y : Int} (h : insideB ps = true) (hx : 0 ≤ x ∧ x ≤ 1000) (hy : 0 ≤ y ∧ y ≤ 1000) : insideB (ps ++ [(x, y)]) = true := by
  unfold insideB at h ⊢
  rw [List.all_append, h]
  simp [hasB_yes hx.1 hx.2, hasB_yes hy.1 hy.2]

/-- What holds at the heads of both loops: the raw event, the result and the event under way lie as they did, and the points are some valid ones. -/
def MdRel (w : World) (k : Int) (lv pv : Value) (n m kd : Int) (ps : List (Int × Int)) (v : Value) (wr : World) : Prop :=
  insideB ps = true ∧ OwnsP wr (w.heap.size + 3) v ps ∧ RwBlock wr w.heap.size k lv pv n m ∧ EvBlock wr (w.heap.size + 1) (.int .i64 0) (.string ⟨#[]⟩) (.slice none 0 0) (.string ⟨#[]⟩) (.int .i64 0) (.int .i64 0) ∧ EvBlock wr (w.heap.size + 1 + 1) (.int .i64 kd) (.string ⟨#[]⟩) (.slice none 0 0) (.string ⟨#[]⟩) (.int .i64 0) (.int .i64 0) ∧ Below w.heap.size w wr
theorem MdRel.size {w : World} {k : Int} {lv pv : Value} {n m kd : Int} {ps : List (Int × Int)} {v : Value} {wr : World} (h : MdRel w k lv pv n m kd ps v wr) : w.heap.size + 3 ≤ wr.heap.size := by
  have := h.2.2.2.2.1.lt
  omega
theorem MdRel.alloc {w : World} {k : Int} {lv pv : Value} {n m kd : Int} {ps : List (Int × Int)} {v : Value} {wr : World} (h : MdRel w k lv pv n m kd ps v wr) (o : Obj) : MdRel w k lv pv n m kd ps v (wr.alloc o) := by
  have hs := h.size
  obtain ⟨hin, hO, hR, hE, hF, hB⟩ := h
  exact ⟨hin, World.ownsRow.alloc hO o, hR.alloc o, hE.alloc o, hF.alloc o, hB.alloc (by omega) o⟩
theorem MdRel.drew {w : World} {k : Int} {lv pv : Value} {n m kd : Int} {ps : List (Int × Int)} {v : Value} {wr : World} (h : MdRel w k lv pv n m kd ps v wr) : MdRel w k lv pv n m kd ps v wr.drew := by
  obtain ⟨hin, hO, hR, hE, hF, hB⟩ := h
  exact ⟨hin, hO, hR, hE, hF, hB.drew⟩
theorem MdRel.step {w wr w2 : World} {k : Int} {lv pv : Value} {n m kd : Int} {ps : List (Int × Int)} {oa : Option Addr} {oc : Nat} (h : MdRel w k lv pv n m kd ps (.slice oa ps.length oc) wr) {x y : Int} (hx : 0 ≤ x ∧ x ≤ 1000) (hy : 0 ≤ y ∧ y ≤ 1000)
    {gg cap' : Nat} (hown2 : w2.ownsRow (w.heap.size + 3) 40 2 (.slice (some ⟨gg, 0, none⟩) (ps.length + 1) cap') (ps.length + 1) (ptCells ps ++ [.int .i64 x, .int .i64 y])) (hgrow : wr.grownBy w2 (Value.slice oa ps.length oc).ownBlock) :
    MdRel w k lv pv n m kd (ps ++ [(x, y)]) (.slice (some ⟨gg, 0, none⟩) (ps.length + 1) cap') w2 := by
  have hs := h.size
  obtain ⟨hin, hO, hR, hE, hF, hB⟩ := h
  refine ⟨insideB_snoc hin hx hy, ?_, hR.kept hgrow (fun e => hO.ne (by omega) e.symm), hE.kept hgrow (fun e => hO.ne (by omega) e.symm), hF.kept hgrow (fun e => hO.ne (by omega) e.symm), ?_⟩
  · unfold OwnsP
    rw [ptCells_snoc, List.length_append, List.length_singleton]
    exact hown2
  · exact hB.grown hgrow (by omega) (fun k hk => by have := own_block hO k hk; omega)
def lenV : Value → Nat
  | .slice _ n _ => n
  | _ => 0
theorem len_snoc (ps : List (Int × Int)) (q : Int × Int) : (ps ++ [q]).length = ps.length + 1 := by simp
theorem EvBlock.set1 {W : World} {b : Nat} {c0 c1 c2 c3 c4 c5 : Value} (h : EvBlock W b c0 c1 c2 c3 c4 c5) (v : Value) : EvBlock (W.setCell ⟨b, 1, none⟩ v) b c0 v c2 c3 c4 c5 := by
  unfold EvBlock at h ⊢
  rw [heap_setCell_same W b 1 _ 31 v h]; rfl
theorem EvBlock.set3 {W : World} {b : Nat} {c0 c1 c2 c3 c4 c5 : Value} (h : EvBlock W b c0 c1 c2 c3 c4 c5) (v : Value) : EvBlock (W.setCell ⟨b, 3, none⟩ v) b c0 c1 c2 v c4 c5 := by
  unfold EvBlock at h ⊢
  rw [heap_setCell_same W b 3 _ 31 v h]; rfl
theorem EvBlock.set4 {W : World} {b : Nat} {c0 c1 c2 c3 c4 c5 : Value} (h : EvBlock W b c0 c1 c2 c3 c4 c5) (v : Value) : EvBlock (W.setCell ⟨b, 4, none⟩ v) b c0 c1 c2 c3 v c5 := by
  unfold EvBlock at h ⊢
  rw [heap_setCell_same W b 4 _ 31 v h]; rfl
theorem EvBlock.set5 {W : World} {b : Nat} {c0 c1 c2 c3 c4 c5 : Value} (h : EvBlock W b c0 c1 c2 c3 c4 c5) (v : Value) : EvBlock (W.setCell ⟨b, 5, none⟩ v) b c0 c1 c2 c3 c4 v := by
  unfold EvBlock at h ⊢
  rw [heap_setCell_same W b 5 _ 31 v h]; rfl
theorem EvBlock.setCell {W : World} {b b' o : Nat} {c0 c1 c2 c3 c4 c5 : Value} (h : EvBlock W b c0 c1 c2 c3 c4 c5) (v : Value) (hne : b ≠ b') : EvBlock (W.setCell ⟨b', o, none⟩ v) b c0 c1 c2 c3 c4 c5 := by
  unfold EvBlock at h ⊢
  rw [heap_setCell_other _ _ _ _ hne]; exact h

/-- What Made hands back: a valid event. -/
def MadePost (w : World) (e : Ending) (w' : World) : Prop :=
  (∃ ev a c, e = .returned (evVal ev (.slice a ev.p.length c)) ∧ validB ev = true ∧ OwnsP w' w.heap.size (.slice a ev.p.length c) ev.p) ∧ Below w.heap.size w w'

/-- What Made hands back: this very event, and a valid one. -/
def MadeIs (w : World) (ev : Ev) (e : Ending) (w' : World) : Prop :=
  (∃ ev' a c, e = .returned (evVal ev' (.slice a ev'.p.length c)) ∧ validB ev' = true ∧ OwnsP w' w.heap.size (.slice a ev'.p.length c) ev'.p ∧ ev' = ev) ∧ Below w.heap.size w w'
/-- The fields that each kind asks for make a valid event. -/
theorem val_key {t : List UInt8} (h : lettersB t = true) (hl : t.length = 1) : validB ⟨1, t, [], [], 0, 0⟩ = true := by
  match t, hl with
  | [c], _ => 
    have h' : lettersB [c] = true := h
    show fitsB 1 1 0 0 0 0 0 0 0 0 [c] [] [] 0 0 = true
    unfold fitsB
    rw [h']; rfl
theorem fits_mk {k1 k2 p1 p2 t1 t2 n1 n2 s1 s2 : Int} {keys : List UInt8} {ps : List (Int × Int)} {text : List UInt8} {n l : Int} (h1 : k1 ≤ (keys.length : Int) ∧ (keys.length : Int) ≤ k2) (h2 : p1 ≤ (ps.length : Int) ∧ (ps.length : Int) ≤ p2) (h3 : t1 ≤ (text.length : Int) ∧ (text.length : Int) ≤ t2) (h4 : n1 ≤ n ∧ n ≤ n2) (h5 : s1 ≤ l ∧ l ≤ s2)
    (h6 : lettersB keys = true) (h7 : incB keys = true) (h8 : lettersB text = true) (h9 : insideB ps = true) : fitsB k1 k2 p1 p2 t1 t2 n1 n2 s1 s2 keys ps text n l = true := by
  unfold fitsB
  rw [size_B, size_B, hasB_yes h1.1 h1.2, hasB_yes h2.1 h2.2, hasB_yes h3.1 h3.2, hasB_yes h4.1 h4.2, hasB_yes h5.1 h5.2, h6, h7, h8, h9]; rfl
theorem val_chord {t : List UInt8} (h : lettersB t = true) (hi : incB t = true) (h2 : 2 ≤ t.length) (h4 : t.length ≤ 4) : validB ⟨2, t, [], [], 0, 0⟩ = true := by
  show fitsB 2 4 0 0 0 0 0 0 0 0 t [] [] 0 0 = true
  exact fits_mk ⟨by omega, by omega⟩ (by decide) (by decide) (by decide) (by decide) h hi rfl rfl
theorem val_touch {ps : List (Int × Int)} (h : insideB ps = true) (hl : ps.length = 1) : validB ⟨3, [], ps, [], 0, 0⟩ = true := by
  show fitsB 0 0 1 1 0 0 0 0 0 0 [] ps [] 0 0 = true
  exact fits_mk (by decide) ⟨by omega, by omega⟩ (by decide) (by decide) (by decide) rfl rfl rfl h
theorem val_stroke {ps : List (Int × Int)} (h : insideB ps = true) (h2 : 2 ≤ ps.length) (h6 : ps.length ≤ 12) : validB ⟨4, [], ps, [], 0, 0⟩ = true := by
  show fitsB 0 0 2 12 0 0 0 0 0 0 [] ps [] 0 0 = true
  exact fits_mk (by decide) ⟨by omega, by omega⟩ (by decide) (by decide) (by decide) rfl rfl rfl h
theorem val_paste {t : List UInt8} (h : lettersB t = true) (h1 : 1 ≤ t.length) (h2 : t.length ≤ 20) : validB ⟨5, [], [], t, 0, 0⟩ = true := by
  show fitsB 0 0 0 0 1 20 0 0 0 0 [] [] t 0 0 = true
  exact fits_mk (by decide) (by decide) ⟨by omega, by omega⟩ (by decide) (by decide) rfl rfl h rfl
theorem val_hold {n l : Int} (h1 : 0 ≤ n ∧ n ≤ 39) (h2 : 1 ≤ l ∧ l ≤ 40) : validB ⟨9, [], [], [], n, l⟩ = true := by
  show fitsB 0 0 0 0 0 0 0 39 1 40 [] [] [] n l = true
  exact fits_mk (by decide) (by decide) (by decide) h1 h2 rfl rfl rfl rfl
theorem val_choose {n : Int} (h1 : 0 ≤ n ∧ n ≤ 49) : validB ⟨10, [], [], [], n, 0⟩ = true := by
  show fitsB 0 0 0 0 0 0 0 49 0 0 [] [] [] n 0 = true
  exact fits_mk (by decide) (by decide) (by decide) h1 (by decide) rfl rfl rfl rfl
theorem val_bare {k : Int} (h : k = 6 ∨ k = 7 ∨ k = 8 ∨ k = 11 ∨ k = 12) : validB ⟨k, [], [], [], 0, 0⟩ = true := by
  rcases h with rfl | rfl | rfl | rfl | rfl <;> decide
end Go.Proofs.YtmioocmjlbjfpaaDoor
