/-
  What every row of this seat needs: the listed table, arguments opened and shut.
-/
import Derived.Test.YtadaijepalhohabDoorCards
import Derived.Test.YtadaijepalhohabDoorTie
import Derived.Test.YtadaijepalhohabDoorGJ
import Derived.ProofKit
import Derived.OpenShut
import Derived.Deep.DeepHandedRow
import Derived.Lib.LaidTab
import Derived.LaidMore
import Derived.Shelf.Vars
import Derived.Deep.Strs
import Derived.Deep.Slices
import Derived.Carry
import Derived.ChangeOld
namespace Go.Proofs.YtadaijepalhohabDoor
open Go.ChangeShapes Go.WideShapes Go.ChangeAt Go.RowKit Go.ChangeMaps

theorem own : ownKnob Tryd.prog.godebug = none := by kernel_rfl
theorem g2 : Tryd.prog.globalNamed "syllabary/scheme.stretches" = some 0 := by kernel_rfl
theorem g2t : (Tryd.prog.globals[0]?).map (·.type) = some 86 := by kernel_rfl
set_option maxRecDepth 100000 in
theorem stretch_cells {H : Type} {enc : TypeId × Value → H} {w : World} {base : Nat} {sp : Nat → Bool} {held : Bool} {fuel : Nat} {cs : List Value} {a b c : Int} {p : List MemPlace}
    (h : DataW.trod enc Tryd.prog w base sp held fuel 85 cs = some (.agg [.lit (.int .u8 a), .lit (.int .u8 b), .lit (.int .i64 c)], p)) : cs = [.int .u8 a, .int .u8 b, .int .i64 c] := by
  obtain ⟨y0, y1, y2, n, hx, hl, f0, f1, f2⟩ := Go.Deep.trod_struct3 Tryd.underlying85 h
  rw [show Tryd.prog.cellsOf 85 = 3 by kernel_rfl] at hl
  obtain ⟨v0, v1, v2, rfl⟩ : ∃ v0 v1 v2, cs = [v0, v1, v2] := by
    clear h hx f0 f1 f2
    match cs, hl with
    | [v0, v1, v2], _ => exact ⟨v0, v1, v2, rfl⟩
  · have hx1 : ([.lit (.int .u8 a), .lit (.int .u8 b), .lit (.int .i64 c)] : List (DataW H)) = [y0.1, y1.1, y2.1] := by
      have := congrArg Prod.fst hx
      simpa using this
    simp only [List.cons.injEq, and_true] at hx1
    obtain ⟨e0, e1, e2⟩ := hx1
    have f0 : DataW.trod enc Tryd.prog w base sp held n 5 [v0] = some y0 := f0
    have f1 : DataW.trod enc Tryd.prog w base sp held n 5 [v1] = some y1 := f1
    have f2 : DataW.trod enc Tryd.prog w base sp held n 3 [v2] = some y2 := f2
    obtain ⟨n0, h0, g0, -⟩ := DataW.trod_int Tryd.underlying5 f0
    obtain ⟨n1, h1, g1, -⟩ := DataW.trod_int Tryd.underlying5 f1
    obtain ⟨n2, h2, g2, -⟩ := DataW.trod_int Tryd.underlying3 f2
    rw [g0] at e0
    rw [g1] at e1
    rw [g2] at e2
    simp only [DataW.lit.injEq, Lit.int.injEq, true_and] at e0 e1 e2
    rw [e0, e1, e2]
    simp only [List.cons.injEq, and_true] at h0 h1 h2
    rw [h0, h1, h2]
set_option maxRecDepth 100000 in
theorem str_of {W : World} (h : laidMetH Tryd.prog Rows.flawAddsRow.laid W) (hS : W.ShapedOpen Tryd.prog) : StrTab W := by
  obtain ⟨ps, ⟨g', t', cs, fuel, p, q, hg', ht', hvar, hd, _, _⟩, _⟩ := h
  obtain rfl := Option.some.inj (g2.symm.trans hg')
  obtain rfl := Option.some.inj (g2t.symm.trans ht')
  obtain ⟨cs', hc', -, -⟩ := hS.1 0 #[.int .u8 0, .int .u8 0, .int .i64 0, .int .u8 0, .int .u8 0, .int .i64 0, .int .u8 0, .int .u8 0, .int .i64 0] 86 (of_decide_eq_true (by kernel_rfl)) (by kernel_rfl)
  have he : cs' = cs := by
    unfold World.var? at hvar
    rw [g2] at hvar
    simpa [hc'] using hvar
  subst he
  unfold StrTab
  rw [hc']
  obtain ⟨xs, m, -, hx, hcl, hxl, hg⟩ := DataW.trod_array Tryd.underlying86 hd
  rw [show Tryd.prog.cellsOf 86 = 9 by kernel_rfl] at hcl
  rw [show Tryd.prog.cellsOf 85 = 3 by kernel_rfl] at hg
  have hx1 : (Rows.laid_syllabary_scheme_stretches : DataW Unit) = DataW.agg (xs.map (·.1)) := congrArg Prod.fst hx
  obtain ⟨x0, x1, x2, rfl⟩ : ∃ x0 x1 x2, xs = [x0, x1, x2] := by
    match xs, hxl with
    | [x0, x1, x2], _ => exact ⟨x0, x1, x2, rfl⟩
  · unfold Rows.laid_syllabary_scheme_stretches at hx1
    simp only [List.map_cons, List.map_nil, DataW.agg.injEq, List.cons.injEq, and_true] at hx1
    obtain ⟨e0, e1, e2⟩ := hx1
    have g0 : DataW.trod (fun _ => ()) Tryd.prog W 0 (fun _ => true) false m 85 ((cs'.toList.drop 0).take 3) = some (x0.1, x0.2) := hg 0 (by decide)
    have g1 : DataW.trod (fun _ => ()) Tryd.prog W 0 (fun _ => true) false m 85 ((cs'.toList.drop 3).take 3) = some (x1.1, x1.2) := hg 1 (by decide)
    have g2 : DataW.trod (fun _ => ()) Tryd.prog W 0 (fun _ => true) false m 85 ((cs'.toList.drop 6).take 3) = some (x2.1, x2.2) := hg 2 (by decide)
    rw [← e0] at g0
    rw [← e1] at g1
    rw [← e2] at g2
    have k0 := stretch_cells g0
    have k1 := stretch_cells g1
    have k2 := stretch_cells g2
    have key : cs' = #[.int .u8 97, .int .u8 122, .int .i64 1, .int .u8 65, .int .u8 90, .int .i64 2, .int .u8 48, .int .u8 57, .int .i64 4] := by
      apply Array.toList_inj.1
      generalize cs'.toList = l at *
      obtain ⟨c0, c1, c2, c3, c4, c5, c6, c7, c8, rfl⟩ : ∃ c0 c1 c2 c3 c4 c5 c6 c7 c8, l = [c0, c1, c2, c3, c4, c5, c6, c7, c8] := by
        match l, hcl with
        | [c0, c1, c2, c3, c4, c5, c6, c7, c8], _ => exact ⟨c0, c1, c2, c3, c4, c5, c6, c7, c8, rfl⟩
      · simp only [List.drop_zero, List.drop_succ_cons, List.take_succ_cons, List.take_zero, List.cons.injEq, and_true] at k0 k1 k2
        obtain ⟨rfl, rfl, rfl⟩ := k0
        obtain ⟨rfl, rfl, rfl⟩ := k1
        obtain ⟨rfl, rfl, rfl⟩ := k2
        rfl
    rw [key]
theorem raw_out : laidOutB Tryd.prog = true := by kernel_rfl
theorem cellsU8 : Tryd.prog.cellsOf 5 = 1 := by kernel_rfl
theorem cellsThree : Tryd.prog.cellsOf 39 = 3 := by kernel_rfl
theorem cellsThrees : Tryd.prog.cellsOf 22 = 1 := by kernel_rfl
theorem cellsFRaw : Tryd.prog.cellsOf 24 = 3 := by kernel_rfl
theorem rec24 : Tryd.prog.readableRec 24 = true := by kernel_rfl
theorem row24 : 24 < Tryd.prog.types.size := of_decide_eq_true (by kernel_rfl)
theorem add_none (b off k : Nat) : (⟨b, off, none⟩ : Addr).add k = ⟨b, off + k, none⟩ := by unfold Addr.add; split <;> simp_all
theorem tri_cells {H : Type} {enc : TypeId × Value → H} {W : World} {cs : List Value} {x : DataW H × List MemPlace} {fuel : Nat} (hlen : cs.length = 3) (hf : DataW.trod enc Tryd.prog W 0 (fun _ => true) true fuel 39 cs = some x) :
    ∃ a b c : Nat, cs = [.int .u8 (a : Nat), .int .u8 (b : Nat), .int .u8 (c : Nat)] ∧ a < 256 ∧ b < 256 ∧ c < 256 := by
  obtain ⟨x0, x1, x2, rfl⟩ : ∃ x0 x1 x2, cs = [x0, x1, x2] := by
    clear hf
    match cs, hlen with
    | [x0, x1, x2], _ => exact ⟨x0, x1, x2, rfl⟩
  obtain ⟨xs, m', -, -, -, hxl, hg⟩ := DataW.trod_array Tryd.underlying39 hf
  rw [cellsU8] at hg
  obtain ⟨q0, q1, q2, rfl⟩ : ∃ q0 q1 q2, xs = [q0, q1, q2] := by
    clear hg hf
    match xs, hxl with
    | [q0, q1, q2], _ => exact ⟨q0, q1, q2, rfl⟩
  have g0 : DataW.trod enc Tryd.prog W 0 (fun _ => true) true m' 5 [x0] = some q0 := by simpa [Value.cells] using hg 0 (by omega)
  have g1 : DataW.trod enc Tryd.prog W 0 (fun _ => true) true m' 5 [x1] = some q1 := by simpa [Value.cells] using hg 1 (by omega)
  have g2 : DataW.trod enc Tryd.prog W 0 (fun _ => true) true m' 5 [x2] = some q2 := by simpa [Value.cells] using hg 2 (by omega)
  obtain ⟨y0, hy0, -, hw0⟩ := DataW.trod_int Tryd.underlying5 g0
  obtain ⟨y1, hy1, -, hw1⟩ := DataW.trod_int Tryd.underlying5 g1
  obtain ⟨y2, hy2, -, hw2⟩ := DataW.trod_int Tryd.underlying5 g2
  obtain rfl : x0 = .int .u8 y0 := by simpa using hy0
  obtain rfl : x1 = .int .u8 y1 := by simpa using hy1
  obtain rfl : x2 = .int .u8 y2 := by simpa using hy2
  have b0 := bounds_u8 hw0
  have b1 := bounds_u8 hw1
  have b2 := bounds_u8 hw2
  exact ⟨y0.toNat, y1.toNat, y2.toNat, by rw [show ((y0.toNat : Nat) : Int) = y0 by omega, show ((y1.toNat : Nat) : Int) = y1 by omega, show ((y2.toNat : Nat) : Int) = y2 by omega], by omega, by omega, by omega⟩
set_option maxRecDepth 100000 in
theorem tris_open {H : Type} {enc : TypeId × Value → H} {W : World} {v : Value} {x : DataW H × List MemPlace} {fuel : Nat} (hf : DataW.trod enc Tryd.prog W 0 (fun _ => true) true fuel 22 [v] = some x) :
    ∃ (a : Option Addr) (n c : Nat), v = .slice a n c ∧ n ≤ maxLen ∧ TrisAt W W.heap.size (.slice a n c) n := by
  rcases Deep.open_slice Tryd.underlying22 hf with ⟨h0, _⟩ | ⟨a, len, cap, m, n, D, Pl, hcs, _, hl, hc, hm, _, hx⟩
  · obtain rfl : v = .slice none 0 0 := by simpa using h0
    exact ⟨none, 0, 0, rfl, Nat.zero_le _, none, 0, rfl, fun h => absurd h (Nat.lt_irrefl _)⟩
  · obtain rfl : v = .slice (some a) len cap := by simpa using hcs
    simp only [if_true] at hm
    subst hm
    rw [cellsThree] at hx
    have each : ∀ i, i < m → ∃ p q r : Nat, (p < 256 ∧ q < 256 ∧ r < 256) ∧ W.cell? ((a.add (i * 3)).add 0) = some (.int .u8 (p : Nat)) ∧ W.cell? ((a.add (i * 3)).add 1) = some (.int .u8 (q : Nat)) ∧ W.cell? ((a.add (i * 3)).add 2) = some (.int .u8 (r : Nat)) := fun i hi => by
      obtain ⟨cs, h1, h2⟩ := hx i hi
      obtain ⟨_, hlen, hat⟩ := World.cells?_some h1
      obtain ⟨p, q, r, rfl, h3, h4, h5⟩ := tri_cells hlen h2
      exact ⟨p, q, r, ⟨h3, h4, h5⟩, by simpa using hat 0 (by omega), by simpa using hat 1 (by omega), by simpa using hat 2 (by omega)⟩
    refine ⟨some a, len, m, rfl, Nat.le_trans hl hc, some a, m, rfl, fun hp => ?_⟩
    obtain ⟨_, _, _, _, h1, -⟩ := each 0 (by omega)
    have hs : a.spot = none := by simpa [Addr.add] using World.cell?_spot h1
    obtain ⟨b, off, spot⟩ := a
    obtain rfl : spot = none := hs
    rw [add_none, add_none] at h1
    refine ⟨b, off, rfl, World.block_lt_of_cell? W _ h1, fun i hi => ?_⟩
    obtain ⟨p, q, r, hb, e0, e1, e2⟩ := each i (by omega)
    rw [add_none, add_none] at e0 e1 e2
    exact ⟨p, q, r, hb, e0, e1, e2⟩
set_option maxRecDepth 100000 in
theorem open_tFRaw {H : Type} {enc : TypeId × Value → H} {W : World} {r : Reach} {base : Nat} {v : Value} {d : DataW H} {p : List MemPlace} (hv : Value.okWide Tryd.prog W r base 24 v) (h : DataW.Trod enc Tryd.prog W 0 (fun _ => true) true 24 v d p) :
    ∃ o : Nat × Nat × Option Addr × Nat × Nat, v = .agg #[.int .u8 (o.1 : Nat), .int .u8 (o.2.1 : Nat), .slice o.2.2.1 o.2.2.2.1 o.2.2.2.2] ∧ o.1 < 256 ∧ o.2.1 < 256 ∧ o.2.2.2.1 ≤ maxLen ∧ TrisAt W W.heap.size (.slice o.2.2.1 o.2.2.2.1 o.2.2.2.2) o.2.2.2.1 := by
  obtain ⟨cs, rfl, hsz⟩ := okWide_struct Tryd.underlying24 hv
  rw [cellsFRaw] at hsz
  obtain ⟨l⟩ := cs
  match l, hsz with
  | [x0, x1, x2], _ =>
    obtain ⟨fuel, hf⟩ := h
    obtain ⟨xs, f', _, _, _, hlen, hg⟩ := DataW.trod_struct Tryd.underlying24 hf
    match xs, hlen with
    | [y0, y1, y2], _ =>
      have g0 : DataW.trod enc Tryd.prog W 0 (fun _ => true) true f' 5 [x0] = some y0 := by simpa [Value.cells, cellsU8] using hg 0 _ rfl
      have g1 : DataW.trod enc Tryd.prog W 0 (fun _ => true) true f' 5 [x1] = some y1 := by simpa [Value.cells, cellsU8] using hg 1 _ rfl
      have g2 : DataW.trod enc Tryd.prog W 0 (fun _ => true) true f' 22 [x2] = some y2 := by simpa [Value.cells, cellsThrees] using hg 2 _ rfl
      obtain ⟨k, hk, -, wk⟩ := DataW.trod_int Tryd.underlying5 g0
      obtain ⟨n, hn, -, wn⟩ := DataW.trod_int Tryd.underlying5 g1
      obtain rfl : x0 = .int .u8 k := by simpa using hk
      obtain rfl : x1 = .int .u8 n := by simpa using hn
      obtain ⟨a, len, c, rfl, hl, hR⟩ := tris_open g2
      have bk := bounds_u8 wk
      have bn := bounds_u8 wn
      exact ⟨(k.toNat, n.toNat, a, len, c), by rw [show ((k.toNat : Nat) : Int) = k by omega, show ((n.toNat : Nat) : Int) = n by omega], by dsimp only; omega, by dsimp only; omega, hl, hR⟩
set_option maxRecDepth 100000 in
theorem back_tFRaw {H : Type} {enc : TypeId × Value → H} {W W' : World} {v : Value} {d : DataW H} {p : List MemPlace} (h : DataW.Trod enc Tryd.prog W 0 (fun _ => true) true 24 v d p) (hb : Below W.heap.size W W') :
    DataW.Trod enc Tryd.prog W' 0 (fun b => decide (b < W.heap.size)) true 24 v d p :=
  Below.trod raw_out rec24 row24 h hb (DataW.TrodAll.lt (trodAll_mk1 h))
end Go.Proofs.YtadaijepalhohabDoor
