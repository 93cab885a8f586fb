/-
  An event that comes in, opened: its points can be read.
-/
import Derived.Test.YtcbboegjegobeaaDoorKK
namespace Go.Proofs.YtcbboegjegobeaaDoor
open Go.ChangeShapes Go.WideShapes Go.RowKit
open Pl

theorem cells31 : Tryd.prog.cellsOf 31 = 6 := by kernel_rfl
theorem cells3 : Tryd.prog.cellsOf 3 = 1 := by kernel_rfl
theorem cells9 : Tryd.prog.cellsOf 9 = 1 := by kernel_rfl
theorem cells29 : Tryd.prog.cellsOf 29 = 1 := by kernel_rfl
theorem cells42 : Tryd.prog.cellsOf 42 = 2 := by kernel_rfl
theorem rec31 : Tryd.prog.readableRec 31 = true := by kernel_rfl
theorem row31 : 31 < Tryd.prog.types.size := of_decide_eq_true (by kernel_rfl)

theorem points_open {H : Type} {enc : TypeId × Value → H} {W : World} {v : Value} {x : DataW H × List MemPlace} {fuel : Nat} (h : DataW.trod enc Tryd.prog W 0 (fun _ => true) true fuel 29 [v] = some x) :
    ∃ (ps : List (Int × Int)) (a : Option Addr) (c : Nat), v = .slice a ps.length c ∧ ps.length ≤ maxLen ∧ PtsAt W W.heap.size v ps := by
  rcases Deep.open_slice Tryd.underlying29 h with ⟨h0, _⟩ | ⟨a, len, cap, m, n, D, Pl, hcs, _, hl, hc, hm, _, hx⟩
  · obtain rfl : v = .slice none 0 0 := by simpa using h0
    exact ⟨[], none, 0, rfl, Nat.zero_le _, none, 0, rfl, fun h => absurd h (Nat.lt_irrefl _)⟩
  · obtain rfl : v = .slice (some a) len cap := by simpa using hcs
    simp only [if_true] at hm
    subst hm
    rw [cells42] at hx
    have each : ∀ i, i < m → ∃ q : Int × Int, W.cell? ((a.add (i * 2)).add 0) = some (.int .i64 q.1) ∧ W.cell? ((a.add (i * 2)).add 1) = some (.int .i64 q.2) := fun i hi => by
      obtain ⟨cs, h1, h2⟩ := hx i hi
      obtain ⟨_, hlen, hat⟩ := World.cells?_some h1
      match cs, hlen with
      | [c0, c1], _ =>
        obtain ⟨xs, f', _, _, _, hxl, hg⟩ := DataW.trod_struct Tryd.underlying42 h2
        match xs, hxl with
        | [q0, q1], _ =>
          have g0 : DataW.trod enc Tryd.prog W 0 (fun _ => true) true f' 3 [c0] = some q0 := by simpa [Value.cells, cells3] using hg 0 _ rfl
          have g1 : DataW.trod enc Tryd.prog W 0 (fun _ => true) true f' 3 [c1] = some q1 := by simpa [Value.cells, cells3] using hg 1 _ rfl
          obtain ⟨y0, hy0, -, hw0⟩ := DataW.trod_int Tryd.underlying3 g0
          obtain ⟨y1, hy1, -, hw1⟩ := DataW.trod_int Tryd.underlying3 g1
          obtain rfl : c0 = .int .i64 y0 := by simpa using hy0
          obtain rfl : c1 = .int .i64 y1 := by simpa using hy1
          exact ⟨(y0, y1), by simpa using hat 0 (by omega), by simpa using hat 1 (by omega)⟩
    have hlm : len ≤ m := hl
    obtain ⟨f, hf⟩ : ∃ f : Nat → Int × Int, ∀ i, i < m → W.cell? ((a.add (i * 2)).add 0) = some (.int .i64 (f i).1) ∧ W.cell? ((a.add (i * 2)).add 1) = some (.int .i64 (f i).2) := by
      refine ⟨fun i => if h : i < m then (each i h).choose else (0, 0), fun i hi => ?_⟩
      simp only [dif_pos hi]
      exact (each i hi).choose_spec
    refine ⟨(List.range len).map f, some a, m, by simp, by simp; omega, some a, m, by simp, fun hp => ?_⟩
    have hp' : 0 < len := by simpa using hp
    have h1 := (hf 0 (by omega)).1
    have hs : a.spot = none := by simpa [Addr.add] using World.cell?_spot h1
    obtain ⟨b, off, spot⟩ := a
    obtain rfl : spot = none := hs
    rw [add_none, add_none] at h1
    refine ⟨b, off, rfl, World.block_lt_of_cell? W _ h1, fun i hi => ?_⟩
    have hi' : i < len := by simpa using hi
    obtain ⟨h2, h3⟩ := hf i (by omega)
    rw [add_none, add_none] at h2 h3
    simpa using ⟨h2, h3⟩
set_option maxRecDepth 100000 in
theorem event_open {H : Type} {enc : TypeId × Value → H} {W : World} {r : Reach} {base : Nat} {v : Value} {d : DataW H} {p : List MemPlace} (hv : Value.okWide Tryd.prog W r base 31 v) (h : DataW.Trod enc Tryd.prog W 0 (fun _ => true) true 31 v d p) :
    ∃ (k : Int) (keys text : ByteArray) (ps : List (Int × Int)) (pa : Option Addr) (pc : Nat) (n l : Int), v = .agg #[.int .i64 k, .string keys, .slice pa ps.length pc, .string text, .int .i64 n, .int .i64 l] ∧ ps.length ≤ maxLen ∧ PtsAt W W.heap.size (.slice pa ps.length pc) ps := by
  obtain ⟨cs, rfl, hsz⟩ := okWide_struct Tryd.underlying31 hv
  rw [cells31] at hsz
  obtain ⟨l⟩ := cs
  match l, hsz with
  | [x0, x1, x2, x3, x4, x5], _ =>
    obtain ⟨fuel, hf⟩ := h
    obtain ⟨xs, f', _, _, _, hlen, hg⟩ := DataW.trod_struct Tryd.underlying31 hf
    match xs, hlen with
    | [y0, y1, y2, y3, y4, y5], _ =>
      have g0 : DataW.trod enc Tryd.prog W 0 (fun _ => true) true f' 3 [x0] = some y0 := by simpa [Value.cells, cells3] using hg 0 _ rfl
      have g1 : DataW.trod enc Tryd.prog W 0 (fun _ => true) true f' 9 [x1] = some y1 := by simpa [Value.cells, cells9] using hg 1 _ rfl
      have g2 : DataW.trod enc Tryd.prog W 0 (fun _ => true) true f' 29 [x2] = some y2 := by simpa [Value.cells, cells29] using hg 2 _ rfl
      have g3 : DataW.trod enc Tryd.prog W 0 (fun _ => true) true f' 9 [x3] = some y3 := by simpa [Value.cells, cells9] using hg 3 _ rfl
      have g4 : DataW.trod enc Tryd.prog W 0 (fun _ => true) true f' 3 [x4] = some y4 := by simpa [Value.cells, cells3] using hg 4 _ rfl
      have g5 : DataW.trod enc Tryd.prog W 0 (fun _ => true) true f' 3 [x5] = some y5 := by simpa [Value.cells, cells3] using hg 5 _ rfl
      obtain ⟨k, hk, -, wk⟩ := DataW.trod_int Tryd.underlying3 g0
      obtain ⟨n, hn, -, wn⟩ := DataW.trod_int Tryd.underlying3 g4
      obtain ⟨m, hm, -, wm⟩ := DataW.trod_int Tryd.underlying3 g5
      obtain ⟨s1, hs1, -⟩ := DataW.trod_string Tryd.underlying9 g1
      obtain ⟨s2, hs2, -⟩ := DataW.trod_string Tryd.underlying9 g3
      obtain rfl : x0 = .int .i64 k := by simpa using hk
      obtain rfl : x4 = .int .i64 n := by simpa using hn
      obtain rfl : x5 = .int .i64 m := by simpa using hm
      obtain rfl : x1 = .string s1 := by simpa using hs1
      obtain rfl : x3 = .string s2 := by simpa using hs2
      obtain ⟨ps, pa, pc, rfl, hpl, hP⟩ := points_open g2
      exact ⟨k, s1, s2, ps, pa, pc, n, m, rfl, hpl, hP⟩
theorem event_back {H : Type} {enc : TypeId × Value → H} {W W' : World} {v : Value} {d : DataW H} {p : List MemPlace} (h : DataW.Trod enc Tryd.prog W 0 (fun _ => true) true 31 v d p) (hb : Below W.heap.size W W') :
    DataW.Trod enc Tryd.prog W' 0 (fun b => decide (b < W.heap.size)) true 31 v d p :=
  Below.trod laid_out rec31 row31 h hb (DataW.TrodAll.lt (trodAll_mk1 h))
end Go.Proofs.YtcbboegjegobeaaDoor
