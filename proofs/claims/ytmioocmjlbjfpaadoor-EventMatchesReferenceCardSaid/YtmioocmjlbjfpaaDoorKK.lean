/-
  A raw event that comes in, opened; it reads the same behind a call that lays memory alone.
-/
import Derived.Test.YtmioocmjlbjfpaaDoorJ0
import Derived.Deep.Slices
import Derived.Carry
import Derived.OpenShut
import Derived.ChangeOld
namespace Go.Proofs.YtmioocmjlbjfpaaDoor
open Go.ChangeShapes Go.WideShapes Go.RowKit
open Pl

theorem cells25 : Tryd.prog.cellsOf 25 = 5 := by kernel_rfl
theorem cells5 : Tryd.prog.cellsOf 5 = 1 := by kernel_rfl
theorem cells22 : Tryd.prog.cellsOf 22 = 1 := by kernel_rfl
theorem cells23 : Tryd.prog.cellsOf 23 = 1 := by kernel_rfl
theorem cells26 : Tryd.prog.cellsOf 26 = 2 := by kernel_rfl
theorem laid_out : laidOutB Tryd.prog = true := by kernel_rfl
theorem rec25 : Tryd.prog.readableRec 25 = true := by kernel_rfl
theorem row25 : 25 < Tryd.prog.types.size := of_decide_eq_true (by kernel_rfl)
theorem add_none (b off i : Nat) : (⟨b, off, none⟩ : Addr).add i = ⟨b, off + i, none⟩ := by
  unfold Addr.add
  split
  · rename_i h; subst h; rfl
  · rfl

theorem bytes_open {H : Type} {enc : TypeId × Value → H} {W : World} {v : Value} {x : DataW H × List MemPlace} {fuel : Nat} (h : DataW.trod enc Tryd.prog W 0 (fun _ => true) true fuel 22 [v] = some x) :
    ∃ a n c, v = .slice a n c ∧ n ≤ maxLen ∧ BytesAt W W.heap.size v n := by
  rcases Deep.open_slice1 Tryd.underlying22 cells5 h with ⟨h0, _⟩ | ⟨a, len, cap, m, n, V, D, Pl, hcs, _, hl, hc, hm, _, hx⟩
  · obtain rfl : v = .slice none 0 0 := by simpa using h0
    exact ⟨none, 0, 0, rfl, Nat.zero_le _, none, 0, rfl, fun h => absurd h (Nat.lt_irrefl _)⟩
  · obtain rfl : v = .slice (some a) len cap := by simpa using hcs
    simp only [if_true] at hm
    subst hm
    refine ⟨some a, len, m, rfl, Nat.le_trans hl hc, some a, m, rfl, fun hp => ?_⟩
    have h1 := (hx 0 (by omega)).1
    have hs : a.spot = none := by simpa [Addr.add] using World.cell?_spot h1
    obtain ⟨b, off, spot⟩ := a
    obtain rfl : spot = none := hs
    rw [add_none] at h1
    refine ⟨b, off, rfl, World.block_lt_of_cell? W _ h1, fun i hi => ?_⟩
    obtain ⟨h2, h3⟩ := hx i (by omega)
    obtain ⟨y, hy, -, hw⟩ := DataW.trod_int Tryd.underlying5 h3
    have hv : V i = .int .u8 y := by simpa using hy
    have bd := bounds_u8 hw
    rw [add_none, hv] at h2
    exact ⟨y, h2, bd.1, bd.2⟩
theorem pairs_open {H : Type} {enc : TypeId × Value → H} {W : World} {v : Value} {x : DataW H × List MemPlace} {fuel : Nat} (h : DataW.trod enc Tryd.prog W 0 (fun _ => true) true fuel 23 [v] = some x) :
    ∃ a n c, v = .slice a n c ∧ n ≤ maxLen ∧ PairsAt W W.heap.size v n := by
  rcases Deep.open_slice Tryd.underlying23 h with ⟨h0, _⟩ | ⟨a, len, cap, m, n, D, Pl, hcs, _, hl, hc, hm, _, hx⟩
  · obtain rfl : v = .slice none 0 0 := by simpa using h0
    exact ⟨none, 0, 0, rfl, Nat.zero_le _, none, 0, rfl, fun h => absurd h (Nat.lt_irrefl _)⟩
  · obtain rfl : v = .slice (some a) len cap := by simpa using hcs
    simp only [if_true] at hm
    subst hm
    rw [cells26] at hx
    have each : ∀ i, i < m → ∃ p q : Nat, W.cell? ((a.add (i * 2)).add 0) = some (.int .u8 (p : Int)) ∧ W.cell? ((a.add (i * 2)).add 1) = some (.int .u8 (q : Int)) ∧ p ≤ 255 ∧ q ≤ 255 := fun i hi => by
      obtain ⟨cs, h1, h2⟩ := hx i hi
      obtain ⟨_, hlen, hat⟩ := World.cells?_some h1
      obtain ⟨xs, m', _, _, _, hxl, hg⟩ := DataW.trod_array Tryd.underlying26 h2
      rw [cells5] at hg
      match cs, hlen with
      | [c0, c1], _ =>
        match xs, hxl with
        | [q0, q1], _ =>
          have g0 : DataW.trod enc Tryd.prog W 0 (fun _ => true) true m' 5 [c0] = some q0 := by simpa using hg 0 (by omega)
          have g1 : DataW.trod enc Tryd.prog W 0 (fun _ => true) true m' 5 [c1] = some q1 := by simpa using hg 1 (by omega)
          obtain ⟨y0, hy0, -, hw0⟩ := DataW.trod_int Tryd.underlying5 g0
          obtain ⟨y1, hy1, -, hw1⟩ := DataW.trod_int Tryd.underlying5 g1
          obtain rfl : c0 = .int .u8 y0 := by simpa using hy0
          obtain rfl : c1 = .int .u8 y1 := by simpa using hy1
          have b0 := bounds_u8 hw0
          have b1 := bounds_u8 hw1
          obtain ⟨p, rfl⟩ := Int.eq_ofNat_of_zero_le b0.1
          obtain ⟨q, rfl⟩ := Int.eq_ofNat_of_zero_le b1.1
          exact ⟨p, q, by simpa using hat 0 (by omega), by simpa using hat 1 (by omega), by omega, by omega⟩
    refine ⟨some a, len, m, rfl, Nat.le_trans hl hc, some a, m, rfl, fun hp => ?_⟩
    obtain ⟨p0, q0, h1, -⟩ := each 0 (by omega)
    have hs : a.spot = none := by simpa [Addr.add] using World.cell?_spot h1
    obtain ⟨b, off, spot⟩ := a
    obtain rfl : spot = none := hs
    rw [add_none, add_none] at h1
    refine ⟨b, off, rfl, World.block_lt_of_cell? W _ h1, fun i hi => ?_⟩
    obtain ⟨p, q, h2, h3, h4, h5⟩ := each i (by omega)
    rw [add_none, add_none] at h2 h3
    exact ⟨p, q, h2, h3, h4, h5⟩
set_option maxRecDepth 100000 in
theorem raw_open {H : Type} {enc : TypeId × Value → H} {W : World} {r : Reach} {base : Nat} {v : Value} {d : DataW H} {p : List MemPlace} (hv : Value.okWide Tryd.prog W r base 25 v) (h : DataW.Trod enc Tryd.prog W 0 (fun _ => true) true 25 v d p) :
    ∃ (k n m : Int) (la pa : Option Addr) (ln lc pn pc : Nat), v = .agg #[.int .u8 k, .slice la ln lc, .slice pa pn pc, .int .u8 n, .int .u8 m] ∧ RawAt W W.heap.size v := by
  obtain ⟨cs, rfl, hsz⟩ := okWide_struct Tryd.underlying25 hv
  rw [cells25] at hsz
  obtain ⟨l⟩ := cs
  match l, hsz with
  | [x0, x1, x2, x3, x4], _ =>
    obtain ⟨fuel, hf⟩ := h
    obtain ⟨xs, f', _, _, _, hlen, hg⟩ := DataW.trod_struct Tryd.underlying25 hf
    match xs, hlen with
    | [y0, y1, y2, y3, y4], _ =>
      have g0 : DataW.trod enc Tryd.prog W 0 (fun _ => true) true f' 5 [x0] = some y0 := by simpa [Value.cells, cells5] using hg 0 _ rfl
      have g1 : DataW.trod enc Tryd.prog W 0 (fun _ => true) true f' 22 [x1] = some y1 := by simpa [Value.cells, cells22] using hg 1 _ rfl
      have g2 : DataW.trod enc Tryd.prog W 0 (fun _ => true) true f' 23 [x2] = some y2 := by simpa [Value.cells, cells23] using hg 2 _ rfl
      have g3 : DataW.trod enc Tryd.prog W 0 (fun _ => true) true f' 5 [x3] = some y3 := by simpa [Value.cells, cells5] using hg 3 _ rfl
      have g4 : DataW.trod enc Tryd.prog W 0 (fun _ => true) true f' 5 [x4] = some y4 := by simpa [Value.cells, cells5] using hg 4 _ rfl
      obtain ⟨k, hk, -, wk⟩ := DataW.trod_int Tryd.underlying5 g0
      obtain ⟨n, hn, -, wn⟩ := DataW.trod_int Tryd.underlying5 g3
      obtain ⟨m, hm, -, wm⟩ := DataW.trod_int Tryd.underlying5 g4
      obtain rfl : x0 = .int .u8 k := by simpa using hk
      obtain rfl : x3 = .int .u8 n := by simpa using hn
      obtain rfl : x4 = .int .u8 m := by simpa using hm
      obtain ⟨la, ln, lc, rfl, hln, hL⟩ := bytes_open g1
      obtain ⟨pa, pn, pc, rfl, hpn, hP⟩ := pairs_open g2
      have bk := bounds_u8 wk
      have bn := bounds_u8 wn
      have bm := bounds_u8 wm
      exact ⟨k, n, m, la, pa, ln, lc, pn, pc, rfl, k, n, m, _, _, ln, pn, rfl, bk, bn, bm, ⟨hL, hln⟩, hP, hpn⟩
theorem raw_back {H : Type} {enc : TypeId × Value → H} {W W' : World} {v : Value} {d : DataW H} {p : List MemPlace} (h : DataW.Trod enc Tryd.prog W 0 (fun _ => true) true 25 v d p) (hb : Below W.heap.size W W') :
    DataW.Trod enc Tryd.prog W' 0 (fun b => decide (b < W.heap.size)) true 25 v d p :=
  Below.trod laid_out rec25 row25 h hb (DataW.TrodAll.lt (trodAll_mk1 h))
end Go.Proofs.YtmioocmjlbjfpaaDoor
