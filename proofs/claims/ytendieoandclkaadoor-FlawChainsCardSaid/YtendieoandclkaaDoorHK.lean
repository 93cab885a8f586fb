/-
  A slice of bytes as an argument; FlawChains for any arguments.
-/
import Derived.Test.YtendieoandclkaaDoorHH
import Derived.Test.YtendieoandclkaaDoorGZ
namespace Go.Proofs.YtendieoandclkaaDoor
open Go.ChangeShapes Go.WideShapes Go.ChangeAt Go.RowKit Go.ChangeMaps

theorem u8_out : laidOutB Tryd.prog = true := by kernel_rfl
theorem cells49 : Tryd.prog.cellsOf 5 = 1 := by kernel_rfl
theorem rec49 : Tryd.prog.readableRec 49 = true := by kernel_rfl
theorem row49 : 49 < Tryd.prog.types.size := of_decide_eq_true (by kernel_rfl)
set_option maxRecDepth 100000 in
theorem u8_open {H : Type} {enc : TypeId × Value → H} {W : World} {v : Value} {x : DataW H × List MemPlace} {fuel : Nat} (h : DataW.trod enc Tryd.prog W 0 (fun _ => true) true fuel 49 [v] = some x) :
    ∃ a n c, v = .slice a n c ∧ n ≤ maxLen ∧ U8At W W.heap.size v n := by
  rcases Deep.open_slice1 Tryd.underlying49 cells49 h with ⟨h0, _⟩ | ⟨a, len, cap, m, n, V, D, Pl, hcs, _, hl, hc, hm, _, hx⟩
  · obtain rfl : v = .slice none 0 0 := by simpa using h0
    exact ⟨none, 0, 0, rfl, Nat.zero_le _, none, 0, rfl, fun h => absurd h (Nat.lt_irrefl _)⟩
  · obtain rfl : v = .slice (some a) len cap := by simpa using hcs
    simp only [if_true] at hm
    subst hm
    refine ⟨some a, len, m, rfl, Nat.le_trans hl hc, some a, m, rfl, fun hp => ?_⟩
    have h1 := (hx 0 (by omega)).1
    have hs : a.spot = none := by simpa [Addr.add] using World.cell?_spot h1
    obtain ⟨b, off, spot⟩ := a
    obtain rfl : spot = none := hs
    rw [add_none] at h1
    refine ⟨b, off, rfl, World.block_lt_of_cell? W _ h1, fun i hi => ?_⟩
    obtain ⟨h2, h3⟩ := hx i (by omega)
    obtain ⟨y, hy, -, hw⟩ := DataW.trod_int Tryd.underlying5 h3
    have hv : V i = .int .u8 y := by simpa using hy
    have bd := bounds_u8 hw
    rw [add_none, hv] at h2
    obtain ⟨z, rfl⟩ : ∃ z : Nat, y = (z : Int) := ⟨y.toNat, by have := bd.1; omega⟩
    exact ⟨z, h2, by have := bd.2; omega⟩
set_option maxRecDepth 100000 in
theorem open_tU8s {H : Type} {enc : TypeId × Value → H} {W : World} {r : Reach} {base : Nat} {v : Value} {d : DataW H} {p : List MemPlace} (hv : Value.okWide Tryd.prog W r base 49 v) (h : DataW.Trod enc Tryd.prog W 0 (fun _ => true) true 49 v d p) :
    ∃ o : Option Addr × Nat × Nat, v = .slice o.1 o.2.1 o.2.2 ∧ (o.2.1 ≤ maxLen ∧ U8At W W.heap.size (.slice o.1 o.2.1 o.2.2) o.2.1) := by
  obtain ⟨a0, n0, c0, rfl⟩ := okWide_slice Tryd.underlying49 hv
  obtain ⟨fuel, hf⟩ := h
  have hf' : DataW.trod enc Tryd.prog W 0 (fun _ => true) true fuel 49 [.slice a0 n0 c0] = some (d, p) := hf
  obtain ⟨a, n, c, he, hl, hx⟩ := u8_open hf'
  obtain ⟨rfl, rfl, rfl⟩ : a0 = a ∧ n0 = n ∧ c0 = c := by simpa using he
  exact ⟨(a0, n0, c0), rfl, hl, hx⟩
set_option maxRecDepth 100000 in
theorem back_tU8s {H : Type} {enc : TypeId × Value → H} {W W' : World} {v : Value} {d : DataW H} {p : List MemPlace} (h : DataW.Trod enc Tryd.prog W 0 (fun _ => true) true 49 v d p) (hb : Below W.heap.size W W') :
    DataW.Trod enc Tryd.prog W' 0 (fun b => decide (b < W.heap.size)) true 49 v d p :=
  Below.trod u8_out rec49 row49 h hb (DataW.TrodAll.lt (trodAll_mk1 h))
theorem chains_any (o : Nat × Nat × Option Addr × Nat × Nat) (q : Option Addr × Nat × Nat) (n : Int) (w : World) (hT : StrTab w) (h0 : 0 < w.heap.size) (ho : o.1 < 256 ∧ o.2.1 < 256 ∧ o.2.2.2.1 ≤ maxLen ∧ TrisAt w w.heap.size (.slice o.2.2.1 o.2.2.2.1 o.2.2.2.2) o.2.2.2.1) (hq : q.2.1 ≤ maxLen ∧ U8At w w.heap.size (.slice q.1 q.2.1 q.2.2) q.2.1) (hn : 0 ≤ n ∧ n ≤ 255) :
    Calls Tryd.prog 5 #[.agg #[.int .u8 (o.1 : Nat), .int .u8 (o.2.1 : Nat), .slice o.2.2.1 o.2.2.2.1 o.2.2.2.2], .slice q.1 q.2.1 q.2.2, .int .u8 n] w fun e w' => e = .returned (.bool true) ∧ Below w.heap.size w w' := by
  obtain ⟨k, rfl⟩ : ∃ k : Nat, n = (k : Int) := ⟨n.toNat, by omega⟩
  exact FlawChains_any o.1 o.2.1 o.2.2.1 o.2.2.2.1 o.2.2.2.2 q.1 q.2.1 q.2.2 w hT h0 ho.1 ho.2.1 ho.2.2.2 ho.2.2.1 hq.2 hq.1 k (by omega)
end Go.Proofs.YtendieoandclkaaDoor
