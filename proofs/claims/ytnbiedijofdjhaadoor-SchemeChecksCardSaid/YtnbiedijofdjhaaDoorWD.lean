/-
  Schemes as arguments and in a row.
-/
import Derived.Test.YtnbiedijofdjhaaDoorVW
import Derived.Test.YtnbiedijofdjhaaDoorWC
namespace Go.Proofs.YtnbiedijofdjhaaDoor
open Go.ChangeShapes Go.WideShapes Go.ChangeAt Go.RowKit Go.ChangeMaps
open Pl

theorem cellsRules : Tryd.prog.cellsOf 22 = 1 := by kernel_rfl
theorem cellsScheme : Tryd.prog.cellsOf 24 = 3 := by kernel_rfl
theorem rec24 : Tryd.prog.readableRec 24 = true := by kernel_rfl
theorem row24 : 24 < Tryd.prog.types.size := of_decide_eq_true (by kernel_rfl)
/-- What is asked of a scheme that came in: its rules lie in memory, and all its texts and numbers are of this machine. -/
def SchOk (W : World) (m a : Int) (ad : Option Addr) (c : Nat) (rl : List Rl) : Prop := RlsAt W W.heap.size (.slice ad rl.length c) rl ∧ rl.length ≤ c ∧ rl.length ≤ maxLen ∧ (∀ x ∈ rl, x.inp.length ≤ maxLen ∧ x.out.length ≤ maxLen) ∧ (-9223372036854775808 ≤ m ∧ m ≤ 9223372036854775807) ∧ (0 ≤ a ∧ a ≤ 255)
theorem SchOk.on {W W' : World} {m a : Int} {ad : Option Addr} {c : Nat} {rl : List Rl} (h : SchOk W m a ad c rl) (hb : Below W.heap.size W W') : SchOk W' m a ad c rl := ⟨h.1.on hb, h.2⟩
set_option maxRecDepth 100000 in
theorem rulesIn_open {H : Type} {enc : TypeId × Value → H} {W : World} {v : Value} {x : DataW H × List MemPlace} {fuel : Nat} (hf : DataW.trod enc Tryd.prog W 0 (fun _ => true) true fuel 22 [v] = some x) :
    ∃ (a : Option Addr) (c : Nat) (rl : List Rl), v = .slice a rl.length c ∧ rl.length ≤ c ∧ rl.length ≤ maxLen ∧ (∀ x ∈ rl, x.inp.length ≤ maxLen ∧ x.out.length ≤ maxLen) ∧ RlsAt W W.heap.size (.slice a rl.length c) rl := by
  rcases Deep.open_slice Tryd.underlying22 hf with ⟨h0, _⟩ | ⟨a, len, cap, m, n, D, Pl, hcs, _, hl, hc, hm, _, hx⟩
  · obtain rfl : v = .slice none 0 0 := by simpa using h0
    exact ⟨none, 0, [], rfl, Nat.le_refl _, Nat.zero_le _, (fun x hx => absurd hx List.not_mem_nil), none, 0, rfl, fun h => absurd h (Nat.lt_irrefl _)⟩
  · obtain rfl : v = .slice (some a) len cap := by simpa using hcs
    simp only [if_true] at hm
    subst hm
    rw [cellsRule] at hx
    have each : ∀ i, i < len → ∃ r : Rl, W.cell? ((a.add (i * 5)).add 0) = some (.int .i64 r.src) ∧ W.cell? ((a.add (i * 5)).add 1) = some (.int .i64 r.dst) ∧ W.cell? ((a.add (i * 5)).add 2) = some (.string (B r.inp)) ∧ W.cell? ((a.add (i * 5)).add 3) = some (.string (B r.out)) ∧ W.cell? ((a.add (i * 5)).add 4) = some (.int .i64 r.cost) ∧ r.inp.length ≤ maxLen ∧ r.out.length ≤ maxLen := fun i hi => by
      obtain ⟨cs, h1, h2⟩ := hx i (by omega)
      obtain ⟨_, hlen, hat⟩ := World.cells?_some h1
      obtain ⟨r, rfl, hR⟩ := rule_cells hlen h2
      exact ⟨r, by simpa using hat 0 (by omega), by simpa using hat 1 (by omega), by simpa using hat 2 (by omega), by simpa using hat 3 (by omega), by simpa using hat 4 (by omega), hR⟩
    obtain ⟨rl, hlen, hrl⟩ : ∃ rl : List Rl, rl.length = len ∧ ∀ i (h : i < rl.length), W.cell? ((a.add (i * 5)).add 0) = some (.int .i64 rl[i].src) ∧ W.cell? ((a.add (i * 5)).add 1) = some (.int .i64 rl[i].dst) ∧ W.cell? ((a.add (i * 5)).add 2) = some (.string (B rl[i].inp)) ∧ W.cell? ((a.add (i * 5)).add 3) = some (.string (B rl[i].out)) ∧ W.cell? ((a.add (i * 5)).add 4) = some (.int .i64 rl[i].cost) ∧ rl[i].inp.length ≤ maxLen ∧ rl[i].out.length ≤ maxLen := by
      refine ⟨(List.range len).map fun i => if h : i < len then (each i h).choose else ⟨0, 0, [], [], 0⟩, by simp, fun i h => ?_⟩
      have hi : i < len := by simpa using h
      simp only [List.getElem_map, List.getElem_range, dif_pos hi]
      exact (each i hi).choose_spec
    subst hlen
    refine ⟨some a, m, rl, rfl, hl, Nat.le_trans hl hc, fun x hx => ?_, some a, m, rfl, fun hp => ?_⟩
    · obtain ⟨i, hi, rfl⟩ := List.getElem_of_mem hx
      exact (hrl i hi).2.2.2.2.2
    obtain ⟨h1, -⟩ := hrl 0 hp
    have hs : a.spot = none := by simpa [Addr.add] using World.cell?_spot h1
    obtain ⟨b, off, spot⟩ := a
    obtain rfl : spot = none := hs
    rw [add_none, add_none] at h1
    refine ⟨b, off, rfl, World.block_lt_of_cell? W _ h1, fun i hi => ?_⟩
    obtain ⟨e0, e1, e2, e3, e4, -⟩ := hrl i hi
    rw [add_none, add_none] at e0 e1 e2 e3 e4
    exact ⟨e0, e1, e2, e3, e4⟩
set_option maxRecDepth 100000 in
theorem open_tScheme {H : Type} {enc : TypeId × Value → H} {W : World} {r : Reach} {base : Nat} {v : Value} {d : DataW H} {p : List MemPlace} (hv : Value.okWide Tryd.prog W r base 24 v) (h : DataW.Trod enc Tryd.prog W 0 (fun _ => true) true 24 v d p) :
    ∃ o : Int × Int × Option Addr × Nat × List Rl, v = .agg #[.int .i64 o.1, .int .u8 o.2.1, .slice o.2.2.1 o.2.2.2.2.length o.2.2.2.1] ∧ SchOk W o.1 o.2.1 o.2.2.1 o.2.2.2.1 o.2.2.2.2 := by
  obtain ⟨cs, rfl, hsz⟩ := okWide_struct Tryd.underlying24 hv
  rw [cellsScheme] at hsz
  obtain ⟨l⟩ := cs
  match l, hsz with
  | [x0, x1, x2], _ =>
    obtain ⟨fuel, hf⟩ := h
    obtain ⟨xs, f', _, _, _, hlen, hg⟩ := DataW.trod_struct Tryd.underlying24 hf
    match xs, hlen with
    | [y0, y1, y2], _ =>
      have g0 : DataW.trod enc Tryd.prog W 0 (fun _ => true) true f' 3 [x0] = some y0 := by simpa [Value.cells, cellsInt] using hg 0 _ rfl
      have g1 : DataW.trod enc Tryd.prog W 0 (fun _ => true) true f' 5 [x1] = some y1 := by simpa [Value.cells, cellsU8] using hg 1 _ rfl
      have g2 : DataW.trod enc Tryd.prog W 0 (fun _ => true) true f' 22 [x2] = some y2 := by simpa [Value.cells, cellsRules] using hg 2 _ rfl
      obtain ⟨k, hk, -, wk⟩ := DataW.trod_int Tryd.underlying3 g0
      obtain ⟨n, hn, -, wn⟩ := DataW.trod_int Tryd.underlying5 g1
      obtain rfl : x0 = .int .i64 k := by simpa using hk
      obtain rfl : x1 = .int .u8 n := by simpa using hn
      obtain ⟨a, c, rl, rfl, h1, h2, h3, h4⟩ := rulesIn_open g2
      exact ⟨(k, n, a, c, rl), rfl, h4, h1, h2, h3, bounds_i64 wk, bounds_u8 wn⟩
set_option maxRecDepth 100000 in
theorem back_tScheme {H : Type} {enc : TypeId × Value → H} {W W' : World} {v : Value} {d : DataW H} {p : List MemPlace} (h : DataW.Trod enc Tryd.prog W 0 (fun _ => true) true 24 v d p) (hb : Below W.heap.size W W') :
    DataW.Trod enc Tryd.prog W' 0 (fun b => decide (b < W.heap.size)) true 24 v d p :=
  Below.trod raw_out rec24 row24 h hb (DataW.TrodAll.lt (trodAll_mk1 h))
/-- A scheme in a row of schemes, from a place of a block on. -/
def SchIn (W : World) (G o : Nat) : Prop := ∃ (m a : Int) (ad : Option Addr) (c : Nat) (rl : List Rl), W.cell? ⟨G, o, none⟩ = some (.int .i64 m) ∧ W.cell? ⟨G, o + 1, none⟩ = some (.int .u8 a) ∧ W.cell? ⟨G, o + 2, none⟩ = some (.slice ad rl.length c) ∧ G < W.heap.size ∧ SchOk W m a ad c rl
theorem SchIn.on {W W' : World} {G o : Nat} (h : SchIn W G o) (hb : Below W.heap.size W W') : SchIn W' G o := by
  obtain ⟨m, a, ad, c, rl, h0, h1, h2, h3, h4⟩ := h
  have e := fun o => hb.cell (p := ⟨G, o, none⟩) h3
  exact ⟨m, a, ad, c, rl, (e _).trans h0, (e _).trans h1, (e _).trans h2, Nat.lt_of_lt_of_le h3 hb.size, h4.on hb⟩
theorem layC (w : World) (v0 : Value) (m a : Int) (k d : Int) (v : Value) (y : Rl) : SchBlock (((w.alloc (.cells #[.int .i64 m, .int .u8 a, v0] 24)).alloc (.cells #[.int .u8 k, .int .u8 d, v] 27)).alloc (.cells #[.int .i64 y.src, .int .i64 y.dst, .string (B y.inp), .string (B y.out), .int .i64 y.cost] 29)) w.heap.size (.int .i64 m) (.int .u8 a) v0 ∧ RwBlock (((w.alloc (.cells #[.int .i64 m, .int .u8 a, v0] 24)).alloc (.cells #[.int .u8 k, .int .u8 d, v] 27)).alloc (.cells #[.int .i64 y.src, .int .i64 y.dst, .string (B y.inp), .string (B y.out), .int .i64 y.cost] 29)) (w.heap.size + 1) k d v ∧ RlBlock (((w.alloc (.cells #[.int .i64 m, .int .u8 a, v0] 24)).alloc (.cells #[.int .u8 k, .int .u8 d, v] 27)).alloc (.cells #[.int .i64 y.src, .int .i64 y.dst, .string (B y.inp), .string (B y.out), .int .i64 y.cost] 29)) (w.heap.size + 2) y ∧ Below w.heap.size w (((w.alloc (.cells #[.int .i64 m, .int .u8 a, v0] 24)).alloc (.cells #[.int .u8 k, .int .u8 d, v] 27)).alloc (.cells #[.int .i64 y.src, .int .i64 y.dst, .string (B y.inp), .string (B y.out), .int .i64 y.cost] 29)) := by
  obtain ⟨k0, k1, hb⟩ := layO (w.alloc (.cells #[.int .i64 m, .int .u8 a, v0] 24)) k d v y
  have al := (Below.refl w.heap.size w).alloc (Nat.le_refl _) (.cells #[.int .i64 m, .int .u8 a, v0] 24)
  rw [World.size_alloc] at k0 k1
  exact ⟨(SchBlock.new w _ _ _).below hb, k0, k1, al.trans (hb.mono al.size)⟩
end Go.Proofs.YtnbiedijofdjhaaDoor
