/-
  A raw scheme and three bytes as arguments; SchemeRules for any of them.
-/
import Derived.Test.YtnbiedijofdjhaaDoorVL
import Derived.Test.YtnbiedijofdjhaaDoorVD
namespace Go.Proofs.YtnbiedijofdjhaaDoor
open Go.ChangeShapes Go.WideShapes Go.ChangeAt Go.RowKit Go.ChangeMaps

theorem raw_out : laidOutB Tryd.prog = true := by kernel_rfl
theorem cellsU8 : Tryd.prog.cellsOf 5 = 1 := by kernel_rfl
theorem cellsU8s : Tryd.prog.cellsOf 56 = 1 := by kernel_rfl
theorem cellsThree : Tryd.prog.cellsOf 47 = 3 := by kernel_rfl
theorem cellsRaw : Tryd.prog.cellsOf 27 = 3 := by kernel_rfl
theorem cellsRawRules : Tryd.prog.cellsOf 25 = 1 := by kernel_rfl
theorem cellsRawRule : Tryd.prog.cellsOf 90 = 5 := by kernel_rfl
theorem rec47 : Tryd.prog.readableRec 47 = true := by kernel_rfl
theorem row47 : 47 < Tryd.prog.types.size := of_decide_eq_true (by kernel_rfl)
theorem rec27 : Tryd.prog.readableRec 27 = true := by kernel_rfl
theorem row27 : 27 < Tryd.prog.types.size := of_decide_eq_true (by kernel_rfl)
theorem okWide_arr2 {P : Program} {w : World} {r : Reach} {base : Nat} {t : TypeId} {v : Value} {n : Nat} {e : TypeId} (ht : P.underlying t = some (.array n e)) (h : Value.okWide P w r base t v) : ∃ cs, v = .agg cs ∧ cs.size = P.cellsOf t := by
  simp only [Value.okWide, ht] at h
  obtain ⟨cs, h1, h2, _⟩ := h
  exact ⟨cs, h1, h2⟩
set_option maxRecDepth 100000 in
theorem open_tThree {H : Type} {enc : TypeId × Value → H} {W : World} {r : Reach} {base : Nat} {v : Value} {d : DataW H} {p : List MemPlace} (hv : Value.okWide Tryd.prog W r base 47 v) (h : DataW.Trod enc Tryd.prog W 0 (fun _ => true) true 47 v d p) :
    ∃ a : Int × Int × Int, v = .agg #[.int .u8 a.1, .int .u8 a.2.1, .int .u8 a.2.2] ∧ (0 ≤ a.1 ∧ a.1 ≤ 255) ∧ (0 ≤ a.2.1 ∧ a.2.1 ≤ 255) ∧ (0 ≤ a.2.2 ∧ a.2.2 ≤ 255) := by
  obtain ⟨cs, rfl, hsz⟩ := okWide_arr2 Tryd.underlying47 hv
  rw [cellsThree] at hsz
  obtain ⟨l⟩ := cs
  obtain ⟨x0, x1, x2, rfl⟩ : ∃ x0 x1 x2, l = [x0, x1, x2] := by
    clear h hv
    match l, hsz with
    | [x0, x1, x2], _ => exact ⟨x0, x1, x2, rfl⟩
  obtain ⟨fuel, hf⟩ := h
  obtain ⟨xs, m', -, -, -, hxl, hg⟩ := DataW.trod_array Tryd.underlying47 hf
  rw [cellsU8] at hg
  obtain ⟨q0, q1, q2, rfl⟩ : ∃ q0 q1 q2, xs = [q0, q1, q2] := by
    clear hg hf
    match xs, hxl with
    | [q0, q1, q2], _ => exact ⟨q0, q1, q2, rfl⟩
  have g0 : DataW.trod enc Tryd.prog W 0 (fun _ => true) true m' 5 [x0] = some q0 := by simpa [Value.cells] using hg 0 (by omega)
  have g1 : DataW.trod enc Tryd.prog W 0 (fun _ => true) true m' 5 [x1] = some q1 := by simpa [Value.cells] using hg 1 (by omega)
  have g2 : DataW.trod enc Tryd.prog W 0 (fun _ => true) true m' 5 [x2] = some q2 := by simpa [Value.cells] using hg 2 (by omega)
  obtain ⟨y0, hy0, -, hw0⟩ := DataW.trod_int Tryd.underlying5 g0
  obtain ⟨y1, hy1, -, hw1⟩ := DataW.trod_int Tryd.underlying5 g1
  obtain ⟨y2, hy2, -, hw2⟩ := DataW.trod_int Tryd.underlying5 g2
  obtain rfl : x0 = .int .u8 y0 := by simpa using hy0
  obtain rfl : x1 = .int .u8 y1 := by simpa using hy1
  obtain rfl : x2 = .int .u8 y2 := by simpa using hy2
  exact ⟨(y0, y1, y2), rfl, bounds_u8 hw0, bounds_u8 hw1, bounds_u8 hw2⟩
set_option maxRecDepth 100000 in
theorem back_tThree {H : Type} {enc : TypeId × Value → H} {W W' : World} {v : Value} {d : DataW H} {p : List MemPlace} (h : DataW.Trod enc Tryd.prog W 0 (fun _ => true) true 47 v d p) (hb : Below W.heap.size W W') :
    DataW.Trod enc Tryd.prog W' 0 (fun b => decide (b < W.heap.size)) true 47 v d p :=
  Below.trod raw_out rec47 row47 h hb (DataW.TrodAll.lt (trodAll_mk1 h))
set_option maxRecDepth 100000 in
theorem rawRule_cells {H : Type} {enc : TypeId × Value → H} {W : World} {cs : List Value} {x : DataW H × List MemPlace} {fuel : Nat} (hlen : cs.length = 5) (hf : DataW.trod enc Tryd.prog W 0 (fun _ => true) true fuel 90 cs = some x) :
    ∃ (la oa : Option Addr) (lc oc : Nat) (f t k : Int) (xs ys : List Int), cs = [.slice la xs.length lc, .slice oa ys.length oc, .int .u8 f, .int .u8 t, .int .u8 k] ∧ BytesIs W W.heap.size (.slice la xs.length lc) xs ∧ BytesIs W W.heap.size (.slice oa ys.length oc) ys ∧ xs.length ≤ maxLen ∧ ys.length ≤ maxLen ∧ (0 ≤ f ∧ f ≤ 255) ∧ (0 ≤ t ∧ t ≤ 255) ∧ (0 ≤ k ∧ k ≤ 255) := by
  match cs, hlen with
  | [x0, x1, x2, x3, x4], _ =>
    obtain ⟨zs, f', _, _, _, hlen, hg⟩ := DataW.trod_struct Tryd.underlying90 hf
    match zs, hlen with
    | [y0, y1, y2, y3, y4], _ =>
      have g0 : DataW.trod enc Tryd.prog W 0 (fun _ => true) true f' 56 [x0] = some y0 := by simpa [Value.cells, cellsU8s] using hg 0 _ rfl
      have g1 : DataW.trod enc Tryd.prog W 0 (fun _ => true) true f' 56 [x1] = some y1 := by simpa [Value.cells, cellsU8s] using hg 1 _ rfl
      have g2 : DataW.trod enc Tryd.prog W 0 (fun _ => true) true f' 5 [x2] = some y2 := by simpa [Value.cells, cellsU8] using hg 2 _ rfl
      have g3 : DataW.trod enc Tryd.prog W 0 (fun _ => true) true f' 5 [x3] = some y3 := by simpa [Value.cells, cellsU8] using hg 3 _ rfl
      have g4 : DataW.trod enc Tryd.prog W 0 (fun _ => true) true f' 5 [x4] = some y4 := by simpa [Value.cells, cellsU8] using hg 4 _ rfl
      obtain ⟨f, hf, -, wf⟩ := DataW.trod_int Tryd.underlying5 g2
      obtain ⟨t, ht, -, wt⟩ := DataW.trod_int Tryd.underlying5 g3
      obtain ⟨k, hk, -, wk⟩ := DataW.trod_int Tryd.underlying5 g4
      obtain rfl : x2 = .int .u8 f := by simpa using hf
      obtain rfl : x3 = .int .u8 t := by simpa using ht
      obtain rfl : x4 = .int .u8 k := by simpa using hk
      obtain ⟨la, ln, lc, rfl, hln, hL⟩ := bytes_open g0
      obtain ⟨oa, on, oc, rfl, hon, hO⟩ := bytes_open g1
      obtain ⟨xs, rfl, hX⟩ := BytesIs.of hL
      obtain ⟨ys, rfl, hY⟩ := BytesIs.of hO
      exact ⟨la, oa, lc, oc, f, t, k, xs, ys, rfl, hX, hY, hln, hon, bounds_u8 wf, bounds_u8 wt, bounds_u8 wk⟩
set_option maxRecDepth 100000 in
theorem rawRules_open {H : Type} {enc : TypeId × Value → H} {W : World} {v : Value} {x : DataW H × List MemPlace} {fuel : Nat} (hf : DataW.trod enc Tryd.prog W 0 (fun _ => true) true fuel 25 [v] = some x) :
    ∃ (a : Option Addr) (n c : Nat), v = .slice a n c ∧ n ≤ maxLen ∧ RawsAt W W.heap.size (.slice a n c) n := by
  rcases Deep.open_slice Tryd.underlying25 hf with ⟨h0, _⟩ | ⟨a, len, cap, m, n, D, Pl, hcs, _, hl, hc, hm, _, hx⟩
  · obtain rfl : v = .slice none 0 0 := by simpa using h0
    exact ⟨none, 0, 0, rfl, Nat.zero_le _, none, 0, rfl, fun h => absurd h (Nat.lt_irrefl _)⟩
  · obtain rfl : v = .slice (some a) len cap := by simpa using hcs
    simp only [if_true] at hm
    subst hm
    rw [cellsRawRule] at hx
    have each : ∀ i, i < m → ∃ (la oa : Option Addr) (lc oc : Nat) (f t k : Int) (xs ys : List Int), W.cell? ((a.add (i * 5)).add 0) = some (.slice la xs.length lc) ∧ W.cell? ((a.add (i * 5)).add 1) = some (.slice oa ys.length oc) ∧ W.cell? ((a.add (i * 5)).add 2) = some (.int .u8 f) ∧ W.cell? ((a.add (i * 5)).add 3) = some (.int .u8 t) ∧ W.cell? ((a.add (i * 5)).add 4) = some (.int .u8 k) ∧
        BytesIs W W.heap.size (.slice la xs.length lc) xs ∧ BytesIs W W.heap.size (.slice oa ys.length oc) ys ∧ xs.length ≤ maxLen ∧ ys.length ≤ maxLen ∧ (0 ≤ f ∧ f ≤ 255) ∧ (0 ≤ t ∧ t ≤ 255) ∧ (0 ≤ k ∧ k ≤ 255) := fun i hi => by
      obtain ⟨cs, h1, h2⟩ := hx i hi
      obtain ⟨_, hlen, hat⟩ := World.cells?_some h1
      obtain ⟨la, oa, lc, oc, f, t, k, xs, ys, rfl, hR⟩ := rawRule_cells hlen h2
      exact ⟨la, oa, lc, oc, f, t, k, xs, ys, by simpa using hat 0 (by omega), by simpa using hat 1 (by omega), by simpa using hat 2 (by omega), by simpa using hat 3 (by omega), by simpa using hat 4 (by omega), hR⟩
    refine ⟨some a, len, m, rfl, Nat.le_trans hl hc, some a, m, rfl, fun hp => ?_⟩
    obtain ⟨_, _, _, _, _, _, _, _, _, h1, -⟩ := each 0 (by omega)
    have hs : a.spot = none := by simpa [Addr.add] using World.cell?_spot h1
    obtain ⟨b, off, spot⟩ := a
    obtain rfl : spot = none := hs
    rw [add_none, add_none] at h1
    refine ⟨b, off, rfl, World.block_lt_of_cell? W _ h1, fun i hi => ?_⟩
    obtain ⟨la, oa, lc, oc, f, t, k, xs, ys, e0, e1, e2, e3, e4, hR⟩ := each i (by omega)
    rw [add_none, add_none] at e0 e1 e2 e3 e4
    exact ⟨la, oa, lc, oc, f, t, k, xs, ys, e0, e1, e2, e3, e4, hR⟩
set_option maxRecDepth 100000 in
theorem open_tRaw {H : Type} {enc : TypeId × Value → H} {W : World} {r : Reach} {base : Nat} {v : Value} {d : DataW H} {p : List MemPlace} (hv : Value.okWide Tryd.prog W r base 27 v) (h : DataW.Trod enc Tryd.prog W 0 (fun _ => true) true 27 v d p) :
    ∃ o : Int × Int × Option Addr × Nat × Nat, v = .agg #[.int .u8 o.1, .int .u8 o.2.1, .slice o.2.2.1 o.2.2.2.1 o.2.2.2.2] ∧ (0 ≤ o.1 ∧ o.1 ≤ 255) ∧ (0 ≤ o.2.1 ∧ o.2.1 ≤ 255) ∧ o.2.2.2.1 ≤ maxLen ∧ RawsAt W W.heap.size (.slice o.2.2.1 o.2.2.2.1 o.2.2.2.2) o.2.2.2.1 := by
  obtain ⟨cs, rfl, hsz⟩ := okWide_struct Tryd.underlying27 hv
  rw [cellsRaw] at hsz
  obtain ⟨l⟩ := cs
  match l, hsz with
  | [x0, x1, x2], _ =>
    obtain ⟨fuel, hf⟩ := h
    obtain ⟨xs, f', _, _, _, hlen, hg⟩ := DataW.trod_struct Tryd.underlying27 hf
    match xs, hlen with
    | [y0, y1, y2], _ =>
      have g0 : DataW.trod enc Tryd.prog W 0 (fun _ => true) true f' 5 [x0] = some y0 := by simpa [Value.cells, cellsU8] using hg 0 _ rfl
      have g1 : DataW.trod enc Tryd.prog W 0 (fun _ => true) true f' 5 [x1] = some y1 := by simpa [Value.cells, cellsU8] using hg 1 _ rfl
      have g2 : DataW.trod enc Tryd.prog W 0 (fun _ => true) true f' 25 [x2] = some y2 := by simpa [Value.cells, cellsRawRules] using hg 2 _ rfl
      obtain ⟨k, hk, -, wk⟩ := DataW.trod_int Tryd.underlying5 g0
      obtain ⟨n, hn, -, wn⟩ := DataW.trod_int Tryd.underlying5 g1
      obtain rfl : x0 = .int .u8 k := by simpa using hk
      obtain rfl : x1 = .int .u8 n := by simpa using hn
      obtain ⟨a, len, c, rfl, hl, hR⟩ := rawRules_open g2
      exact ⟨(k, n, a, len, c), rfl, bounds_u8 wk, bounds_u8 wn, hl, hR⟩
set_option maxRecDepth 100000 in
theorem back_tRaw {H : Type} {enc : TypeId × Value → H} {W W' : World} {v : Value} {d : DataW H} {p : List MemPlace} (h : DataW.Trod enc Tryd.prog W 0 (fun _ => true) true 27 v d p) (hb : Below W.heap.size W W') :
    DataW.Trod enc Tryd.prog W' 0 (fun b => decide (b < W.heap.size)) true 27 v d p :=
  Below.trod raw_out rec27 row27 h hb (DataW.TrodAll.lt (trodAll_mk1 h))
theorem rules_any (o : Int × Int × Option Addr × Nat × Nat) (a : Int × Int × Int) (m : Int) (w : World) (hT : StrTab w) (hP : PowTab w) (hm : MaxVar w m) (h0 : 0 < w.heap.size) (hg : 2 < w.heap.size)
    (ho : (0 ≤ o.1 ∧ o.1 ≤ 255) ∧ (0 ≤ o.2.1 ∧ o.2.1 ≤ 255) ∧ o.2.2.2.1 ≤ maxLen ∧ RawsAt w w.heap.size (.slice o.2.2.1 o.2.2.2.1 o.2.2.2.2) o.2.2.2.1) (ha : (0 ≤ a.1 ∧ a.1 ≤ 255) ∧ (0 ≤ a.2.1 ∧ a.2.1 ≤ 255) ∧ (0 ≤ a.2.2 ∧ a.2.2 ≤ 255)) :
    Calls Tryd.prog 6 #[.agg #[.int .u8 o.1, .int .u8 o.2.1, .slice o.2.2.1 o.2.2.2.1 o.2.2.2.2], .agg #[.int .u8 a.1, .int .u8 a.2.1, .int .u8 a.2.2]] w fun e w' => e = .returned (.bool true) ∧ Below w.heap.size w w' :=
  Rules_any o.1 o.2.1 a.1 a.2.1 a.2.2 m o.2.2.1 o.2.2.2.1 o.2.2.2.2 w hT hP hm h0 hg ho.1 ho.2.1 ha.1 ha.2.1 ha.2.2 ho.2.2.2 ho.2.2.1
end Go.Proofs.YtnbiedijofdjhaaDoor
