/-
  Words.
-/
import Derived.Test.YtadaijepalhohaaAZ
import Derived.ProofKit
import Derived.OpenShut
import Derived.Deep.DeepHandedRow
import Derived.Deep.Slices
namespace Go.Proofs.Ytadaijepalhohaa
open Go.ChangeShapes Go.WideShapes Go.ChangeAt Go.RowKit Go.ChangeMaps
open Pl

/-- The slice v reads as this many slices of bytes. -/
def U8ssAt (W : World) (B0 : Nat) (v : Value) (n : Nat) : Prop :=
  ∃ a c, v = .slice a n c ∧ (0 < n → ∃ b off, a = some ⟨b, off, none⟩ ∧ b < B0 ∧ ∀ i, i < n → ∃ (a' : Option Addr) (n' c' : Nat), W.cell? ⟨b, off + i, none⟩ = some (.slice a' n' c') ∧ n' ≤ maxLen ∧ U8At W B0 (.slice a' n' c') n')
theorem U8ssAt.on {W W' : World} {v : Value} {n : Nat} (h : U8ssAt W W.heap.size v n) (hb : Below W.heap.size W W') : U8ssAt W' W'.heap.size v n := by
  obtain ⟨a, c, rfl, h⟩ := h
  refine ⟨a, c, rfl, fun hp => ?_⟩
  obtain ⟨b, off, rfl, hlt, hc⟩ := h hp
  refine ⟨b, off, rfl, Nat.lt_of_lt_of_le hlt hb.size, fun i hi => ?_⟩
  obtain ⟨a', n', c', h1, h2, h3⟩ := hc i hi
  exact ⟨a', n', c', (hb.cell (p := ⟨b, _, none⟩) hlt).trans h1, h2, h3.on hb⟩
theorem cells28 : Try.prog.cellsOf 28 = 1 := by kernel_rfl
theorem rec28 : Try.prog.readableRec 28 = true := by kernel_rfl
theorem row28 : 28 < Try.prog.types.size := of_decide_eq_true (by kernel_rfl)
set_option maxRecDepth 100000 in
theorem u8ss_open {H : Type} {enc : TypeId × Value → H} {W : World} {v : Value} {x : DataW H × List MemPlace} {fuel : Nat} (h : DataW.trod enc Try.prog W 0 (fun _ => true) true fuel 28 [v] = some x) :
    ∃ a n c, v = .slice a n c ∧ n ≤ maxLen ∧ U8ssAt W W.heap.size v n := by
  rcases Deep.open_slice1 Try.underlying28 cells26 h with ⟨h0, _⟩ | ⟨a, len, cap, m, n, V, D, Pl, hcs, _, hl, hc, hm, _, hx⟩
  · obtain rfl : v = .slice none 0 0 := by simpa using h0
    exact ⟨none, 0, 0, rfl, Nat.zero_le _, none, 0, rfl, fun h => absurd h (Nat.lt_irrefl _)⟩
  · obtain rfl : v = .slice (some a) len cap := by simpa using hcs
    simp only [if_true] at hm
    subst hm
    refine ⟨some a, len, m, rfl, Nat.le_trans hl hc, some a, m, rfl, fun hp => ?_⟩
    have h1 := (hx 0 (by omega)).1
    have hs : a.spot = none := by simpa [Addr.add] using World.cell?_spot h1
    obtain ⟨b, off, spot⟩ := a
    obtain rfl : spot = none := hs
    rw [add_none] at h1
    refine ⟨b, off, rfl, World.block_lt_of_cell? W _ h1, fun i hi => ?_⟩
    obtain ⟨h2, h3⟩ := hx i (by omega)
    obtain ⟨a', n', c', hv, h4, h5⟩ := u8_open h3
    rw [add_none, hv] at h2
    rw [hv] at h5
    exact ⟨a', n', c', h2, h4, h5⟩
/-- Slices of bytes in a slice. -/
structure BysO where
  a : Option Addr
  n : Nat
  c : Nat
def BysO.ok (o : BysO) (W : World) : Prop := o.n ≤ maxLen ∧ U8ssAt W W.heap.size (.slice o.a o.n o.c) o.n
set_option maxRecDepth 100000 in
theorem open_tU8ss {H : Type} {enc : TypeId × Value → H} {W : World} {r : Reach} {base : Nat} {v : Value} {d : DataW H} {p : List MemPlace} (hv : Value.okWide Try.prog W r base 28 v) (h : DataW.Trod enc Try.prog W 0 (fun _ => true) true 28 v d p) :
    ∃ o : BysO, v = .slice o.a o.n o.c ∧ o.ok W := by
  obtain ⟨a0, n0, c0, rfl⟩ := okWide_slice Try.underlying28 hv
  obtain ⟨fuel, hf⟩ := h
  have hf' : DataW.trod enc Try.prog W 0 (fun _ => true) true fuel 28 [.slice a0 n0 c0] = some (d, p) := hf
  obtain ⟨a, n, c, he, hl, hx⟩ := u8ss_open hf'
  obtain ⟨rfl, rfl, rfl⟩ : a0 = a ∧ n0 = n ∧ c0 = c := by simpa using he
  exact ⟨⟨a0, n0, c0⟩, rfl, hl, hx⟩
set_option maxRecDepth 100000 in
theorem back_tU8ss {H : Type} {enc : TypeId × Value → H} {W W' : World} {v : Value} {d : DataW H} {p : List MemPlace} (h : DataW.Trod enc Try.prog W 0 (fun _ => true) true 28 v d p) (hb : Below W.heap.size W W') :
    DataW.Trod enc Try.prog W' 0 (fun b => decide (b < W.heap.size)) true 28 v d p :=
  Below.trod raw_out rec28 row28 h hb (DataW.TrodAll.lt (trodAll_mk1 h))

abbrev strV (l : List UInt8) : Value := .string (B l)
theorem infoStr : (Try.prog.info? 9).map (fun i => (i.zero, i.size, i.bytes)) = some (some (.string ⟨#[]⟩), 1, 16) := by kernel_rfl
/-- Texts in memory of their own. -/
def StrsOwn (W : World) (base : Nat) (v : Value) (l : List (List UInt8)) : Prop := W.ownsRow base 9 1 v l.length (l.map strV)
theorem StrsOwn.shape {W : World} {b : Nat} {v : Value} {l : List (List UInt8)} (h : StrsOwn W b v l) : ∃ a c, v = .slice a l.length c := by
  rcases h.2 with ⟨rfl, h0⟩ | ⟨g, cap, cur, rfl, _⟩
  · exact ⟨none, 0, by rw [h0]⟩
  · exact ⟨_, _, rfl⟩
theorem StrsOwn.blk {W : World} {b : Nat} {v : Value} {l : List (List UInt8)} (h : StrsOwn W b v l) : ∀ k, v.ownBlock = some k → b ≤ k := by
  intro k hk
  rcases h.2 with ⟨rfl, _⟩ | ⟨g, cap, cur, rfl, hg, _⟩
  · cases hk
  · cases hk; exact hg
theorem StrsOwn.below {W W' : World} {b : Nat} {v : Value} {l : List (List UInt8)} (h : StrsOwn W b v l) (hb : Below W.heap.size W W') : StrsOwn W' b v l := by
  refine ⟨h.1, ?_⟩
  rcases h.2 with h0 | ⟨g, cap, cur, hv, hg, hh, h1, h2, h3, h4⟩
  · exact Or.inl h0
  · exact Or.inr ⟨g, cap, cur, hv, hg, by rw [hb.block g (lt_of_heap hh)]; exact hh, h1, h2, h3, h4⟩
theorem StrsOwn.at {W : World} {b : Nat} {v : Value} {l : List (List UInt8)} (h : StrsOwn W b v l) : StrsAt W W.heap.size v l := by
  rcases h.2 with ⟨rfl, h0⟩ | ⟨g, cap, cur, rfl, hb, hg, hn, _, hc, ht⟩
  · exact ⟨none, 0, by rw [h0], fun hp => by omega⟩
  · refine ⟨_, _, rfl, fun _ => ⟨g, 0, rfl, lt_of_heap hg, fun i hi => ?_⟩⟩
    have e1 : (l.map strV)[i]? = some (strV l[i]) := by rw [List.getElem?_map, List.getElem?_eq_getElem hi]; rfl
    rw [← ht, Nat.mul_one, List.getElem?_take_of_lt hi] at e1
    simp only [World.cell?, hg, Nat.zero_add]
    simpa using e1
theorem StrsOwn.new (w : World) : StrsOwn (w.alloc (.cells #[] 9)) w.heap.size (.slice (some ⟨w.heap.size, 0, none⟩) 0 0) [] :=
  ⟨rfl, Or.inr ⟨w.heap.size, 0, #[], rfl, Nat.le_refl _, heap_alloc_new w _, Nat.le_refl _, by unfold maxLen; omega, rfl, rfl⟩⟩
theorem StrsOwn.snoc {W : World} {b : Nat} {v : Value} {l : List (List UInt8)} {c : List UInt8} (h : W.ownsRow b 9 1 v (l.length + 1) (l.map strV ++ [strV c])) : StrsOwn W b v (l ++ [c]) := by
  unfold StrsOwn
  rw [List.map_append, List.length_append, List.length_singleton]
  exact h
set_option maxHeartbeats 2000000 in
set_option maxRecDepth 100000 in
theorem Words_any (a : Option Addr) (n c k : Nat) (w : World) (hv : U8ssAt w w.heap.size (.slice a n c) n) (hn : n ≤ maxLen) (hk : k ≤ 1000) :
    Calls Try.prog 14 #[.slice a n c, .int .i64 (k : Nat)] w fun e w' => (∃ (ws : List (List UInt8)) (wa : Option Addr) (wc : Nat), e = .returned (.slice wa ws.length wc) ∧ ws.length ≤ k ∧ (∀ m ∈ ws, m.length ≤ 5) ∧ StrsAt w' w'.heap.size (.slice wa ws.length wc) ws) ∧ Below w.heap.size w w' := by
  obtain ⟨i0, hi0, hz0, hz1, hz2⟩ := info_parts infoStr
  unfold maxLen at hn
  have HV := Lib.hid hv
  have RR := Lib.hid (show StrsOwn (w.alloc (.cells #[] 9)) w.heap.size (.slice (some ⟨w.heap.size, 0, none⟩) 0 0) [] ∧ Below w.heap.size w (w.alloc (.cells #[] 9)) from ⟨StrsOwn.new w, (Below.refl _ _).alloc (Nat.le_refl _) _⟩)
  clear hv
  go_enter Try.func14, Try.ntmps14
  go_wp2_with fail
  go_loopw [5, 6] (fun v iv wr => ∃ (i : Nat) (l : List (List UInt8)), iv = .int .i64 (i : Nat) ∧ i ≤ n ∧ i ≤ k ∧ l.length = i ∧ (∀ m ∈ l, m.length ≤ 5) ∧ StrsOwn wr w.heap.size v l ∧ Below w.heap.size w wr) (fun _ iv _ => n - (intOf iv).toNat)
  case atStart => exact ⟨0, [], rfl, Nat.zero_le _, Nat.zero_le _, rfl, fun m hm => (by cases hm), RR.out.1, RR.out.2⟩
  case round =>
    obtain ⟨i, l, rfl, hin, hik, hll, h5, hown, hb⟩ := hrel
    obtain ⟨va, vc, rfl⟩ := hown.shape
    have OW := Lib.hid hown
    have HB := Lib.hid hb
    have HL := Lib.hid hll
    have H5 := Lib.hid h5
    clear hown hb hll RR h5
    have i0' : (0 : Int) ≤ (i : Int) := by omega
    by_cases h1 : (i : Int) < (n : Int)
    · by_cases h2 : (i : Int) < (k : Int)
      · obtain ⟨a', c', hv, hP⟩ := HV.out.on HB.out
        obtain ⟨rfl, -⟩ : a = a' ∧ c = c' := by simpa using hv
        obtain ⟨b, off, ha, hlt, hc⟩ := hP (by omega)
        subst ha
        obtain ⟨a2, n2, c2, p0, hn2, hu2⟩ := hc i (by omega)
        have CT := Text_any a2 n2 c2 5 wr hu2 hn2 (by decide)
        clear hc hP hv hlt hu2
        go_wp2_with fail
        refine CT.mono ?_
        rintro e w3 ⟨⟨m, rfl, hm⟩, hb3⟩
        have HM := Lib.hid hm
        have hmx : l.length + 1 ≤ maxLen := by unfold maxLen; have := HL.out; omega
        have hby : (l.length + 1) * 16 ≤ 140737488355328 := by have := HL.out; omega
        have b3 := HB.out.trans (hb3.mono HB.out.size)
        have hba : w.heap.size ≤ (w3.alloc (.cells #[.string (B m)] 9)).heap.size := by have := b3.size; simp; omega
        have own1 := Lib.hid (World.ownsRow.alloc (OW.out.below hb3) (.cells #[.string (B m)] 9))
        have nw := Lib.hid (heap_alloc_new w3 (.cells #[.string (B m)] 9))
        have hob := Lib.hid OW.out.blk
        have hbl := Lib.hid (b3.alloc b3.size (.cells #[.string (B m)] 9))
        clear p0 CT hb3 b3 hm
        go_wp2_with (first
          | (at_builtin; refine wpList_append_own _ rfl _ _ 35 rfl w.heap.size 9 i0 _ 1 16 Try.underlying35 hi0 hz0 hz1 hz2 rfl (by decide) _ _ _ rfl own1.out ⟨w3.heap.size, 0, none⟩ 1 1 [.string (B m)] rfl rfl (World.news_of_block (cs := #[.string (B m)]) (t := 9) (fr := (0, 0)) nw.out) (by simp [Value.oneCell']) hmx hby hba ?_; intro v2 w4 hown2 hgrow2 hnil2)
          | fail)
        have RN := Lib.hid (show StrsOwn w4 w.heap.size v2 (l ++ [m]) ∧ Below w.heap.size w w4 from ⟨StrsOwn.snoc hown2, hbl.out.grown hgrow2 hba (fun k hk => hob.out k hk)⟩)
        clear hown2 hgrow2 hnil2 own1 nw hob hbl
        go_roundw
        case rel => exact ⟨i + 1, l ++ [m], by go_num, by omega, by omega, by rw [List.length_append, HL.out]; rfl, (fun x hx => by
          rcases List.mem_append.1 hx with h | h
          · exact H5.out x h
          · obtain rfl : x = m := by simpa using h
            exact HM.out), RN.out.1, RN.out.2⟩
        case measure => simp [intOf]; omega
      · go_wp2_with fail
        go_ret
        exact ⟨⟨l, va, vc, rfl, by rw [HL.out]; omega, H5.out, OW.out.at⟩, HB.out⟩
    · go_wp2_with fail
      go_ret
      exact ⟨⟨l, va, vc, rfl, by rw [HL.out]; omega, H5.out, OW.out.at⟩, HB.out⟩
end Go.Proofs.Ytadaijepalhohaa
