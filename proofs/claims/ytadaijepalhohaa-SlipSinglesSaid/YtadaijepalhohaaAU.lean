/-
  Made.
-/
import Derived.Test.YtadaijepalhohaaAS
import Derived.Laws.AppendOwnNone
namespace Go.Proofs.Ytadaijepalhohaa
open Go.RowKit
open Pl

theorem infoAl : (Try.prog.info? 46).map (fun i => (i.zero, i.size, i.bytes)) = some (some (.agg #[.int .u8 0, .int .u8 0, .int .i64 0]), 3, 16) := by kernel_rfl
def alC (x : Al) : List Value := [.int .u8 (x.a.toNat : Nat), .int .u8 (x.b.toNat : Nat), .int .i64 x.c]
theorem alC_len (l : List Al) : (l.flatMap alC).length = l.length * 3 := by
  induction l with
  | nil => rfl
  | cons x l ih => rw [List.flatMap_cons, List.length_append, ih, List.length_cons]; simp [alC]; omega
theorem alC_get : ∀ (l : List Al) (i : Nat) (h : i < l.length), (l.flatMap alC)[i * 3]? = some (.int .u8 (l[i].a.toNat : Nat)) ∧ (l.flatMap alC)[i * 3 + 1]? = some (.int .u8 (l[i].b.toNat : Nat)) ∧ (l.flatMap alC)[i * 3 + 2]? = some (.int .i64 l[i].c)
  | x :: l, 0, _ => ⟨rfl, rfl, rfl⟩
  | x :: l, i + 1, h => by
    have ih := alC_get l i (by simpa using h)
    rw [List.flatMap_cons, show (i + 1) * 3 = (alC x).length + i * 3 by simp [alC]; omega, List.getElem?_append_right (by omega), show (alC x).length + i * 3 + 1 = (alC x).length + (i * 3 + 1) by omega, List.getElem?_append_right (by omega), show (alC x).length + i * 3 + 2 = (alC x).length + (i * 3 + 2) by omega, List.getElem?_append_right (by omega), Nat.add_sub_cancel_left, Nat.add_sub_cancel_left, Nat.add_sub_cancel_left]
    simpa using ih
/-- Letters that are alike, in memory of their own. -/
def AlsOwn (W : World) (base : Nat) (v : Value) (l : List Al) : Prop := W.ownsRow base 46 3 v l.length (l.flatMap alC)
theorem AlsOwn.nil (W : World) (b : Nat) : AlsOwn W b (.slice none 0 0) [] := ⟨rfl, Or.inl ⟨rfl, rfl⟩⟩
theorem AlsOwn.shape {W : World} {b : Nat} {v : Value} {l : List Al} (h : AlsOwn W b v l) : ∃ a c, v = .slice a l.length c := by
  rcases h.2 with ⟨rfl, h0⟩ | ⟨g, cap, cur, rfl, _⟩
  · exact ⟨none, 0, by rw [h0]⟩
  · exact ⟨_, _, rfl⟩
theorem AlsOwn.cap {W : World} {b : Nat} {a : Option Addr} {n c : Nat} {l : List Al} (h : AlsOwn W b (.slice a n c) l) : l.length ≤ c := by
  rcases h.2 with ⟨hv, h0⟩ | ⟨g, cap, cur, hv, hg, hh, h1, _⟩
  · omega
  · simp only [Value.slice.injEq] at hv
    obtain ⟨-, -, rfl⟩ := hv
    exact h1
theorem AlsOwn.blk {W : World} {b : Nat} {v : Value} {l : List Al} (h : AlsOwn W b v l) : ∀ k, v.ownBlock = some k → b ≤ k := by
  intro k hk
  rcases h.2 with ⟨rfl, _⟩ | ⟨g, cap, cur, rfl, hg, _⟩
  · cases hk
  · cases hk; exact hg
theorem AlsOwn.below {W W' : World} {b : Nat} {v : Value} {l : List Al} (h : AlsOwn W b v l) (hb : Below W.heap.size W W') : AlsOwn W' b v l := by
  refine ⟨h.1, ?_⟩
  rcases h.2 with h0 | ⟨g, cap, cur, hv, hg, hh, h1, h2, h3, h4⟩
  · exact Or.inl h0
  · exact Or.inr ⟨g, cap, cur, hv, hg, by rw [hb.block g (lt_of_heap hh)]; exact hh, h1, h2, h3, h4⟩
theorem AlsOwn.at {W : World} {b : Nat} {v : Value} {l : List Al} (h : AlsOwn W b v l) : AlsAt W W.heap.size v l := by
  rcases h.2 with ⟨rfl, h0⟩ | ⟨g, cap, cur, rfl, hb, hg, hn, _, hc, ht⟩
  · exact ⟨none, 0, by rw [h0], fun hp => by omega⟩
  · refine ⟨_, _, rfl, fun _ => ⟨g, 0, rfl, lt_of_heap hg, fun i hi => ?_⟩⟩
    obtain ⟨e1, e2, e3⟩ := alC_get l i hi
    rw [← ht, List.getElem?_take_of_lt (by omega)] at e1
    rw [← ht, List.getElem?_take_of_lt (by omega)] at e2
    rw [← ht, List.getElem?_take_of_lt (by omega)] at e3
    simp only [World.cell?, hg, Nat.zero_add]
    exact ⟨by simpa using e1, by simpa using e2, by simpa using e3⟩
theorem AlsOwn.new (w : World) : AlsOwn (w.alloc (.cells #[] 46)) w.heap.size (.slice (some ⟨w.heap.size, 0, none⟩) 0 0) [] :=
  ⟨rfl, Or.inr ⟨w.heap.size, 0, #[], rfl, Nat.le_refl _, heap_alloc_new w _, Nat.le_refl _, by unfold maxLen; omega, rfl, rfl⟩⟩
theorem AlsOwn.news {W : World} {b : Nat} {g : Nat} {n c : Nat} {l : List Al} (h : AlsOwn W b (.slice (some ⟨g, 0, none⟩) n c) l) : ∀ j u, (l.flatMap alC)[j]? = some u → W.cell? ((⟨g, 0, none⟩ : Addr).add j) = some u := by
  rcases h.2 with ⟨hv, _⟩ | ⟨g', cap, cur, hv, hg, hh, h1, h2, h3, h4⟩
  · cases hv
  · simp only [Value.slice.injEq, Option.some.injEq, Addr.mk.injEq] at hv
    obtain ⟨⟨rfl, -⟩, -⟩ := hv
    intro j u hu
    have hj : j < l.length * 3 := by rw [← alC_len]; exact (List.getElem?_eq_some_iff.1 hu).1
    rw [← h4, List.getElem?_take_of_lt hj] at hu
    have hp : (⟨g, 0, none⟩ : Addr).add j = ⟨g, j, none⟩ := by unfold Addr.add; split <;> simp_all
    rw [hp]
    simp only [World.cell?, hh]
    simpa using hu
theorem alC_one (l : List Al) : ∀ u ∈ l.flatMap alC, u.oneCell' = true := by
  intro u hu
  obtain ⟨x, _, hx⟩ := List.mem_flatMap.1 hu
  simp only [alC, List.mem_cons, List.not_mem_nil, or_false] at hx
  rcases hx with rfl | rfl | rfl <;> rfl
theorem wpList_append_als {ops : Array Oper} {rest : List Oper} {o : Oper} {a : Act} {W : World} {Q : Exit → Act → World → Prop} (hgd : o.guard = none) (s x : Operand)
    (ho : o.op = .call { callee := .builtin .append, args := #[s, x], argTypes := #[30, 30] }) (base : Nat) (v : Value) (xs : List Al) (hs : a.eval s = v) (hown : AlsOwn W base v xs) (b2 : Nat) (v2 : Value) (ys : List Al) (hx : a.eval x = v2) (ho2 : AlsOwn W b2 v2 ys)
    (hlen : xs.length + ys.length ≤ 10000) (hbase : base ≤ W.heap.size) (h : ∀ v' w', AlsOwn w' base v' (xs ++ ys) → W.grownBy w' v.ownBlock → wpList Try.prog ops Q rest (a.put o.dst v') w') : wpList Try.prog ops Q (o :: rest) a W := by
  obtain ⟨i0, hi0, hz0, hz1, hz2⟩ := info_parts infoAl
  rcases ho2.2 with ⟨rfl, h0⟩ | ⟨g, cap, cur, rfl, hg, hh, h1, h2, h3, h4⟩
  · obtain rfl : ys = [] := List.eq_nil_of_length_eq_zero h0
    refine wpList_append_own_none hgd s x 30 ho base 46 i0 3 Try.underlying30 hi0 v xs.length (xs.flatMap alC) hs hown hx (h v W ?_ ⟨rfl, rfl, rfl, Nat.le_refl _, fun _ _ _ => rfl⟩)
    rw [List.append_nil]; exact hown
  · refine wpList_append_own W hgd s x 30 ho base 46 i0 _ 3 16 Try.underlying30 hi0 hz0 hz1 hz2 rfl (by decide) v xs.length (xs.flatMap alC) hs hown ⟨g, 0, none⟩ ys.length cap (ys.flatMap alC) hx (alC_len ys) (AlsOwn.news ho2) (alC_one ys) (by unfold maxLen; omega) (by omega) hbase
      fun v' w' ho' hg' _ => h v' w' ?_ hg'
    unfold AlsOwn
    rw [List.flatMap_append, List.length_append]; exact ho'
theorem AlsOwn.one (w : World) (x : Al) : AlsOwn (w.alloc (.cells #[.int .u8 (x.a.toNat : Nat), .int .u8 (x.b.toNat : Nat), .int .i64 x.c] 46)) w.heap.size (.slice (some ⟨w.heap.size, 0, none⟩) 1 1) [x] :=
  ⟨rfl, Or.inr ⟨w.heap.size, 1, #[.int .u8 (x.a.toNat : Nat), .int .u8 (x.b.toNat : Nat), .int .i64 x.c], rfl, Nat.le_refl _, heap_alloc_new w _, Nat.le_refl _, by unfold maxLen; omega, rfl, rfl⟩⟩
theorem AlsOwn.mono {W : World} {b b' : Nat} {v : Value} {l : List Al} (h : AlsOwn W b v l) (hb : b' ≤ b) : AlsOwn W b' v l := by
  refine ⟨h.1, ?_⟩
  rcases h.2 with h0 | ⟨g, cap, cur, hv, hg, r⟩
  · exact Or.inl h0
  · exact Or.inr ⟨g, cap, cur, hv, by omega, r⟩
theorem Blk.grown {W W' : World} {b : Nat} {t : TypeId} {vs : List Value} {row : Option Nat} (h : Blk W b t vs) (hg : W.grownBy W' row) (hne : row ≠ some b) : Blk W' b t vs := by
  have hlt := h.lt
  unfold Blk at h ⊢
  rw [hg.block _ hlt (fun e => hne e.symm)]; exact h
theorem AlsOwn.grown {W W' : World} {b : Nat} {v : Value} {l : List Al} {row : Option Nat} (h : AlsOwn W b v l) (hg : W.grownBy W' row) (hne : ∀ k, v.ownBlock = some k → row ≠ some k) : AlsOwn W' b v l := by
  refine ⟨h.1, ?_⟩
  rcases h.2 with h0 | ⟨g, cap, cur, rfl, hg2, hh, h1, h2, h3, h4⟩
  · exact Or.inl h0
  · exact Or.inr ⟨g, cap, cur, rfl, hg2, by rw [hg.block g (lt_of_heap hh) (fun e => hne g rfl e.symm)]; exact hh, h1, h2, h3, h4⟩
/-- The raw letters that a call is given. -/
def TrisAt (W : World) (B0 : Nat) (v : Value) (n : Nat) : Prop :=
  ∃ a c, v = .slice a n c ∧ (0 < n → ∃ b off, a = some ⟨b, off, none⟩ ∧ b < B0 ∧ ∀ i, i < n → ∃ p q r : Nat, (p < 256 ∧ q < 256 ∧ r < 256) ∧ W.cell? ⟨b, off + i * 3, none⟩ = some (.int .u8 (p : Nat)) ∧ W.cell? ⟨b, off + i * 3 + 1, none⟩ = some (.int .u8 (q : Nat)) ∧ W.cell? ⟨b, off + i * 3 + 2, none⟩ = some (.int .u8 (r : Nat)))
theorem TrisAt.on {W W' : World} {v : Value} {n : Nat} (h : TrisAt W W.heap.size v n) (hb : Below W.heap.size W W') : TrisAt W' W'.heap.size v n := by
  obtain ⟨a, c, rfl, h⟩ := h
  refine ⟨a, c, rfl, fun hp => ?_⟩
  obtain ⟨b, off, rfl, hlt, hc⟩ := h hp
  refine ⟨b, off, rfl, Nat.lt_of_lt_of_le hlt hb.size, fun i hi => ?_⟩
  obtain ⟨p, q, r, h0, h1, h2, h3⟩ := hc i hi
  have e := fun o => hb.cell (p := ⟨b, o, none⟩) hlt
  exact ⟨p, q, r, h0, (e _).trans h1, (e _).trans h2, (e _).trans h3⟩
/-- What is made: valid slips of small costs. -/
structure Small (s : Sl) : Prop where
  swap : 1 ≤ s.swap ∧ s.swap ≤ 8
  drop : 1 ≤ s.drop ∧ s.drop ≤ 8
  add : 1 ≤ s.add ∧ s.add ≤ 8
  put : 1 ≤ s.put ∧ s.put ≤ 8
  alike : alikeB s.alike = true
  low : ∀ x ∈ s.alike, 1 ≤ x.c ∧ x.c ≤ 8
  len : s.alike.length ≤ 5
theorem letter_five (r : Nat) (hr : r < 5) : (((97 + r).toUInt8).toNat : Int) = 97 + (r : Int) := by
  rcases (show r = 0 ∨ r = 1 ∨ r = 2 ∨ r = 3 ∨ r = 4 by omega) with rfl | rfl | rfl | rfl | rfl <;> rfl
theorem info32 : (Try.prog.info? 32).map (·.size) = some 5 := by kernel_rfl
theorem ret_slips {fn : Func} {p : Tmp} (h : fn.results = #[.cell p 32]) {R : Ending → World → Prop} {a : Act} {W : World} {b : Nat} {c0 c1 c2 c3 c4 : Value}
    (hp : a.tmps.getD p undef = .pointer (some ⟨b, 0, none⟩)) (hd : a.defers = []) (hb : Blk W b 32 [c0, c1, c2, c3, c4])
    (hR : R (.returned (.agg #[c0, c1, c2, c3, c4])) W) : bodyPost Try.prog fn R .ret a W := by
  refine bodyPost_ret ?_ hd hR
  have hp' : a.tmps[p]?.getD undef = .pointer (some ⟨b, 0, none⟩) := by simpa using hp
  have hl := run_loadVar_row (P := Try.prog) W b 32 32 #[c0, c1, c2, c3, c4] (0, 0) _ hb Try.underlying32 rfl info32
  simp [results, h, hp', asAddr, hl]
theorem AlsOwn.but {W W' : World} {b : Nat} {v : Value} {l : List Al} {ex : List Nat} (h : AlsOwn W b v l) (hb : But ex W W') (hx : ∀ k, k ∈ ex → k < b) : AlsOwn W' b v l := by
  refine ⟨h.1, ?_⟩
  rcases h.2 with h0 | ⟨g, cap, cur, hv, hg, hh, h1, h2, h3, h4⟩
  · exact Or.inl h0
  · exact Or.inr ⟨g, cap, cur, hv, hg, by rw [hb.block g (lt_of_heap hh) (fun e => by have := hx g e; omega)]; exact hh, h1, h2, h3, h4⟩
/-- What the loop of Made keeps. -/
def MdRel (w : World) (c0 c1 c2 c3 : Nat) (rv : Value) (sw dr ad pu : Int) (i : Nat) (W : World) : Prop :=
  ∃ (l : List Al) (a : Option Addr) (c : Nat), (alikeB l = true ∧ (∀ x ∈ l, 1 ≤ x.c ∧ x.c ≤ 8) ∧ l.length ≤ i) ∧
    Blk W w.heap.size 25 [.int .u8 (c0 : Nat), .int .u8 (c1 : Nat), .int .u8 (c2 : Nat), .int .u8 (c3 : Nat), rv] ∧ Blk W (w.heap.size + 1) 32 [.int .i64 0, .int .i64 0, .int .i64 0, .int .i64 0, .slice none 0 0] ∧
    Blk W (w.heap.size + 2) 32 [.int .i64 sw, .int .i64 dr, .int .i64 ad, .int .i64 pu, .slice a l.length c] ∧ AlsOwn W (w.heap.size + 3) (.slice a l.length c) l ∧ Below w.heap.size w W
set_option maxHeartbeats 2000000 in
set_option maxRecDepth 100000 in
theorem Made_any (c0 c1 c2 c3 : Nat) (ra : Option Addr) (rn rc : Nat) (w : World) (h0 : c0 < 256) (h1 : c1 < 256) (h2 : c2 < 256) (h3 : c3 < 256) (hx : TrisAt w w.heap.size (.slice ra rn rc) rn) (hl : rn ≤ maxLen) :
    Calls Try.prog 12 #[.agg #[.int .u8 (c0 : Nat), .int .u8 (c1 : Nat), .int .u8 (c2 : Nat), .int .u8 (c3 : Nat), .slice ra rn rc]] w fun e w' => (∃ (s : Sl) (a : Option Addr) (c : Nat), e = .returned (.agg #[.int .i64 s.swap, .int .i64 s.drop, .int .i64 s.add, .int .i64 s.put, .slice a s.alike.length c]) ∧ Small s ∧ AlsOwn w' w.heap.size (.slice a s.alike.length c) s.alike) ∧ Below w.heap.size w w' := by
  obtain ⟨i0, hi0, hz0, hz1, hz2⟩ := info_parts infoAl
  unfold maxLen at hl
  have b1 := (Below.refl w.heap.size w).alloc (Nat.le_refl _) (.cells #[.int .u8 (c0 : Nat), .int .u8 (c1 : Nat), .int .u8 (c2 : Nat), .int .u8 (c3 : Nat), .slice ra rn rc] 25)
  have HX := Lib.hid hx
  clear hx
  go_enter Try.func12, Try.ntmps12
  go_upto_region 1 with fail
  obtain ⟨k0, e0⟩ : ∃ k, k = c0 % 8 := ⟨_, rfl⟩
  obtain ⟨k1, e1⟩ : ∃ k, k = c1 % 8 := ⟨_, rfl⟩
  obtain ⟨k2, e2⟩ : ∃ k, k = c2 % 8 := ⟨_, rfl⟩
  obtain ⟨k3, e3⟩ : ∃ k, k = c3 % 8 := ⟨_, rfl⟩
  have z0 : (c0 : Int) % 8 = (k0 : Int) := by omega
  have z1 : (c1 : Int) % 8 = (k1 : Int) := by omega
  have z2 : (c2 : Int) % 8 = (k2 : Int) := by omega
  have z3 : (c3 : Int) % 8 = (k3 : Int) := by omega
  have u0 : (k0 : Int) ≤ 7 := by omega
  have u1 : (k1 : Int) ≤ 7 := by omega
  have u2 : (k2 : Int) ≤ 7 := by omega
  have u3 : (k3 : Int) ≤ 7 := by omega
  have v0 : (0 : Int) ≤ (k0 : Int) := by omega
  have v1 : (0 : Int) ≤ (k1 : Int) := by omega
  have v2 : (0 : Int) ≤ (k2 : Int) := by omega
  have v3 : (0 : Int) ≤ (k3 : Int) := by omega
  have n0 : (0 : Int) ≤ (c0 : Int) := by omega
  have n1 : (0 : Int) ≤ (c1 : Int) := by omega
  have n2 : (0 : Int) ≤ (c2 : Int) := by omega
  have n3 : (0 : Int) ≤ (c3 : Int) := by omega
  have m0 : (c0 : Int) ≤ 255 := by omega
  have m1 : (c1 : Int) ≤ 255 := by omega
  have m2 : (c2 : Int) ≤ 255 := by omega
  have m3 : (c3 : Int) ≤ 255 := by omega
  clear e0 e1 e2 e3 h0 h1 h2 h3
  have R1 := (Blk.new w 25 [.int .u8 (c0 : Nat), .int .u8 (c1 : Nat), .int .u8 (c2 : Nat), .int .u8 (c3 : Nat), .slice ra rn rc]).alloc (.cells #[.int .i64 0, .int .i64 0, .int .i64 0, .int .i64 0, .slice none 0 0] 32)
  have Z1 := Blk.new (w.alloc (.cells #[.int .u8 (c0 : Nat), .int .u8 (c1 : Nat), .int .u8 (c2 : Nat), .int .u8 (c3 : Nat), .slice ra rn rc] 25)) 32 [.int .i64 0, .int .i64 0, .int .i64 0, .int .i64 0, .slice none 0 0]
  rw [World.size_alloc] at Z1
  have sz := show ((w.alloc (.cells #[.int .u8 (c0 : Nat), .int .u8 (c1 : Nat), .int .u8 (c2 : Nat), .int .u8 (c3 : Nat), .slice ra rn rc] 25)).alloc (.cells #[.int .i64 0, .int .i64 0, .int .i64 0, .int .i64 0, .slice none 0 0] 32)).heap.size = w.heap.size + 2 by rw [World.size_alloc, World.size_alloc]
  have B1 := b1.alloc b1.size (.cells #[.int .i64 0, .int .i64 0, .int .i64 0, .int .i64 0, .slice none 0 0] 32)
  have SZ := Lib.hid sz
  have R2 := Lib.hid R1
  have Z2 := Lib.hid Z1
  have B2 := Lib.hid B1
  clear b1 R1 Z1 sz B1
  generalize hgw : (w.alloc _).alloc _ = w1 at *
  clear hgw
  have q0 := R2.out.cell 0
  have q1 := R2.out.cell 1
  have q2 := R2.out.cell 2
  have q3 := R2.out.cell 3
  have q4 := R2.out.cell 4
  simp only [List.getElem?_cons_succ, List.getElem?_cons_zero] at q0 q1 q2 q3 q4
  go_upto_region 2 with fail
  have O1 := Blk.new w1 32 [.int .i64 (1 + (k0 : Int)), .int .i64 (1 + (k1 : Int)), .int .i64 (1 + (k2 : Int)), .int .i64 (1 + (k3 : Int)), .slice none 0 0]
  rw [SZ.out] at O1
  have RR := Lib.hid (show MdRel w c0 c1 c2 c3 (.slice ra rn rc) (1 + k0) (1 + k1) (1 + k2) (1 + k3) 0 (w1.alloc (.cells #[.int .i64 (1 + (k0 : Int)), .int .i64 (1 + (k1 : Int)), .int .i64 (1 + (k2 : Int)), .int .i64 (1 + (k3 : Int)), .slice none 0 0] 32)) from
    ⟨[], none, 0, ⟨rfl, (fun x hx => by cases hx), Nat.le_refl _⟩, R2.out.alloc _, Z2.out.alloc _, O1, AlsOwn.nil _ _, B2.out.alloc B2.out.size _⟩)
  clear R2 Z2 B2 O1 q0 q1 q2 q3 q4 n0 n1 n2 n3 m0 m1 m2 m3 z0 z1 z2 z3
  rw [SZ.out]
  generalize hgw : w1.alloc _ = w2 at *
  clear hgw
  go_wp2_with fail
  go_loopw [4] (fun iv wr => ∃ i : Nat, iv = .int .i64 (i : Nat) ∧ i ≤ rn ∧ i ≤ 5 ∧ MdRel w c0 c1 c2 c3 (.slice ra rn rc) (1 + k0) (1 + k1) (1 + k2) (1 + k3) i wr) (fun iv _ => rn - (intOf iv).toNat)
  case atStart => exact ⟨0, rfl, Nat.zero_le _, Nat.zero_le _, RR.out⟩
  case round =>
    obtain ⟨i, rfl, hir, hi5, l, la, lc, ⟨hal, hlo, hll⟩, hR, hZ, hO, hA, hb⟩ := hrel
    clear RR
    have AL := Lib.hid hal
    have LO := Lib.hid hlo
    have LL := Lib.hid hll
    have RB := Lib.hid hR
    have ZB := Lib.hid hZ
    have OB := Lib.hid hO
    have AO := Lib.hid hA
    have HB := Lib.hid hb
    clear hal hlo hll hR hZ hO hA hb
    have i0' : (0 : Int) ≤ (i : Int) := by omega
    have qR := RB.out.cell 4
    have qO := OB.out.cell 4
    simp only [List.getElem?_cons_succ, List.getElem?_cons_zero] at qR qO
    by_cases h1 : (i : Int) < (rn : Int)
    · by_cases h2 : (i : Int) < 5
      · obtain ⟨a', c', hv, hP⟩ := HX.out.on HB.out
        obtain ⟨rfl, -⟩ : ra = a' ∧ rc = c' := by simpa using hv
        obtain ⟨b, off, ha, hlt, hc⟩ := hP (by omega)
        subst ha
        obtain ⟨p, q, r, ⟨hp, hq, hr⟩, p0, p1, p2⟩ := hc i (by omega)
        obtain ⟨p5, e1⟩ : ∃ k, k = p % 5 := ⟨_, rfl⟩
        obtain ⟨q4, e2⟩ : ∃ k, k = q % 4 := ⟨_, rfl⟩
        obtain ⟨r8, e3⟩ : ∃ k, k = r % 8 := ⟨_, rfl⟩
        obtain ⟨s5, e4⟩ : ∃ k, k = (p5 + 1 + q4) % 5 := ⟨_, rfl⟩
        have f1 : (p : Int) % 5 = (p5 : Int) := by omega
        have f2 : (q : Int) % 4 = (q4 : Int) := by omega
        have f3 : (r : Int) % 8 = (r8 : Int) := by omega
        have f4 : ((p5 : Int) + 1 + (q4 : Int)) % 5 = (s5 : Int) := by omega
        have hp5 : p5 < 5 := by omega
        have hs5 : s5 < 5 := by omega
        have g1 : (0 : Int) ≤ (p5 : Int) := by omega
        have g2 : (p5 : Int) ≤ 4 := by omega
        have g3 : (0 : Int) ≤ (q4 : Int) := by omega
        have g4 : (q4 : Int) ≤ 3 := by omega
        have g5 : (0 : Int) ≤ (r8 : Int) := by omega
        have g6 : (r8 : Int) ≤ 7 := by omega
        have g7 : (0 : Int) ≤ (s5 : Int) := by omega
        have g8 : (s5 : Int) ≤ 4 := by omega
        have g9 : (0 : Int) ≤ (p : Int) := by omega
        have g10 : (p : Int) ≤ 255 := by omega
        have g11 : (0 : Int) ≤ (q : Int) := by omega
        have g12 : (q : Int) ≤ 255 := by omega
        have g13 : (0 : Int) ≤ (r : Int) := by omega
        have g14 : (r : Int) ≤ 255 := by omega
        obtain ⟨y, hy⟩ : ∃ y : Al, y = ⟨(97 + p5).toUInt8, (97 + s5).toUInt8, 1 + (r8 : Int)⟩ := ⟨_, rfl⟩
        have hya : 97 + (p5 : Int) = (y.a.toNat : Int) := by rw [hy]; exact (letter_five p5 hp5).symm
        have hyb : 97 + (s5 : Int) = (y.b.toNat : Int) := by rw [hy]; exact (letter_five s5 hs5).symm
        have hyc : 1 + (r8 : Int) = y.c := by rw [hy]
        have YA := Lib.hid hya
        have YB := Lib.hid hyb
        have YC := Lib.hid hyc
        have YL := Lib.hid (show 1 ≤ y.c ∧ y.c ≤ 8 by rw [← hyc]; omega)
        clear hc hP hv hp hq hr e1 e2 e3 e4 hp5 hs5 hy hya hyb hyc
        go_upto_region 7 with fail
        rw [f1, f4]
        have AO1 := Lib.hid (AO.out.below ((Below.refl wr.heap.size wr).alloc (Nat.le_refl _) (.cells #[] 46)))
        have l5 : l.length ≤ 5 := by have := LL.out; omega
        have qOa : ∀ ob, (wr.alloc ob).cell? ⟨w.heap.size + 2, 4, none⟩ = some (.slice la l.length lc) := fun ob => (OB.out.alloc ob).cell 4
        have qOb : w.heap.size + 2 < wr.heap.size := OB.out.lt
        go_upto_region 8 with (first | (at_builtin; refine wpList_append_als rfl _ _ rfl wr.heap.size _ [] rfl (AlsOwn.new wr) (w.heap.size + 3) _ l rfl AO1.out (by simp; omega) (by simp) ?_; intro v2 w3 own2 grow2) | fail)
        have b3 : Below wr.heap.size wr w3 := ((Below.refl _ _).alloc (Nat.le_refl _) _).grown grow2 (by simp) (fun k hk => by cases hk; exact Nat.le_refl _)
        rw [List.nil_append] at own2
        have B3 := Lib.hid b3
        have qR3a : ∀ ob, (w3.alloc ob).cell? ⟨w.heap.size, 4, none⟩ = some (.slice (some ⟨b, off, none⟩) rn rc) := fun ob => ((RB.out.below b3).alloc ob).cell 4
        have p2' := (Below.cell b3 (p := ⟨b, off + i * 3 + 2, none⟩) hlt).trans p2
        have qR3 := ((RB.out.below b3).cell 4)
        simp only [List.getElem?_cons_succ, List.getElem?_cons_zero] at qR3
        have one := Lib.hid (show AlsOwn (w3.alloc (.cells #[.int .u8 (97 + (p5 : Int)), .int .u8 (97 + (s5 : Int)), .int .i64 (1 + (r8 : Int))] 46)) w3.heap.size (.slice (some ⟨w3.heap.size, 0, none⟩) 1 1) [y] by
          rw [YA.out, YB.out, YC.out]; exact AlsOwn.one w3 y)
        have O2 := Lib.hid (own2.below ((Below.refl w3.heap.size w3).alloc (Nat.le_refl _) (.cells #[.int .u8 (97 + (p5 : Int)), .int .u8 (97 + (s5 : Int)), .int .i64 (1 + (r8 : Int))] 46)))
        have BK := Lib.hid own2.blk
        have hz3 : wr.heap.size ≤ (w3.alloc (.cells #[.int .u8 (97 + (p5 : Int)), .int .u8 (97 + (s5 : Int)), .int .i64 (1 + (r8 : Int))] 46)).heap.size := by have := b3.size; simp; omega
        have b3a := Lib.hid (b3.alloc b3.size (.cells #[.int .u8 (97 + (p5 : Int)), .int .u8 (97 + (s5 : Int)), .int .i64 (1 + (r8 : Int))] 46))
        obtain ⟨va2, vc2, rfl⟩ := own2.shape
        clear b3 own2 grow2 p0 p1 p2 qR qO qOa qOb AO1
        go_upto_region 9 with (first | (at_builtin; refine wpList_append_als rfl _ _ rfl wr.heap.size _ l rfl O2.out w3.heap.size _ [y] rfl one.out (by simp; omega) hz3 ?_; intro v4 w4 own4 grow4) | fail)
        have b4 : Below wr.heap.size wr w4 := b3a.out.grown grow4 hz3 (fun k hk => BK.out k hk)
        have B4 := Lib.hid b4
        have O4 := Lib.hid own4
        obtain ⟨va4, vc4, rfl⟩ := own4.shape
        have hlen : (l ++ [y]).length ≤ 6 := by simp; omega
        have CV := RValid_any ⟨1, 1, 1, 1, l ++ [y]⟩ va4 vc4 w4 own4.at (by unfold maxLen; show (l ++ [y]).length ≤ _; omega)
        have hvs : validS ⟨1, 1, 1, 1, l ++ [y]⟩ = alikeB (l ++ [y]) := rfl
        rw [hvs] at CV
        have LO2 := Lib.hid (show ∀ x ∈ l ++ [y], 1 ≤ x.c ∧ x.c ≤ 8 from fun x hx => by
          rcases List.mem_append.1 hx with h | h
          · exact LO.out x h
          · obtain rfl : x = y := by simpa using h
            exact YL.out)
        have LL2 := Lib.hid (show (l ++ [y]).length ≤ i + 1 by simp; exact LL.out)
        clear b4 own4 grow4 one O2 BK b3a p2' qR3 qR3a hvs hlen
        obtain ⟨l', hl'⟩ : ∃ l', l' = l ++ [y] := ⟨_, rfl⟩
        rw [← hl'] at CV O4 LO2 LL2 ⊢
        clear hl'
        dsimp only at CV
        go_wp2_with fail
        refine CV.mono ?_
        rintro e w5 ⟨rfl, hb5⟩
        have b5 : Below wr.heap.size wr w5 := B4.out.trans (hb5.mono B4.out.size)
        have M5 := Lib.hid (show MdRel w c0 c1 c2 c3 (.slice (some ⟨b, off, none⟩) rn rc) (1 + k0) (1 + k1) (1 + k2) (1 + k3) (i + 1) w5 from
          ⟨l, la, lc, ⟨AL.out, LO.out, by have := LL.out; omega⟩, RB.out.below b5, ZB.out.below b5, OB.out.below b5, AO.out.below b5, HB.out.trans (b5.mono HB.out.size)⟩)
        have O5 := OB.out.below b5
        have o4 := O5.cell 4
        simp only [List.getElem?_cons_succ, List.getElem?_cons_zero] at o4
        have o4f := O5.free 4
        have hsz : w.heap.size + 2 < wr.heap.size := OB.out.lt
        have S5 := Lib.hid (show alikeB l' = true → MdRel w c0 c1 c2 c3 (.slice (some ⟨b, off, none⟩) rn rc) (1 + k0) (1 + k1) (1 + k2) (1 + k3) (i + 1) (w5.setCell ⟨w.heap.size + 2, 4, none⟩ (.slice va4 l'.length vc4)) from fun hal =>
          ⟨l', va4, vc4, ⟨hal, LO2.out, LL2.out⟩, (RB.out.below b5).setCell (by omega), (ZB.out.below b5).setCell (by omega), O5.put 4 _, by
            have h5 := (O4.out.below hb5).mono (b' := w.heap.size + 3) (by omega)
            refine ⟨h5.1, ?_⟩
            rcases (O4.out.below hb5).2 with h0 | ⟨g, cap, cur, hv, hg, hh, r⟩
            · exact Or.inl h0
            · exact Or.inr ⟨g, cap, cur, hv, by omega, by rw [heap_setCell_other _ _ _ _ (by show g ≠ w.heap.size + 2; omega)]; exact hh, r⟩, (HB.out.trans (b5.mono HB.out.size)).setCell (by show w.heap.size ≤ w.heap.size + 2; omega) _⟩)
        clear b5 hb5 CV O4 AL LO LL RB ZB OB AO HB B3 B4 LO2 LL2 O5
        cases hal : alikeB l' with
        | true =>
          have R5 := Lib.hid (S5.out hal)
          clear hal S5 M5
          go_wp2_with fail
          go_roundw
          case rel => exact ⟨i + 1, by go_num, by omega, by omega, R5.out⟩
          case measure => simp [intOf]; omega
        | false =>
          clear hal S5
          go_wp2_with fail
          go_roundw
          case rel => exact ⟨i + 1, by go_num, by omega, by omega, M5.out⟩
          case measure => simp [intOf]; omega
      · have q0 := OB.out.cell 0
        have q1 := OB.out.cell 1
        have q2 := OB.out.cell 2
        have q3 := OB.out.cell 3
        simp only [List.getElem?_cons_succ, List.getElem?_cons_zero] at q0 q1 q2 q3
        have th : wr.there (w.heap.size + 1) 0 5 := fun j hj => ⟨by
          rw [ZB.out.cell]
          rcases (show j = 0 ∨ j = 1 ∨ j = 2 ∨ j = 3 ∨ j = 4 by omega) with rfl | rfl | rfl | rfl | rfl <;> rfl, ZB.out.free _⟩
        have ZN := Lib.hid (show Blk (wr.setCells (w.heap.size + 1) 0 [.int .i64 (1 + (k0 : Int)), .int .i64 (1 + (k1 : Int)), .int .i64 (1 + (k2 : Int)), .int .i64 (1 + (k3 : Int)), .slice la l.length lc]) (w.heap.size + 1) 32 [.int .i64 (1 + (k0 : Int)), .int .i64 (1 + (k1 : Int)), .int .i64 (1 + (k2 : Int)), .int .i64 (1 + (k3 : Int)), .slice la l.length lc] from
          ((((ZB.out.put 0 _).put 1 _).put 2 _).put 3 _).put 4 _)
        have BN := (But.refl [w.heap.size + 1] wr).cells (g := w.heap.size + 1) (by simp) [.int .i64 (1 + (k0 : Int)), .int .i64 (1 + (k1 : Int)), .int .i64 (1 + (k2 : Int)), .int .i64 (1 + (k3 : Int)), .slice la l.length lc] 0
        have AN := Lib.hid ((AO.out.but BN (fun k hk => by
          obtain rfl : k = w.heap.size + 1 := by simpa using hk
          omega)).mono (b' := w.heap.size) (by omega))
        have HN := Lib.hid (HB.out.trans (BN.low HB.out.size (fun k hk => by
          obtain rfl : k = w.heap.size + 1 := by simpa using hk
          omega)))
        have SM := Lib.hid (show Small ⟨1 + k0, 1 + k1, 1 + k2, 1 + k3, l⟩ from ⟨⟨by show 1 ≤ 1 + (k0 : Int); omega, by show 1 + (k0 : Int) ≤ 8; omega⟩, ⟨by show 1 ≤ 1 + (k1 : Int); omega, by show 1 + (k1 : Int) ≤ 8; omega⟩, ⟨by show 1 ≤ 1 + (k2 : Int); omega, by show 1 + (k2 : Int) ≤ 8; omega⟩, ⟨by show 1 ≤ 1 + (k3 : Int); omega, by show 1 + (k3 : Int) ≤ 8; omega⟩, AL.out, LO.out, by have := LL.out; show l.length ≤ 5; omega⟩)
        clear BN
        go_wp2_with (refine wpList_store_mid rfl 32 _ _ rfl (w.heap.size + 1) 0 #[.int .i64 (1 + (k0 : Int)), .int .i64 (1 + (k1 : Int)), .int .i64 (1 + (k2 : Int)), .int .i64 (1 + (k3 : Int)), .slice la l.length lc] (by go_simp) (by go_simp) th info32 (by simp [Value.oneCell']) ?_)
        exact ret_slips Try.results12 rfl rfl ZN.out ⟨⟨⟨1 + k0, 1 + k1, 1 + k2, 1 + k3, l⟩, la, lc, rfl, SM.out, AN.out⟩, HN.out⟩
    · have q0 := OB.out.cell 0
      have q1 := OB.out.cell 1
      have q2 := OB.out.cell 2
      have q3 := OB.out.cell 3
      simp only [List.getElem?_cons_succ, List.getElem?_cons_zero] at q0 q1 q2 q3
      have th : wr.there (w.heap.size + 1) 0 5 := fun j hj => ⟨by
        rw [ZB.out.cell]
        rcases (show j = 0 ∨ j = 1 ∨ j = 2 ∨ j = 3 ∨ j = 4 by omega) with rfl | rfl | rfl | rfl | rfl <;> rfl, ZB.out.free _⟩
      have ZN := Lib.hid (show Blk (wr.setCells (w.heap.size + 1) 0 [.int .i64 (1 + (k0 : Int)), .int .i64 (1 + (k1 : Int)), .int .i64 (1 + (k2 : Int)), .int .i64 (1 + (k3 : Int)), .slice la l.length lc]) (w.heap.size + 1) 32 [.int .i64 (1 + (k0 : Int)), .int .i64 (1 + (k1 : Int)), .int .i64 (1 + (k2 : Int)), .int .i64 (1 + (k3 : Int)), .slice la l.length lc] from
        ((((ZB.out.put 0 _).put 1 _).put 2 _).put 3 _).put 4 _)
      have BN := (But.refl [w.heap.size + 1] wr).cells (g := w.heap.size + 1) (by simp) [.int .i64 (1 + (k0 : Int)), .int .i64 (1 + (k1 : Int)), .int .i64 (1 + (k2 : Int)), .int .i64 (1 + (k3 : Int)), .slice la l.length lc] 0
      have AN := Lib.hid ((AO.out.but BN (fun k hk => by
        obtain rfl : k = w.heap.size + 1 := by simpa using hk
        omega)).mono (b' := w.heap.size) (by omega))
      have HN := Lib.hid (HB.out.trans (BN.low HB.out.size (fun k hk => by
        obtain rfl : k = w.heap.size + 1 := by simpa using hk
        omega)))
      have SM := Lib.hid (show Small ⟨1 + k0, 1 + k1, 1 + k2, 1 + k3, l⟩ from ⟨⟨by show 1 ≤ 1 + (k0 : Int); omega, by show 1 + (k0 : Int) ≤ 8; omega⟩, ⟨by show 1 ≤ 1 + (k1 : Int); omega, by show 1 + (k1 : Int) ≤ 8; omega⟩, ⟨by show 1 ≤ 1 + (k2 : Int); omega, by show 1 + (k2 : Int) ≤ 8; omega⟩, ⟨by show 1 ≤ 1 + (k3 : Int); omega, by show 1 + (k3 : Int) ≤ 8; omega⟩, AL.out, LO.out, by have := LL.out; show l.length ≤ 5; omega⟩)
      clear BN
      go_wp2_with (refine wpList_store_mid rfl 32 _ _ rfl (w.heap.size + 1) 0 #[.int .i64 (1 + (k0 : Int)), .int .i64 (1 + (k1 : Int)), .int .i64 (1 + (k2 : Int)), .int .i64 (1 + (k3 : Int)), .slice la l.length lc] (by go_simp) (by go_simp) th info32 (by simp [Value.oneCell']) ?_)
      exact ret_slips Try.results12 rfl rfl ZN.out ⟨⟨⟨1 + k0, 1 + k1, 1 + k2, 1 + k3, l⟩, la, lc, rfl, SM.out, AN.out⟩, HN.out⟩
end Go.Proofs.Ytadaijepalhohaa
