/-
  Nearest.
-/
import Derived.Test.YtadaijepalhohaaAP
import Derived.Laws.AppendOwn
import Derived.Deep.AppendLies
namespace Go.Proofs.Ytadaijepalhohaa
open Go.RowKit
open Pl

theorem info_parts {P : Program} {t : TypeId} {z : Value} {n b : Nat} (h : (P.info? t).map (fun i => (i.zero, i.size, i.bytes)) = some (some z, n, b)) : ∃ i, P.info? t = some i ∧ i.zero = some z ∧ i.size = n ∧ i.bytes = b := by
  cases hi : P.info? t with
  | none => rw [hi] at h; cases h
  | some i =>
    rw [hi] at h
    simp only [Option.map_some, Option.some.injEq, Prod.mk.injEq] at h
    exact ⟨i, rfl, h.1, h.2.1, h.2.2⟩
theorem infoFd : (Try.prog.info? 57).map (fun i => (i.zero, i.size, i.bytes)) = some (some (.agg #[.int .i64 0, .int .i64 0]), 2, 16) := by kernel_rfl
def fdC (x : Fd) : List Value := [.int .i64 x.word, .int .i64 x.cost]
theorem fdC_len (fs : List Fd) : (fs.flatMap fdC).length = fs.length * 2 := by
  induction fs with
  | nil => rfl
  | cons x l ih => rw [List.flatMap_cons, List.length_append, ih, List.length_cons]; simp [fdC]; omega
theorem fdC_get : ∀ (fs : List Fd) (i : Nat) (h : i < fs.length), (fs.flatMap fdC)[i * 2]? = some (.int .i64 fs[i].word) ∧ (fs.flatMap fdC)[i * 2 + 1]? = some (.int .i64 fs[i].cost)
  | x :: l, 0, _ => ⟨rfl, rfl⟩
  | x :: l, i + 1, h => by
    have ih := fdC_get l i (by simpa using h)
    rw [List.flatMap_cons, show (i + 1) * 2 = (fdC x).length + i * 2 by simp [fdC]; omega, List.getElem?_append_right (by omega), show (fdC x).length + i * 2 + 1 = (fdC x).length + (i * 2 + 1) by omega, List.getElem?_append_right (by omega), Nat.add_sub_cancel_left, Nat.add_sub_cancel_left]
    simpa using ih
/-- Words that are near, in memory of their own. -/
def FdsOwn (W : World) (base : Nat) (v : Value) (fs : List Fd) : Prop := W.ownsRow base 57 2 v fs.length (fs.flatMap fdC)
theorem FdsOwn.nil (W : World) (b : Nat) : FdsOwn W b (.slice none 0 0) [] := ⟨rfl, Or.inl ⟨rfl, rfl⟩⟩
theorem FdsOwn.shape {W : World} {b : Nat} {v : Value} {fs : List Fd} (h : FdsOwn W b v fs) : ∃ a c, v = .slice a fs.length c := by
  rcases h.2 with ⟨rfl, h0⟩ | ⟨g, cap, cur, rfl, _⟩
  · exact ⟨none, 0, by rw [h0]⟩
  · exact ⟨_, _, rfl⟩
theorem FdsOwn.blk {W : World} {b : Nat} {v : Value} {fs : List Fd} (h : FdsOwn W b v fs) : ∀ k, v.ownBlock = some k → b ≤ k := by
  intro k hk
  rcases h.2 with ⟨rfl, _⟩ | ⟨g, cap, cur, rfl, hg, _⟩
  · cases hk
  · cases hk; exact hg
theorem FdsOwn.but {W W' : World} {b : Nat} {v : Value} {fs : List Fd} {ex : List Nat} (h : FdsOwn W b v fs) (hb : But ex W W') (hx : ∀ k, k ∈ ex → k < b) : FdsOwn W' b v fs := by
  refine ⟨h.1, ?_⟩
  rcases h.2 with h0 | ⟨g, cap, cur, hv, hg, hh, h1, h2, h3, h4⟩
  · exact Or.inl h0
  · exact Or.inr ⟨g, cap, cur, hv, hg, by rw [hb.block g (lt_of_heap hh) (fun e => by have := hx g e; omega)]; exact hh, h1, h2, h3, h4⟩
theorem FdsOwn.open {W : World} {b : Nat} {v : Value} {fs : List Fd} (h : FdsOwn W b v fs) : (v = .slice none 0 0 ∧ fs = []) ∨ ∃ g cap, v = .slice (some ⟨g, 0, none⟩) fs.length cap ∧ b ≤ g ∧ FBlk W g fs := by
  rcases h.2 with ⟨rfl, h0⟩ | ⟨g, cap, cur, rfl, hb, hg, hn, _, hc, ht⟩
  · exact Or.inl ⟨rfl, List.length_eq_zero_iff.1 h0⟩
  · refine Or.inr ⟨g, cap, rfl, hb, cur.toList, by unfold Blk; simpa using hg, ?_, fun i hi => ?_⟩
    · have := congrArg List.length ht
      rw [fdC_len, List.length_take] at this
      omega
    · obtain ⟨e1, e2⟩ := fdC_get fs i hi
      rw [← ht, List.getElem?_take_of_lt (by omega)] at e1
      rw [← ht, List.getElem?_take_of_lt (by omega)] at e2
      exact ⟨e1, e2⟩
/-- The slice v reads as these words that are near. -/
def FdsAt (W : World) (B0 : Nat) (v : Value) (fs : List Fd) : Prop :=
  ∃ a c, v = .slice a fs.length c ∧ (0 < fs.length → ∃ b off, a = some ⟨b, off, none⟩ ∧ b < B0 ∧ ∀ i (h : i < fs.length), W.cell? ⟨b, off + i * 2, none⟩ = some (.int .i64 fs[i].word) ∧ W.cell? ⟨b, off + i * 2 + 1, none⟩ = some (.int .i64 fs[i].cost))
theorem FdsAt.on {W W' : World} {v : Value} {fs : List Fd} (h : FdsAt W W.heap.size v fs) (hb : Below W.heap.size W W') : FdsAt W' W'.heap.size v fs := by
  obtain ⟨a, c, rfl, h⟩ := h
  refine ⟨a, c, rfl, fun hp => ?_⟩
  obtain ⟨b, off, rfl, hlt, hc⟩ := h hp
  refine ⟨b, off, rfl, Nat.lt_of_lt_of_le hlt hb.size, fun i hi => ?_⟩
  obtain ⟨h0, h1⟩ := hc i hi
  have e := fun o => hb.cell (p := ⟨b, o, none⟩) hlt
  exact ⟨(e _).trans h0, (e _).trans h1⟩
theorem FBlk.at {W : World} {g cap : Nat} {fs : List Fd} (h : FBlk W g fs) : FdsAt W W.heap.size (.slice (some ⟨g, 0, none⟩) fs.length cap) fs :=
  ⟨_, _, rfl, fun _ => ⟨g, 0, rfl, h.lt, fun i hi => by rw [Nat.zero_add]; exact h.cells i hi⟩⟩
/-- The slice v reads as these texts. -/
def StrsAt (W : World) (B0 : Nat) (v : Value) (ws : List (List UInt8)) : Prop :=
  ∃ a c, v = .slice a ws.length c ∧ (0 < ws.length → ∃ b off, a = some ⟨b, off, none⟩ ∧ b < B0 ∧ ∀ i (h : i < ws.length), W.cell? ⟨b, off + i, none⟩ = some (.string (B ws[i])))
theorem StrsAt.on {W W' : World} {v : Value} {ws : List (List UInt8)} (h : StrsAt W W.heap.size v ws) (hb : Below W.heap.size W W') : StrsAt W' W'.heap.size v ws := by
  obtain ⟨a, c, rfl, h⟩ := h
  refine ⟨a, c, rfl, fun hp => ?_⟩
  obtain ⟨b, off, rfl, hlt, hc⟩ := h hp
  exact ⟨b, off, rfl, Nat.lt_of_lt_of_le hlt hb.size, fun i hi => (hb.cell (p := ⟨b, _, none⟩) hlt).trans (hc i hi)⟩
/-- The near ones of the first n words, in their order. -/
def nearL (s : Sl) (t : List UInt8) (most : Int) (ws : List (List UInt8)) (n : Nat) : List Fd := (ws.take n).zipIdx.filterMap fun p => if D s p.1 t ≤ most then some ⟨(p.2 : Int), D s p.1 t⟩ else none
theorem nearL_succ (s : Sl) (t : List UInt8) (most : Int) (ws : List (List UInt8)) (n : Nat) (h : n < ws.length) : nearL s t most ws (n + 1) = nearL s t most ws n ++ (if D s ws[n] t ≤ most then [⟨(n : Int), D s ws[n] t⟩] else []) := by
  unfold nearL
  rw [List.take_succ_eq_append_getElem h, List.zipIdx_append, List.filterMap_append]
  have hl : (ws.take n).length = n := by rw [List.length_take]; omega
  simp only [List.zipIdx_cons, List.zipIdx_nil, hl, Nat.zero_add]
  by_cases hp : D s ws[n] t ≤ most <;> simp [hp]
theorem nearL_mem (s : Sl) (t : List UInt8) (most : Int) (ws : List (List UInt8)) : ∀ n, n ≤ ws.length → ∀ f : Fd, f ∈ nearL s t most ws n ↔ ∃ i, ∃ h : i < ws.length, i < n ∧ D s ws[i] t ≤ most ∧ f = ⟨(i : Int), D s ws[i] t⟩
  | 0, _, f => by simp [nearL]
  | n + 1, hn, f => by
    rw [nearL_succ _ _ _ _ _ (by omega), List.mem_append, nearL_mem s t most ws n (by omega) f]
    constructor
    · rintro (⟨i, h, h1, h2⟩ | h)
      · exact ⟨i, h, by omega, h2⟩
      · by_cases hp : D s (ws[n]'(by omega)) t ≤ most
        · rw [if_pos hp] at h
          exact ⟨n, by omega, by omega, hp, by simpa using h⟩
        · rw [if_neg hp] at h; cases h
    · rintro ⟨i, h, h1, h2, h3⟩
      rcases Nat.lt_or_ge i n with q | q
      · exact Or.inl ⟨i, h, q, h2, h3⟩
      · obtain rfl : i = n := by omega
        exact Or.inr (by rw [if_pos h2]; simpa using h3)
theorem nearL_words (s : Sl) (t : List UInt8) (most : Int) (ws : List (List UInt8)) : ∀ n, n ≤ ws.length → (nearL s t most ws n).Pairwise fun x y => x.word < y.word
  | 0, _ => by simp [nearL]
  | n + 1, hn => by
    rw [nearL_succ _ _ _ _ _ (by omega), List.pairwise_append]
    refine ⟨nearL_words s t most ws n (by omega), ?_, fun x hx y hy => ?_⟩
    · split <;> simp
    · obtain ⟨i, _, h1, _, rfl⟩ := (nearL_mem s t most ws n (by omega) x).1 hx
      split at hy
      · have : y = ⟨(n : Int), D s (ws[n]'(by omega)) t⟩ := by simpa using hy
        subst this
        show (i : Int) < (n : Int)
        omega
      · cases hy
theorem nearL_len (s : Sl) (t : List UInt8) (most : Int) (ws : List (List UInt8)) (n : Nat) : (nearL s t most ws n).length ≤ n := by
  unfold nearL
  refine Nat.le_trans (List.length_filterMap_le _ _) ?_
  rw [List.length_zipIdx, List.length_take]
  omega
/-- What Nearest keeps over the words. -/
def NeRel (W1 w : World) (T : Nat) (gs : Nat) (s : Sl) (a : Option Addr) (c bp bl : Nat) (t : List UInt8) (v : Value) (fs : List Fd) (W : World) : Prop :=
  ∃ x y z, TabInv W1 W T x y z s a c bp bl (B t) ∧ (T < gs ∧ x < gs ∧ y < gs ∧ z < gs) ∧ FdsOwn W gs v fs ∧ Below w.heap.size w W ∧ gs ≤ W.heap.size
set_option maxHeartbeats 2000000 in
set_option maxRecDepth 100000 in
theorem Nearest_any (s : Sl) (hs : Bd s) (a : Option Addr) (c : Nat) (t : List UInt8) (ws : List (List UInt8)) (wa : Option Addr) (wc : Nat) (most : Int) (w : World) (hx : AlsAt w w.heap.size (.slice a s.alike.length c) s.alike) (hl : s.alike.length ≤ 1000000) (ht : t.length ≤ 1000) (hws : StrsAt w w.heap.size (.slice wa ws.length wc) ws) (hn : ws.length ≤ 19) (hwl : ∀ m ∈ ws, m.length ≤ 1000) :
    Calls Try.prog 18 #[.agg #[.int .i64 s.swap, .int .i64 s.drop, .int .i64 s.add, .int .i64 s.put, .slice a s.alike.length c], .string (B t), .slice wa ws.length wc, .int .i64 most] w fun e w' => (∃ v R, e = .returned v ∧ SortOf (nearL s t most ws ws.length) R ∧ FdsAt w' w'.heap.size v R) ∧ Below w.heap.size w w' := by
  obtain ⟨i0, hi0, hz0, hz1, hz2⟩ := info_parts infoFd
  have b1 := (Below.refl w.heap.size w).alloc (Nat.le_refl _) (.cells #[.int .i64 s.swap, .int .i64 s.drop, .int .i64 s.add, .int .i64 s.put, .slice a s.alike.length c] 32)
  have SB := Lib.hid (SlBlock.new w s (.slice a s.alike.length c))
  have HX := Lib.hid (hx.on b1)
  have HB := Lib.hid b1
  have WS := Lib.hid hws
  have WL := Lib.hid hwl
  clear hx b1 hws hwl
  go_enter Try.func18, Try.ntmps18
  go_upto_region 2 with fail
  generalize w.alloc _ = w1 at *
  obtain ⟨q0, q1, q2, q3, q4⟩ := SB.out.cells
  have CT := Lib.hid (tableFor_any s a c (B t) w1 HX.out hl (by rw [size_B]; omega))
  go_wp2_with fail
  refine (CT.out).mono ?_
  rintro e w2 ⟨W1, T, x, y, z, bp, bl, rfl, hT, hb⟩
  have LOW := Lib.hid (HB.out.trans (hb.mono HB.out.size))
  have RR := Lib.hid (show NeRel W1 w T w2.heap.size s a c bp bl t (.slice none 0 0) (nearL s t most ws 0) w2 from ⟨x, y, z, hT, ⟨hT.blk.lt, by obtain ⟨_, _, h⟩ := hT.rx; exact Blk.lt h, by obtain ⟨_, _, h⟩ := hT.ry; exact Blk.lt h, by obtain ⟨_, _, h⟩ := hT.rz; exact Blk.lt h⟩, FdsOwn.nil _ _, LOW.out.trans (hT.low.mono LOW.out.size), Nat.le_refl _⟩)
  clear hT hb q0 q1 q2 q3 q4 CT SB HX HB
  generalize hgs : w2.heap.size = gs at *
  clear hgs
  go_wp2_with fail
  go_loopw [9, 19] (fun v iv wr => ∃ i : Nat, iv = .int .i64 (i : Nat) ∧ i ≤ ws.length ∧ NeRel W1 w T gs s a c bp bl t v (nearL s t most ws i) wr) (fun _ iv _ => ws.length - (intOf iv).toNat)
  case atStart => exact ⟨0, rfl, Nat.zero_le _, RR.out⟩
  case round =>
    obtain ⟨i, rfl, hi, x, y, z, hT, hgt, hown, hbw, hgz⟩ := hrel
    obtain ⟨va, vc, rfl⟩ := hown.shape
    clear RR
    have TI := Lib.hid hT
    have GT := Lib.hid hgt
    have OW := Lib.hid hown
    have BW := Lib.hid hbw
    clear hT hgt hown hbw
    have i0' : (0 : Int) ≤ (i : Int) := by omega
    by_cases h1 : (i : Int) < (ws.length : Int)
    · have hiw : i < ws.length := by omega
      obtain ⟨a', c', hv, hP⟩ := WS.out.on BW.out
      obtain ⟨rfl, -⟩ : wa = a' ∧ wc = c' := by simpa using hv
      obtain ⟨b, off, ha, hlt, hc⟩ := hP (by omega)
      subst ha
      have p0 := hc i hiw
      have hm : (ws[i]).length ≤ 1000 := WL.out _ (List.getElem_mem hiw)
      have HN0 := nearL_succ s t most ws i hiw
      obtain ⟨m, hme⟩ : ∃ m, m = ws[i] := ⟨_, rfl⟩
      rw [← hme] at p0 hm HN0
      have CD := tdist_any s hs a c bp bl t m W1 wr T x y z TI.out hl ht hm
      have HN := Lib.hid HN0
      clear hc hP hv hme hlt HN0
      go_wp2_with fail
      refine CD.mono ?_
      rintro e w3 ⟨x', y', z', rfl, hT', hbt, hin⟩
      have RN := Lib.hid (show NeRel W1 w T gs s a c bp bl t (.slice va (nearL s t most ws i).length vc) (nearL s t most ws i) w3 from ⟨x', y', z', hT', ⟨GT.out.1, by
        obtain ⟨g1, g2, g3, g4⟩ := GT.out
        have := hin.1
        simp at this
        rcases this with rfl | rfl | rfl <;> assumption, by
        obtain ⟨g1, g2, g3, g4⟩ := GT.out
        have := hin.2.1
        simp at this
        rcases this with rfl | rfl | rfl <;> assumption, by
        obtain ⟨g1, g2, g3, g4⟩ := GT.out
        have := hin.2.2
        simp at this
        rcases this with rfl | rfl | rfl <;> assumption⟩, OW.out.but hbt (fun k hk => by
        obtain ⟨g1, g2, g3, g4⟩ := GT.out
        simp at hk
        rcases hk with rfl | rfl | rfl | rfl <;> assumption), LOW.out.trans (hT'.low.mono LOW.out.size), Nat.le_trans hgz hbt.size⟩)
      clear hT' hbt hin CD TI OW BW GT p0 hgz
      obtain ⟨d, hd⟩ : ∃ d, d = D s m t := ⟨_, rfl⟩
      rw [← hd] at HN ⊢
      clear hd
      by_cases hdm : d ≤ most
      · have HE := Lib.hid (HN.out.trans (by rw [if_pos hdm]))
        clear HN
        obtain ⟨x3, y3, z3, hT3, hg3, ho3, hb3, hz3⟩ := RN.out
        have hnl := nearL_len s t most ws i
        obtain ⟨N, hNe⟩ : ∃ N, N = nearL s t most ws i := ⟨_, rfl⟩
        rw [← hNe] at HE ho3 hnl RN ⊢
        clear hNe
        have T3 := Lib.hid hT3
        have G3 := Lib.hid hg3
        have O3 := Lib.hid ho3
        have B3 := Lib.hid hb3
        have hmx : N.length + 1 ≤ maxLen := by unfold maxLen; omega
        have hby : (N.length + 1) * 16 ≤ 140737488355328 := by omega
        have hba : gs ≤ (w3.alloc (.cells #[.int .i64 (i : Int), .int .i64 d] 57)).heap.size := by simp; omega
        have hob := Lib.hid ho3.blk
        have own1 := Lib.hid (World.ownsRow.alloc ho3 (.cells #[.int .i64 (i : Int), .int .i64 d] 57))
        have nw := Lib.hid (heap_alloc_new w3 (.cells #[.int .i64 (i : Int), .int .i64 d] 57))
        clear hT3 hg3 ho3 hb3 RN hnl
        go_wp2_with (first
          | (at_builtin; refine wpList_append_own _ rfl _ _ 39 rfl gs 57 i0 _ 2 16 Try.underlying39 hi0 hz0 hz1 hz2 rfl (by decide) _ _ _ rfl own1.out ⟨w3.heap.size, 0, none⟩ 1 1 [.int .i64 (i : Int), .int .i64 d] rfl rfl (World.news_of_block (cs := #[.int .i64 (i : Int), .int .i64 d]) (t := 57) (fr := (0, 0)) nw.out) (by simp [Value.oneCell']) hmx hby hba ?_; intro v2 w4 hown2 hgrow2 hnil2)
          | fail)
        have RNE := Lib.hid (show NeRel W1 w T gs s a c bp bl t v2 (N ++ [⟨(i : Int), d⟩]) w4 from by
          obtain ⟨g1, g2, g3, g4⟩ := G3.out
          have bal := (Below.refl w3.heap.size w3).alloc (Nat.le_refl _) (.cells #[.int .i64 (i : Int), .int .i64 d] 57)
          have bgr : Below gs (w3.alloc (.cells #[.int .i64 (i : Int), .int .i64 d] 57)) w4 := (Below.refl _ _).grown hgrow2 hba (fun k hk => hob.out k hk)
          have b34 : Below gs w3 w4 := (bal.mono hz3).trans bgr
          have bk : ∀ {b : Nat} {ty : TypeId} {vs : List Value}, Blk w3 b ty vs → b < gs → Blk w4 b ty vs := fun h hb => by
            unfold Blk at h ⊢
            rw [b34.block _ hb]; exact h
          have hr : ∀ {b n : Nat}, HasRow w3 b n → b < gs → HasRow w4 b n := fun h hb => by
            obtain ⟨R, e1, e2⟩ := h
            exact ⟨R, e1, bk e2 hb⟩
          have hw1 : W1.heap.size ≤ gs := Nat.le_trans T3.out.ge.1 (Nat.le_of_lt g1)
          refine ⟨x3, y3, z3, ⟨bk T3.out.blk g1, hr T3.out.rx g2, hr T3.out.ry g3, hr T3.out.rz g4, T3.out.ne, T3.out.ok, T3.out.low.trans (b34.mono hw1), T3.out.ge⟩, ⟨g1, g2, g3, g4⟩, ?_, B3.out.trans (b34.mono (Nat.le_trans LOW.out.size hw1)), Nat.le_trans hz3 b34.size⟩
          unfold FdsOwn
          rw [List.flatMap_append, List.length_append, List.length_singleton]
          exact hown2)
        clear hown2 hgrow2 hnil2 own1 nw hob T3 G3 O3 B3
        go_roundw
        case rel => exact ⟨i + 1, by go_num, by omega, by rw [HE.out]; exact RNE.out⟩
        case measure => simp [intOf]; omega
      · have HE := Lib.hid (HN.out.trans (by rw [if_neg hdm, List.append_nil]))
        clear HN
        go_wp2_with fail
        go_roundw
        case rel => exact ⟨i + 1, by go_num, by omega, by rw [HE.out]; exact RN.out⟩
        case measure => simp [intOf]; omega
    · have hie : i = ws.length := by omega
      have NW := nearL_words s t most ws i hi
      have NLn := nearL_len s t most ws i
      have HI := Lib.hid hie
      obtain ⟨N, hNe⟩ : ∃ N, N = nearL s t most ws i := ⟨_, rfl⟩
      rw [← hNe] at NW NLn OW ⊢
      have HN := Lib.hid (show N = nearL s t most ws ws.length by rw [hNe, hie])
      have n19 : N.length ≤ 19 := by omega
      clear hNe hie
      have CS : Calls Try.prog 26 #[.slice va N.length vc, cmpV] wr fun e w' => e = .returned (.tuple #[]) ∧ (∃ R, SortOf N R ∧ FdsAt w' w'.heap.size (.slice va N.length vc) R) ∧ Below w.heap.size w w' := by
        rcases OW.out.open with ⟨hv, hn0⟩ | ⟨g, cap, hv, hg, hf⟩
        · subst hn0
          obtain ⟨rfl, rfl⟩ : va = none ∧ vc = 0 := by simpa using hv
          exact sortStable_any 0 none 0 _ (by omega) wr ((insertion_zero none 0 wr).mono fun e w' ⟨he, hw⟩ => ⟨he, rfl, ⟨[], ⟨rfl, fun _ => Iff.rfl, List.Pairwise.nil⟩, none, 0, rfl, fun h => absurd h (Nat.lt_irrefl _)⟩, by rw [← hw]; exact BW.out⟩)
        · obtain ⟨rfl, rfl⟩ : va = some ⟨g, 0, none⟩ ∧ vc = cap := by simpa using hv
          refine sortStable_any N.length _ vc _ n19 wr ((insertion_any N g vc wr hf (by omega) NW).mono fun e w' ⟨he, ⟨R, hR, hfR⟩, hbt⟩ => ⟨he, rfl, ⟨R, hR, ?_⟩, ?_⟩)
          · rw [← hR.1]; exact hfR.at
          · have hw1 : w.heap.size ≤ gs := Nat.le_trans LOW.out.size (Nat.le_trans TI.out.ge.1 (Nat.le_of_lt GT.out.1))
            exact BW.out.trans (hbt.low BW.out.size (fun k hk => by
              obtain rfl : k = g := by simpa using hk
              omega))
      clear NW OW TI GT WS WL
      go_wp2_with fail
      refine CS.mono ?_
      rintro e w2 ⟨rfl, ⟨R, hR, hf⟩, hb⟩
      have H := Lib.hid (show (∃ v R, Ending.returned (Value.slice va N.length vc) = .returned v ∧ SortOf (nearL s t most ws ws.length) R ∧ FdsAt w2 w2.heap.size v R) ∧ Below w.heap.size w w2 from ⟨⟨_, R, rfl, by rw [← HN.out]; exact hR, hf⟩, hb⟩)
      clear hR hf hb CS BW
      go_wp2_with fail
      go_ret
      exact H.out
end Go.Proofs.Ytadaijepalhohaa
