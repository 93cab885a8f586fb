/-
  scheme.Parse.
-/
import Derived.Test.YtnbiedijofdjhaaDoorSR
namespace Go.Proofs.YtnbiedijofdjhaaDoor
open Go.RowKit
open Pl

theorem numW_some {f : List UInt8} {n : Nat} (h : numW f = some n) : f ≠ [] ∧ f.length ≤ 4 ∧ onlyB 4 f = true ∧ (1 < f.length → f.head? ≠ some 48) ∧ n = numOf f := by
  unfold numW at h
  split at h
  · cases h
  · rename_i hh
    refine ⟨fun e => hh (Or.inl e), Nat.le_of_not_lt fun e => hh (Or.inr (Or.inl e)), ?_, fun e e2 => hh (Or.inr (Or.inr (Or.inr ⟨e, e2⟩))), (Option.some.inj h).symm⟩
    cases e : onlyB 4 f with
    | true => rfl
    | false => exact absurd (Or.inr (Or.inr (Or.inl e))) hh
theorem numW_lt {f : List UInt8} {n : Nat} (h : numW f = some n) : n < 10000 := by
  obtain ⟨-, h1, h2, -, rfl⟩ := numW_some h
  have := numOf_lt f.length f rfl (onlyB_digit h2)
  have h3 : 10 ^ f.length ≤ 10 ^ 4 := Nat.pow_le_pow_right (by omega) h1
  omega
theorem maskW_le {f : List UInt8} {n : Nat} (h : maskW f = some n) : n ≤ 255 := by
  unfold maskW at h
  split at h
  · split at h
    · rename_i h1; exact (Option.some.inj h) ▸ h1
    · cases h
  · cases h
theorem textW_len {l t : List UInt8} (h : textW l = some t) : t.length ≤ l.length := by
  unfold textW at h
  split at h
  · cases h
  · split at h
    · rw [← Option.some.inj h]; simp
    · rw [← Option.some.inj h]; exact Nat.le_refl _
structure RlIn (n : Nat) (r : Rl) : Prop where
  s : 0 ≤ r.src ∧ r.src < 10000
  d : 0 ≤ r.dst ∧ r.dst < 10000
  c : 0 ≤ r.cost ∧ r.cost < 10000
  i : r.inp.length ≤ n
  o : r.out.length ≤ n
theorem ruleW_in {l : List UInt8} {r : Rl} (h : ruleW l = some r) : RlIn l.length r := by
  unfold ruleW at h
  have hs := fun xs h => fieldsW_short (name := [114, 117, 108, 101]) (n := 5) (l := l) (xs := xs) h
  cases hf : fieldsW [114, 117, 108, 101] 5 l with
  | none => rw [hf] at h; cases h
  | some xs =>
    rw [hf] at h
    have hs' := hs xs hf
    match xs, h with
    | [a, b, c, d, e], h =>
      simp only [ruleF] at h
      split at h
      · rename_i h1 h2 h3 h4 h5
        rw [← Option.some.inj h]
        have := numW_lt h1
        have := numW_lt h2
        have := numW_lt h5
        have hc := hs' c (by simp)
        have hd := hs' d (by simp)
        have := textW_len h3
        have := textW_len h4
        refine ⟨?_, ?_, ?_, ?_, ?_⟩ <;> dsimp only <;> omega
      · cases h
theorem RlIn.mono {n m : Nat} {r : Rl} (h : RlIn n r) (hm : n ≤ m) : RlIn m r := ⟨h.s, h.d, h.c, Nat.le_trans h.i hm, Nat.le_trans h.o hm⟩
theorem rulesW_in : ∀ (f : Nat) (l : List UInt8), (rulesW f l).1.length ≤ l.length ∧ ∀ r ∈ (rulesW f l).1, RlIn l.length r
  | 0, l => by simp [rulesW]
  | f + 1, l => by
    by_cases hl : l = []
    · subst hl; simp [rulesW]
    · cases h1 : lineW l with
      | none => rw [rulesW_line hl h1]; simp
      | some p =>
        obtain ⟨a, q⟩ := p
        have hs := lineW_short h1
        have hq := hs.2.2 hl
        cases h2 : ruleW a with
        | none => rw [rulesW_rule hl h1 h2]; simp
        | some x =>
          rw [rulesW_good hl h1 h2]
          have ih := rulesW_in f q
          refine ⟨by simp only [List.length_cons]; omega, fun r hr => ?_⟩
          rcases List.mem_cons.1 hr with hr | hr
          · rw [hr]; exact (ruleW_in h2).mono hs.1
          · exact (ih.2 r hr).mono (by omega)
theorem readW_in {s : List UInt8} {m x : Nat} {rs : List Rl} {ok : Bool} (h : readW s = some (m, x, rs, ok)) : m < 10000 ∧ x ≤ 255 ∧ rs.length ≤ s.length ∧ ∀ r ∈ rs, RlIn s.length r := by
  unfold readW at h
  cases h1 : lineW s with
  | none => rw [h1] at h; cases h
  | some p =>
    obtain ⟨a, q⟩ := p
    rw [h1] at h
    dsimp only at h
    have hs := lineW_short h1
    cases h2 : firstW a with
    | none => rw [h2] at h; cases h
    | some p =>
      obtain ⟨m', x'⟩ := p
      rw [h2] at h
      have h' := Option.some.inj h
      simp only [Prod.mk.injEq] at h'
      obtain ⟨rfl, rfl, h3⟩ := h'
      have hr := rulesW_in (q.length + 1) q
      rw [h3] at hr
      have hf : m' < 10000 ∧ x' ≤ 255 := by
        unfold firstW at h2
        cases hf : fieldsW [115, 99, 104, 101, 109, 101] 2 a with
        | none => rw [hf] at h2; cases h2
        | some xs =>
          rw [hf] at h2
          match xs, h2 with
          | [u, v], h2 =>
            simp only [firstF] at h2
            split at h2
            · rename_i g1 g2
              have g3 := Option.some.inj h2
              simp only [Prod.mk.injEq] at g3
              exact ⟨g3.1 ▸ numW_lt g1, g3.2 ▸ maskW_le g2⟩
            · cases h2
      exact ⟨hf.1, hf.2, Nat.le_trans hr.1 hs.2.1, fun r hh => (hr.2 r hh).mono hs.2.1⟩
theorem rlCells_get (rs : List Rl) : ∀ (i : Nat) (h : i < rs.length), (rs.flatMap rlCells)[i * 5]? = some (.int .i64 rs[i].src) ∧ (rs.flatMap rlCells)[i * 5 + 1]? = some (.int .i64 rs[i].dst) ∧ (rs.flatMap rlCells)[i * 5 + 2]? = some (.string (B rs[i].inp)) ∧ (rs.flatMap rlCells)[i * 5 + 3]? = some (.string (B rs[i].out)) ∧ (rs.flatMap rlCells)[i * 5 + 4]? = some (.int .i64 rs[i].cost) := by
  induction rs with
  | nil => intro i h; cases h
  | cons p r ih =>
    intro i h
    have e : (p :: r).flatMap rlCells = .int .i64 p.src :: .int .i64 p.dst :: .string (B p.inp) :: .string (B p.out) :: .int .i64 p.cost :: r.flatMap rlCells := rfl
    cases i with
    | zero => rw [e]; exact ⟨rfl, rfl, rfl, rfl, rfl⟩
    | succ i =>
      have h' : i < r.length := by simpa using h
      rw [e, show (i + 1) * 5 = (((((i * 5) + 1) + 1) + 1) + 1) + 1 by omega]
      exact ih i h'
theorem rlCells_length (rs : List Rl) : (rs.flatMap rlCells).length = rs.length * 5 := by
  induction rs with
  | nil => rfl
  | cons p r ih => rw [List.flatMap_cons, List.length_append, ih, List.length_cons]; simp only [rlCells, List.length_cons, List.length_nil]; omega
theorem RlsOwn.at {W : World} {b : Nat} {v : Value} {rs : List Rl} (h : RlsOwn W b v rs) : ∃ a c, v = .slice a rs.length c ∧ rs.length ≤ c ∧ RlsAt W W.heap.size v rs := by
  rcases h.2 with ⟨rfl, h0⟩ | ⟨g, cap, cur, hv, hb, hg, hn, hle, hc, ht⟩
  · exact ⟨none, 0, by rw [h0], by omega, none, 0, by rw [h0], fun hp => by omega⟩
  · refine ⟨_, _, hv, ?_, _, _, hv, fun _ => ⟨g, 0, rfl, lt_of_heap hg, fun i hi => ?_⟩⟩
    · exact hn
    have key : ∀ j u, (rs.flatMap rlCells)[j]? = some u → W.cell? ⟨g, j, none⟩ = some u := by
      intro j u hu
      have hj : j < (rs.flatMap rlCells).length := by
        rcases Nat.lt_or_ge j (rs.flatMap rlCells).length with h | h
        · exact h
        · rw [List.getElem?_eq_none h] at hu; cases hu
      rw [rlCells_length] at hj
      rw [← ht, List.getElem?_take, if_pos hj] at hu
      simp only [World.cell?, hg]
      simpa using hu
    rw [Nat.zero_add]
    obtain ⟨k0, k1, k2, k3, k4⟩ := rlCells_get rs i hi
    exact ⟨key _ _ k0, key _ _ k1, key _ _ k2, key _ _ k3, key _ _ k4⟩
theorem ret_sch3 {fn : Func} {p q r : Tmp} (h : fn.results = #[.cell p 24, .tmp q, .tmp r]) {R : Ending → World → Prop} {a : Act} {W : World} {b : Nat} {c0 c1 c2 : Value}
    (hp : a.tmps.getD p undef = .pointer (some ⟨b, 0, none⟩)) (hd : a.defers = []) (hb : SchBlock W b c0 c1 c2)
    (hR : R (.returned (.tuple #[.agg #[c0, c1, c2], a.tmps.getD q undef, a.tmps.getD r undef])) W) : bodyPost Tryd.prog fn R .ret a W := by
  refine bodyPost_ret ?_ hd hR
  have hp' : a.tmps[p]?.getD undef = .pointer (some ⟨b, 0, none⟩) := by simpa using hp
  have hl := run_loadVar_row (P := Tryd.prog) W b 24 24 #[c0, c1, c2] (0, 0) _ hb Tryd.underlying24 rfl info24
  simp [results, h, hp', asAddr, hl]
/-- What Parse hands back. -/
def PsPost (s : List UInt8) (w : World) (e : Ending) (w' : World) : Prop := Below w.heap.size w w' ∧ match readW s with
  | none => e = .returned (.tuple #[schZ, .int .i64 (-1), .int .i64 3])
  | some (_, _, rs, false) => e = .returned (.tuple #[schZ, .int .i64 (rs.length : Nat), .int .i64 3])
  | some (m, x, rs, true) => ∃ i err, ChkIs m x rs i err ∧ ((err = 0 ∧ ∃ v, e = .returned (.tuple #[.agg #[.int .i64 m, .int .u8 x, v], .int .i64 i, .int .i64 0]) ∧ RlsOwn w' w.heap.size v rs) ∨
      (err = 20 ∧ e = .returned (.tuple #[schZ, .int .i64 i, .int .i64 20])))
theorem SchBlock.kept {W W' : World} {b b' : Nat} {c0 c1 c2 : Value} (h : SchBlock W b c0 c1 c2) (hg : W.grownBy W' (some b')) (hne : b' ≠ b) : SchBlock W' b c0 c1 c2 := h.keptBy hg (fun e => hne (Option.some.inj e))

set_option maxHeartbeats 1000000 in
set_option maxRecDepth 100000 in
theorem Parse_no (s : List UInt8) (m n : Int) (w : World) (hT : StrTab w) (h0 : 0 < w.heap.size) (hs : s.length < 4294967281) (hm : MaxVar w m) (hg : 2 < w.heap.size) (hr : (readW s = none ∧ n = -1) ∨ ∃ md mk rs, readW s = some (md, mk, rs, false) ∧ n = (rs.length : Nat)) :
    Calls Tryd.prog 22 #[.string (B s)] w fun e w' => e = .returned (.tuple #[schZ, .int .i64 n, .int .i64 3]) ∧ Below w.heap.size w w' := by
  have hb : Below w.heap.size w (w.alloc (.cells #[.int .i64 0, .int .u8 0, .slice none 0 0] 24)) := (Below.refl _ _).alloc (Nat.le_refl _) _
  have SB0 := Lib.hid (SchBlock.new w (.int .i64 0) (.int .u8 0) (.slice none 0 0))
  have HB := Lib.hid hb
  have CR : Hid (Calls Tryd.prog 63 #[.string (B s)] (w.alloc (.cells #[.int .i64 0, .int .u8 0, .slice none 0 0] 24)) fun e w' => e = .returned (.tuple #[.agg #[.int .i64 0, .int .u8 0, .slice none 0 0], .int .i64 n, .int .i64 3]) ∧ Below (w.alloc (.cells #[.int .i64 0, .int .u8 0, .slice none 0 0] 24)).heap.size (w.alloc (.cells #[.int .i64 0, .int .u8 0, .slice none 0 0] 24)) w') :=
    Lib.hid ((readScheme_any s m _ (hT.below hb h0) (Nat.lt_of_lt_of_le h0 hb.size) hs (hm.below hg hb) (Nat.lt_of_lt_of_le hg hb.size)).mono fun e w' h => ⟨by
      have h2 := h.2
      rcases hr with ⟨hr, rfl⟩ | ⟨md, mk, rs, hr, rfl⟩
      · rw [hr] at h2; exact h2
      · rw [hr] at h2; exact h2, h.1⟩)
  clear hT h0 hs hm hg hr hb
  go_enter Tryd.func22, Tryd.ntmps22
  go_wp2_with fail
  generalize w.alloc _ = w1 at *
  refine (CR.out).mono ?_
  rintro e x1 ⟨rfl, hb⟩
  have HB1 := Lib.hid (HB.out.trans (hb.mono HB.out.size))
  have SB1 := Lib.hid (SB0.out.below hb)
  clear hb CR HB SB0
  have NB := SchBlock.new x1 (.int .i64 0) (.int .u8 0) (.slice none 0 0)
  have SB2 := SB1.out.alloc (.cells #[.int .i64 0, .int .u8 0, .slice none 0 0] 24)
  have HB2 := Lib.hid (HB1.out.alloc HB1.out.size (.cells #[.int .i64 0, .int .u8 0, .slice none 0 0] 24))
  have hlt := SB1.out.lt
  go_wp2_with (first
    | (refine wpList_store_sch rfl _ _ rfl _ _ _ _ NB rfl _ _ _ _ _ rfl ?_; intro W2 hB2 hg2 hs2; have SB3 := SB2.kept hg2 (by omega); clear NB)
    | (refine wpList_store_sch rfl _ _ rfl _ _ _ _ SB3 rfl _ _ _ _ _ rfl ?_; intro W3 hB3 hg3 hs3; clear SB3))
  refine ret_sch3 rfl rfl rfl hB3 ?_
  exact ⟨rfl, (HB2.out.grown hg2 HB2.out.size (by simp; have := HB1.out.size; omega)).grown hg3 (by rw [hs2]; exact HB2.out.size) (by simp)⟩

set_option maxHeartbeats 1000000 in
set_option maxRecDepth 100000 in
theorem Parse_yes (s : List UInt8) (m : Int) (md mk : Nat) (rs : List Rl) (w : World) (hT : StrTab w) (h0 : 0 < w.heap.size) (hs : s.length < 4294967281) (hm : MaxVar w m) (hg : 2 < w.heap.size) (hr : readW s = some (md, mk, rs, true)) :
    Calls Tryd.prog 22 #[.string (B s)] w fun e w' => Below w.heap.size w w' ∧ ∃ i err, ChkIs md mk rs i err ∧ ((err = 0 ∧ ∃ v, e = .returned (.tuple #[.agg #[.int .i64 md, .int .u8 mk, v], .int .i64 i, .int .i64 0]) ∧ RlsOwn w' w.heap.size v rs) ∨
      (err = 20 ∧ e = .returned (.tuple #[schZ, .int .i64 i, .int .i64 20]))) := by
  obtain ⟨hr1, hr2, hr3, hr4⟩ := readW_in hr
  have HL := Lib.hid (show rs.length ≤ maxLen by unfold maxLen; omega)
  have HZ := Lib.hid (show ∀ x ∈ rs, x.inp.length ≤ maxLen ∧ x.out.length ≤ maxLen from fun x hx => by have := (hr4 x hx).i; have := (hr4 x hx).o; unfold maxLen; omega)
  have HD := Lib.hid hr1
  have HK := Lib.hid hr2
  have hb : Below w.heap.size w (w.alloc (.cells #[.int .i64 0, .int .u8 0, .slice none 0 0] 24)) := (Below.refl _ _).alloc (Nat.le_refl _) _
  have SB0 := Lib.hid (SchBlock.new w (.int .i64 0) (.int .u8 0) (.slice none 0 0))
  have HB := Lib.hid hb
  have HT := Lib.hid hT
  have H0 := Lib.hid h0
  have CR : Hid (Calls Tryd.prog 63 #[.string (B s)] (w.alloc (.cells #[.int .i64 0, .int .u8 0, .slice none 0 0] 24)) fun e w' => (∃ v, e = .returned (.tuple #[.agg #[.int .i64 md, .int .u8 mk, v], .int .i64 (rs.length : Nat), .int .i64 0]) ∧ RlsOwn w' (w.heap.size + 1) v rs) ∧ Below (w.alloc (.cells #[.int .i64 0, .int .u8 0, .slice none 0 0] 24)).heap.size (w.alloc (.cells #[.int .i64 0, .int .u8 0, .slice none 0 0] 24)) w') :=
    Lib.hid ((readScheme_any s m _ (hT.below hb h0) (Nat.lt_of_lt_of_le h0 hb.size) hs (hm.below hg hb) (Nat.lt_of_lt_of_le hg hb.size)).mono fun e w' h => ⟨by
      have h2 := h.2
      rw [hr] at h2
      rw [World.size_alloc] at h2
      exact h2, h.1⟩)
  clear hT h0 hs hm hg hr hb hr1 hr2 hr3 hr4
  go_enter Tryd.func22, Tryd.ntmps22
  go_wp2_with fail
  generalize w.alloc _ = w1 at *
  refine (CR.out).mono ?_
  rintro e x1 ⟨⟨v, rfl, hO⟩, hb⟩
  obtain ⟨va, vc, rfl, hcap, -⟩ := hO.at
  have HCAP := Lib.hid hcap
  have HO := Lib.hid hO
  have HB1 := Lib.hid (HB.out.trans (hb.mono HB.out.size))
  have SB1 := Lib.hid (SB0.out.below hb)
  clear hb CR HB SB0 hO hcap
  have NB := SchBlock.new x1 (.int .i64 0) (.int .u8 0) (.slice none 0 0)
  have SB2 := Lib.hid (SB1.out.alloc (.cells #[.int .i64 0, .int .u8 0, .slice none 0 0] 24))
  have HB2 := Lib.hid (HB1.out.alloc HB1.out.size (.cells #[.int .i64 0, .int .u8 0, .slice none 0 0] 24))
  have HO2 := Lib.hid (HO.out.later ((Below.refl _ _).alloc (Nat.le_refl _) (.cells #[.int .i64 0, .int .u8 0, .slice none 0 0] 24)))
  have hlt := SB1.out.lt
  go_upto_region 3 with (first
    | (refine wpList_store_sch rfl _ _ rfl _ _ _ _ NB rfl _ _ _ _ _ rfl ?_; intro W2 hB2 hg2 hs2; have SB3 := Lib.hid (SB2.out.kept hg2 (by omega)); have HB3 := Lib.hid (HB2.out.grown hg2 HB2.out.size (by simp; have := HB1.out.size; omega)); clear NB))
  have hO3 : RlsOwn W2 (w.heap.size + 1) (.slice va rs.length vc) rs := HO.out.keep fun g _ hgl => (hg2.block g (by rw [World.size_alloc]; omega) (by simp; omega)).trans (((Below.refl x1.heap.size x1).alloc (Nat.le_refl _) (.cells #[.int .i64 0, .int .u8 0, .slice none 0 0] 24)).block g hgl)
  have HO3 := Lib.hid hO3
  obtain ⟨-, -, -, -, hAt⟩ := hO3.at
  have CC := Lib.hid (Check_any md mk va vc rs W2 (HT.out.below HB3.out H0.out) (Nat.lt_of_lt_of_le H0.out HB3.out.size) hAt HCAP.out HL.out HZ.out (by omega) (by have := HD.out; omega) (by omega) (by have := HK.out; omega))
  have HB2' := Lib.hid hB2
  obtain ⟨s0, s1, s2⟩ := hB2.cells
  clear hO3 hAt hg2 hs2 HO2 HB2 SB2 hlt hB2 HO HB1 SB1
  go_wp2_with fail
  refine (CC.out).mono ?_
  rintro e x4 ⟨⟨i, err, rfl, hc⟩, hb⟩
  have HC := Lib.hid hc
  have HO4 := Lib.hid (HO3.out.later hb)
  have SB4 := SB3.out.below hb
  have HB4 := Lib.hid (HB3.out.trans (hb.mono HB3.out.size))
  have hN4 := HB2'.out.below hb
  have h04 : err = 0 ∨ err = 20 := by
    rcases hc with ⟨-, -, h⟩ | ⟨-, k, -, -, h, -⟩ | ⟨-, -, h, -⟩
    · exact Or.inr h
    · exact Or.inr h
    · exact Or.inl h
  clear hb CC HB2' HO3 SB3 HB3 s0 s1 s2 hc
  rcases h04 with rfl | rfl
  · obtain ⟨s0, s1, s2⟩ := hN4.cells
    have hlt := hN4.lt
    have HN5 := Lib.hid SB4.lt
    go_wp2_with (first | (refine wpList_store_sch rfl _ _ rfl _ _ _ _ SB4 rfl _ _ _ _ _ rfl ?_; intro W3 hB3 hg3 hs3; clear SB4))
    refine ret_sch3 rfl rfl rfl hB3 ?_
    refine ⟨HB4.out.grown hg3 HB4.out.size (by simp), i, 0, HC.out, Or.inl ⟨rfl, _, rfl, ?_⟩⟩
    exact (HO4.out.keep fun g hg1 hg2 => hg3.block g hg2 (by simp; omega)).base (by omega)
  · have HN5 := Lib.hid SB4.lt
    go_wp2_with (first | (refine wpList_store_sch rfl _ _ rfl _ _ _ _ SB4 rfl _ _ _ _ _ rfl ?_; intro W3 hB3 hg3 hs3; clear SB4))
    refine ret_sch3 rfl rfl rfl hB3 ?_
    exact ⟨HB4.out.grown hg3 HB4.out.size (by simp), i, 20, HC.out, Or.inr ⟨rfl, rfl⟩⟩
end Go.Proofs.YtnbiedijofdjhaaDoor
