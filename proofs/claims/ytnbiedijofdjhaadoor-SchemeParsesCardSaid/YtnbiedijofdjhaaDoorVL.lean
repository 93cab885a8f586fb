/-
  SchemeRules: the walk.
-/
import Derived.Test.YtnbiedijofdjhaaDoorVK
namespace Go.Proofs.YtnbiedijofdjhaaDoor
open Go.RowKit
open Pl

def ThBlock (W : World) (b : Nat) (a0 a1 a2 : Int) : Prop := W.heap[b]? = some (.cells #[.int .u8 a0, .int .u8 a1, .int .u8 a2] 47 (0, 0))
theorem ThBlock.below {W W' : World} {b : Nat} {a0 a1 a2 : Int} (h : ThBlock W b a0 a1 a2) (hb : Below W.heap.size W W') : ThBlock W' b a0 a1 a2 := by
  have hlt := lt_of_heap h
  unfold ThBlock at h ⊢; rw [hb.block b hlt]; exact h
theorem ThBlock.cells {W : World} {b : Nat} {a0 a1 a2 : Int} (h : ThBlock W b a0 a1 a2) : W.cell? ⟨b, 0, none⟩ = some (.int .u8 a0) ∧ W.cell? ⟨b, 1, none⟩ = some (.int .u8 a1) ∧ W.cell? ⟨b, 2, none⟩ = some (.int .u8 a2) := by
  unfold ThBlock at h
  exact ⟨by simp [World.cell?, h], by simp [World.cell?, h], by simp [World.cell?, h]⟩
theorem ThBlock.keptBy {W W' : World} {b : Nat} {a0 a1 a2 : Int} {row : Option Nat} (h : ThBlock W b a0 a1 a2) (hg : W.grownBy W' row) (hne : row ≠ some b) : ThBlock W' b a0 a1 a2 := by
  have hlt := lt_of_heap h
  unfold ThBlock at h ⊢; rw [hg.block b hlt (fun e => hne e.symm)]; exact h
theorem ThBlock.setCell {W : World} {b b' o : Nat} {a0 a1 a2 : Int} {u : Value} (h : ThBlock W b a0 a1 a2) (hne : b' ≠ b) : ThBlock (W.setCell ⟨b', o, none⟩ u) b a0 a1 a2 := by
  unfold ThBlock at h ⊢
  simp only [World.setCell, Array.getElem?_modify, if_neg hne]; exact h
theorem layR (w : World) (k d : Int) (v : Value) (a0 a1 a2 : Int) : RwBlock ((w.alloc (.cells #[.int .u8 k, .int .u8 d, v] 27)).alloc (.cells #[.int .u8 a0, .int .u8 a1, .int .u8 a2] 47)) w.heap.size k d v ∧ ThBlock ((w.alloc (.cells #[.int .u8 k, .int .u8 d, v] 27)).alloc (.cells #[.int .u8 a0, .int .u8 a1, .int .u8 a2] 47)) (w.heap.size + 1) a0 a1 a2 ∧ Below w.heap.size w ((w.alloc (.cells #[.int .u8 k, .int .u8 d, v] 27)).alloc (.cells #[.int .u8 a0, .int .u8 a1, .int .u8 a2] 47)) := by
  refine ⟨RwBlock.below (show RwBlock (w.alloc (.cells #[.int .u8 k, .int .u8 d, v] 27)) w.heap.size k d v from heap_alloc_new w _) ((Below.refl _ _).alloc (Nat.le_refl _) _), ?_, ((Below.refl _ _).alloc (Nat.le_refl _) _).alloc (by simp) _⟩
  have := heap_alloc_new (w.alloc (.cells #[.int .u8 k, .int .u8 d, v] 27)) (.cells #[.int .u8 a0, .int .u8 a1, .int .u8 a2] 47)
  rw [World.size_alloc] at this
  exact this
theorem RlsFit.news {W : World} {base b0 off c : Nat} {rs : List Rl} (h : RlsFit W base b0 off c rs) : ∀ j u, (rs.flatMap rlCells)[j]? = some u → W.cell? ((⟨b0, off, none⟩ : Addr).add j) = some u := fun j u hj => by
  rw [show (⟨b0, off, none⟩ : Addr).add j = ⟨b0, off + j, none⟩ by unfold Addr.add; split <;> simp_all]
  obtain ⟨-, -, h2 | h2⟩ := h
  · obtain ⟨rfl, h2⟩ := h2
    rw [Nat.zero_add]; exact h2.cells j u hj
  · exact h2.2 j u hj
theorem short_rules {m : Int} {rs : List Rl} (h : validB m 1 rs = true) : ∀ x ∈ rs, x.inp.length ≤ maxLen ∧ x.out.length ≤ maxLen := fun x hx => by
  obtain ⟨kx, hkx, rfl⟩ := List.getElem_of_mem hx
  have := ((valid_ok h).2.2.2.2 kx hkx).1
  have hl1 := this.i
  have hl2 := this.o
  unfold maxLen
  omega
theorem short_set {rs : List Rl} (h : ∀ x ∈ rs, x.inp.length ≤ maxLen ∧ x.out.length ≤ maxLen) (i : Nat) (r : Rl) (hr : r.inp.length ≤ maxLen ∧ r.out.length ≤ maxLen) : ∀ x ∈ rs.set i r, x.inp.length ≤ maxLen ∧ x.out.length ≤ maxLen := fun x hx => by
  rcases List.mem_or_eq_of_mem_set hx with h1 | rfl
  · exact h x h1
  · exact hr
theorem refuse_row {W : World} {m : Int} {base gg cap n : Nat} {rs : List Rl} (i0 : Int) (hT : StrTab W) (h0 : 0 < W.heap.size) (ho : RlsOwn W base (.slice (some ⟨gg, 0, none⟩) n cap) rs) (hn : n = rs.length) (hl : n ≤ 20) (hz : ∀ x ∈ rs, x.inp.length ≤ maxLen ∧ x.out.length ≤ maxLen) (hm : 1 ≤ m ∧ m ≤ 2) (hc : ChkIs m 1 rs i0 20) :
    Calls Tryd.prog 25 #[.agg #[.int .i64 m, .int .u8 1, .slice (some ⟨gg, 0, none⟩) n cap], .int .i64 i0] W fun e w' => e = .returned (.bool true) ∧ Below W.heap.size W w' := by
  subst hn
  obtain ⟨a, c, hv, hcap, hx⟩ := ho.at
  obtain ⟨rfl, rfl⟩ : some (⟨gg, 0, none⟩ : Addr) = a ∧ cap = c := by simpa using hv
  exact refuses_yes i0 m 1 _ cap rs W hT h0 hx hcap (by unfold maxLen; omega) hz (by omega) (by omega) (by decide) (by decide) hc
set_option maxHeartbeats 4000000 in
set_option maxRecDepth 100000 in
theorem Rules_any (k d a0 a1 a2 m : Int) (ma : Option Addr) (mn mc : Nat) (w : World) (hT : StrTab w) (hP : PowTab w) (hm : MaxVar w m) (h0 : 0 < w.heap.size) (hg : 2 < w.heap.size)
    (hk : 0 ≤ k ∧ k ≤ 255) (hd : 0 ≤ d ∧ d ≤ 255) (ha0 : 0 ≤ a0 ∧ a0 ≤ 255) (ha1 : 0 ≤ a1 ∧ a1 ≤ 255) (ha2 : 0 ≤ a2 ∧ a2 ≤ 255) (hx : RawsAt w w.heap.size (.slice ma mn mc) mn) (hl : mn ≤ maxLen) :
    Calls Tryd.prog 6 #[.agg #[.int .u8 k, .int .u8 d, .slice ma mn mc], .agg #[.int .u8 a0, .int .u8 a1, .int .u8 a2]] w fun e w' => e = .returned (.bool true) ∧ Below w.heap.size w w' := by
  obtain ⟨k0, k1, hb⟩ := layR w k d (.slice ma mn mc) a0 a1 a2
  have HT := Lib.hid hT
  have H0 := Lib.hid h0
  have HX := Lib.hid hx
  have HL := Lib.hid hl
  have HB1 := Lib.hid hb
  have RW1 := Lib.hid k0
  have TH1 := Lib.hid k1
  have CS := fun W (hb : Below w.heap.size w W) => Lib.hid (sanity_any m W (hT.below hb h0) (hP.below hb) (hm.below hg hb) (Nat.lt_of_lt_of_le h0 hb.size) (Nat.lt_of_lt_of_le hg hb.size))
  clear hT hP hm h0 hg hx hl hb k0 k1
  go_enter Tryd.func6, Tryd.ntmps6
  go_wp2_with fail
  generalize (w.alloc _).alloc _ = x1 at *
  refine ((CS x1 HB1.out).out).mono ?_
  rintro e x2 ⟨rfl, hb⟩
  have HB2 := Lib.hid (HB1.out.trans (hb.mono HB1.out.size))
  have TH2 := Lib.hid (TH1.out.below hb)
  obtain ⟨r0, r1, r2⟩ := (RW1.out.below hb).cells
  clear hb HB1 RW1 TH1 CS
  go_wp2_with fail
  refine (Made_any k d ma mn mc x2 hk hd (HX.out.on HB2.out) HL.out).mono ?_
  rintro e x3 ⟨⟨mm, b0, off, c, rs, rfl, hf, hv, hl2, hl9, hm1, hm2⟩, hb⟩
  have HB3 := Lib.hid (HB2.out.trans (hb.mono HB2.out.size))
  have TH3 := Lib.hid (TH2.out.below hb)
  have HF3 := Lib.hid hf
  have HV := Lib.hid hv
  have hsz3 := hb.size
  have htl := lt_of_heap TH2.out
  clear hb hf hv HB2 TH2 r0 r1 r2 HX HL
  have NB := SchBlock.new x3 (.int .i64 0) (.int .u8 0) (.slice none 0 0)
  have al := (Below.refl x3.heap.size x3).alloc (Nat.le_refl _) (.cells #[.int .i64 0, .int .u8 0, .slice none 0 0] 24)
  have HB4 := Lib.hid (HB3.out.trans (al.mono HB3.out.size))
  have TH4 := Lib.hid (TH3.out.below al)
  have HF4 := Lib.hid (HF3.out.later al)
  have hs4 : (x3.alloc (.cells #[.int .i64 0, .int .u8 0, .slice none 0 0] 24)).heap.size = x3.heap.size + 1 := World.size_alloc _ _
  have hw3 := HB3.out.size
  have hbx := HF3.out.2.1
  clear al HB3 TH3 HF3
  go_upto_region 3 with (first | (refine wpList_store_sch rfl _ _ rfl _ _ _ _ NB rfl _ _ _ _ _ rfl ?_; intro x4 S6 hg' hs'; clear NB))
  have TH5 := Lib.hid (TH4.out.keptBy hg' (by simp; omega))
  have HF5 := Lib.hid (HF4.out.keep1 (by omega) (hg'.block b0 HF4.out.2.1 (by simp; omega)))
  have HB5 := Lib.hid (HB4.out.grown hg' HB4.out.size (by simp; omega))
  rw [hs4] at hs'
  have S6 := Lib.hid S6
  clear hg' HB4 TH4 HF4 hs4
  generalize hg6 : x3.heap.size = g6 at *
  obtain ⟨t0, t1, t2⟩ := S6.out.cells
  have S8 := Lib.hid (SchBlock.new x4 (.int .i64 mm) (.int .u8 1) (.slice (some ⟨b0, off, none⟩) rs.length c))
  have al := (Below.refl x4.heap.size x4).alloc (Nat.le_refl _) (.cells #[.int .i64 mm, .int .u8 1, .slice (some ⟨b0, off, none⟩) rs.length c] 24)
  have HB6 := Lib.hid (HB5.out.trans (al.mono HB5.out.size))
  have TH6 := Lib.hid (TH5.out.below al)
  have HF6 := Lib.hid (HF5.out.later al)
  have S66 := Lib.hid (S6.out.below al)
  clear al
  go_upto_region 5 with fail
  clear t0 t1 t2
  rw [hs'] at S8
  have hs6 : (x4.alloc (.cells #[.int .i64 mm, .int .u8 1, .slice (some ⟨b0, off, none⟩) rs.length c] 24)).heap.size = g6 + 2 := by rw [World.size_alloc, hs']
  clear S6 HB5 TH5 HF5 hs'
  generalize x4.alloc _ = x5 at *
  obtain ⟨t0, t1, t2⟩ := S66.out.cells
  obtain ⟨h0, h1, h2⟩ := TH6.out.cells
  have fz := S8.out.free
  have hcap := HF6.out.at.1
  obtain ⟨q, hq, hq2⟩ : ∃ q : Nat, a0.tmod ((rs.length : Int) + 1) = (q : Int) ∧ q ≤ rs.length := ⟨(a0.tmod ((rs.length : Int) + 1)).toNat, by
    have := Int.tmod_nonneg ((rs.length : Int) + 1) ha0.1
    omega, by
    have := Int.tmod_nonneg ((rs.length : Int) + 1) ha0.1
    have := Int.tmod_lt_of_pos a0 (show (0 : Int) < (rs.length : Int) + 1 by omega)
    omega⟩
  have hw0 : IntKind.i64.wrap a0 = a0 := IntWalk.i64_in _ (by omega)
  have hwl : IntKind.i64.wrap ((rs.length : Int) + 1) = (rs.length : Int) + 1 := IntWalk.i64_in _ (by omega)
  have hnz : ¬ ((rs.length : Int) + 1 = 0) := by omega
  have hq0 : (0 : Int) ≤ (q : Int) := by omega
  have hq1 : (q : Int) ≤ (c : Int) := by omega
  go_still_tail 9, (by kernel_rfl)
  change wpList _ _ _ _ _ x5.drew
  have fe : x5.drew.frozen? ⟨g6 + 1, 2, none⟩ = false := fz
  obtain ⟨u0, u1, u2⟩ := (S8.out.below (Below.refl _ _).drew).cells
  have S9 := Lib.hid ((S8.out.below (Below.refl _ _).drew).put2 (v := .slice (some ⟨b0, off, none⟩) q c))
  have SA := Lib.hid ((S66.out.below (Below.refl _ _).drew).setCellAt (b' := g6 + 1) (o := 2) (u := .slice (some ⟨b0, off, none⟩) q c) (by omega))
  have TH9 := Lib.hid ((TH6.out.below (Below.refl _ _).drew).setCell (b' := g6 + 1) (o := 2) (u := .slice (some ⟨b0, off, none⟩) q c) (by omega))
  have HF9 := Lib.hid ((HF6.out.later (Below.refl _ _).drew).keep1 (W' := x5.drew.setCell ⟨g6 + 1, 2, none⟩ (.slice (some ⟨b0, off, none⟩) q c)) (by simp) (by simp only [World.setCell, Array.getElem?_modify, if_neg (show ¬ g6 + 1 = b0 by omega)]))
  have HB9 := Lib.hid (HB6.out.drew.setCell (p := ⟨g6 + 1, 2, none⟩) (by simp; omega) (.slice (some ⟨b0, off, none⟩) q c))
  have hs9 : (x5.drew.setCell ⟨g6 + 1, 2, none⟩ (.slice (some ⟨b0, off, none⟩) q c)).heap.size = g6 + 2 := by simp; exact hs6
  clear t0 t1 t2 h0 h1 h2 fz S8 S66 TH6 HF6 HB6 hs6 hq hw0 hwl hnz
  generalize x5.drew = x6 at *
  go_upto_region 6 with fail
  clear u0 u1 u2 fe hq0 hq1
  generalize x6.setCell _ _ = x7 at *
  have CV := fun W (hb : Below x7.heap.size x7 W) (l : List Rl) (hv : validB mm 1 l = true) (a : Option Addr) (hx : RlsAt x7 x7.heap.size (.slice a l.length c) l) (hc : l.length ≤ c) (hl : l.length ≤ 10) => Lib.hid (Valid_any mm 1 a c l W (HT.out.below (HB9.out.trans (Below.mono hb HB9.out.size)) H0.out) (Nat.lt_of_lt_of_le H0.out (HB9.out.trans (Below.mono hb HB9.out.size)).size) (hx.on hb) hc (by unfold maxLen; omega) (fun x hx => by
    obtain ⟨kx, hkx, rfl⟩ := List.getElem_of_mem hx
    have := ((valid_ok hv).2.2.2.2 kx hkx).1
    have hl1 := this.i
    have hl2 := this.o
    unfold maxLen
    omega) (by omega) (by omega) (by omega) (by omega))
  have hlt : (rs.take q).length = q := by rw [List.length_take]; omega
  have CV1 := fun W hb => Lib.hid (CV W hb rs HV.out (some ⟨b0, off, none⟩) HF9.out.at.2 hcap (by omega))
  have CV2 := fun W hb => Lib.hid (CV W hb (rs.take q) (valid_take HV.out q) (some ⟨b0, off, none⟩) (by rw [hlt]; exact HF9.out.at.2.take q hq2) (by omega) (by omega))
  rw [HV.out] at CV1
  rw [valid_take HV.out q, hlt] at CV2
  clear CV hlt
  obtain ⟨t0, t1, t2⟩ := SA.out.cells
  go_wp2_with fail
  refine ((CV1 x7 (Below.refl _ _)).out.out).mono ?_
  rintro e x8 ⟨rfl, hb⟩
  obtain ⟨u0, u1, u2⟩ := (S9.out.below hb).cells
  have hb8 := Lib.hid hb
  clear hb t0 t1 t2
  go_wp2_with fail
  refine ((CV2 x8 hb8.out).out.out).mono ?_
  rintro e x9 ⟨rfl, hb⟩
  have hb9 := hb8.out.trans (hb.mono hb8.out.size)
  have SB := Lib.hid (SA.out.below hb9)
  have TH := Lib.hid (TH9.out.below hb9)
  have HF := Lib.hid (HF9.out.later hb9)
  have HB := Lib.hid (HB9.out.trans (hb9.mono HB9.out.size))
  have hs9' := hb9.size
  clear hb hb9 hb8 S9 SA TH9 HF9 HB9 CV1 CV2 u0 u1 u2
  have hne : ((rs.length : Int) == 0) = false := by rw [beq_eq_false_iff_ne]; omega
  obtain ⟨t0, t1, t2⟩ := SB.out.cells
  obtain ⟨h0, h1, h2⟩ := TH.out.cells
  obtain ⟨i, hi, hi2⟩ : ∃ i : Nat, a1.tmod (rs.length : Int) = (i : Int) ∧ i < rs.length := ⟨(a1.tmod (rs.length : Int)).toNat, by
    have := Int.tmod_nonneg (rs.length : Int) ha1.1
    omega, by
    have := Int.tmod_nonneg (rs.length : Int) ha1.1
    have := Int.tmod_lt_of_pos a1 (show (0 : Int) < (rs.length : Int) by omega)
    omega⟩
  have hw1 : IntKind.i64.wrap a1 = a1 := IntWalk.i64_in _ (by omega)
  have hnz : ¬ ((rs.length : Int) = 0) := by omega
  go_upto_region 12 with fail
  have al := (Below.refl x9.heap.size x9).alloc (Nat.le_refl _) (.cells #[.int .i64 mm, .int .u8 1, .slice (some ⟨b0, off, none⟩) rs.length c] 24)
  have S10 := Lib.hid (SchBlock.new x9 (.int .i64 mm) (.int .u8 1) (.slice (some ⟨b0, off, none⟩) rs.length c))
  have SB10 := Lib.hid (SB.out.below al)
  have TH10 := Lib.hid (TH.out.below al)
  have HF10 := Lib.hid (HF.out.later al)
  have HB10 := Lib.hid (HB.out.trans (al.mono HB.out.size))
  have hs10 : (x9.alloc (.cells #[.int .i64 mm, .int .u8 1, .slice (some ⟨b0, off, none⟩) rs.length c] 24)).heap.size = x9.heap.size + 1 := World.size_alloc _ _
  clear t0 t1 t2 h0 h1 h2 al SB TH HF HB hne hi hw1 hnz
  have hg10 : g6 + 2 ≤ x9.heap.size := by omega
  clear hs9'
  generalize x9.alloc _ = x10 at *
  generalize x9.heap.size = g10 at *
  have al := (Below.refl x10.heap.size x10).alloc (Nat.le_refl _) (.cells #[] 29)
  have S11 := Lib.hid (S10.out.below al)
  have SB11 := Lib.hid (SB10.out.below al)
  have TH11 := Lib.hid (TH10.out.below al)
  have HF11 := Lib.hid (HF10.out.later al)
  have HB11 := Lib.hid (HB10.out.trans (al.mono HB10.out.size))
  have OW := World.ownsRow_made (base := x10.heap.size) (e := 29) (size := 5) x10 #[] 0 (Nat.le_refl _) (by unfold maxLen; omega) (by simp)
  have NW : ∀ j u, (rs.flatMap rlCells)[j]? = some u → (x10.alloc (.cells #[] 29)).cell? ((⟨b0, off, none⟩ : Addr).add j) = some u := HF11.out.news
  have ON : ∀ u ∈ rs.flatMap rlCells, u.oneCell' = true := fun u hu => by
    obtain ⟨x, -, hx⟩ := List.mem_flatMap.1 hu
    simp only [rlCells, List.mem_cons, List.not_mem_nil, or_false] at hx
    rcases hx with rfl | rfl | rfl | rfl | rfl <;> rfl
  obtain ⟨i0, hi0, hz0, hz1, hz2⟩ := info_parts infoRl
  rw [hs10] at OW
  obtain ⟨t0, t1, t2⟩ := SB11.out.cells
  have hln : 0 + rs.length ≤ maxLen := by unfold maxLen; omega
  have hlb : (0 + rs.length) * 56 ≤ 140737488355328 := by omega
  have hl0 : 0 < rs.length := by omega
  have hcx : g10 + 1 ≤ (x10.alloc (.cells #[] 29)).heap.size := by simp; omega
  have hs11 : (x10.alloc (.cells #[] 29)).heap.size = g10 + 2 := by simp; omega
  have hl0' := rlCells_length rs
  go_upto_region 13 with (first | (refine wpList_append_lies _ rfl _ _ _ rfl (g10 + 1) 29 i0 _ 5 56 Tryd.underlying22 hi0 hz0 hz1 hz2 rfl (by omega) (.slice (some ⟨g10 + 1, 0, none⟩) 0 0) 0 [] (by rfl) OW ⟨b0, off, none⟩ rs.length c (rs.flatMap rlCells) (by rfl) hl0' NW ON hl0 hln hlb hcx (g10 + 2) hs11 ?_; intro gg cap w11 hown hgrow hat hlt; obtain ⟨u0, u1, u2⟩ := (S11.out.keptBy hgrow (by simp [Value.ownBlock])).cells; have uf := (S11.out.keptBy hgrow (by simp [Value.ownBlock])).free; simp only [Nat.zero_add, List.nil_append] at hown ⊢))
  have hsz11 := hgrow.size
  have hgg : g10 + 1 ≤ gg ∧ gg < w11.heap.size := hown.lt gg rfl
  have HO12 := Lib.hid (RlsOwn.keep1 (W' := w11.setCell ⟨g10, 2, none⟩ (.slice (some ⟨gg, 0, none⟩) rs.length cap)) (show RlsOwn w11 (g10 + 1) (.slice (some ⟨gg, 0, none⟩) rs.length cap) rs from hown) (by simp only [World.setCell, Array.getElem?_modify, if_neg (show ¬ g10 = gg by omega)]))
  have hbg := HF11.out.2.1
  have S12 := Lib.hid ((S11.out.keptBy hgrow (by simp [Value.ownBlock])).put2 (v := .slice (some ⟨gg, 0, none⟩) rs.length cap))
  have SB12 := Lib.hid ((SB11.out.keptBy hgrow (by simp [Value.ownBlock]; omega)).setCellAt (b' := g10) (o := 2) (u := .slice (some ⟨gg, 0, none⟩) rs.length cap) (by omega))
  have TH12 := Lib.hid ((TH11.out.keptBy hgrow (by simp [Value.ownBlock]; omega)).setCell (b' := g10) (o := 2) (u := .slice (some ⟨gg, 0, none⟩) rs.length cap) (by omega))
  have HF12 := Lib.hid ((HF11.out.keep1 hsz11 (hgrow.block b0 HF11.out.2.1 (by simp [Value.ownBlock]; omega))).keep1 (W' := w11.setCell ⟨g10, 2, none⟩ (.slice (some ⟨gg, 0, none⟩) rs.length cap)) (by simp) (by simp only [World.setCell, Array.getElem?_modify, if_neg (show ¬ g10 = b0 by omega)]))
  have HB12 := Lib.hid ((HB11.out.grown hgrow HB11.out.size (fun kx hk => by simp [Value.ownBlock] at hk; omega)).setCell (p := ⟨g10, 2, none⟩) (by simp; omega) (.slice (some ⟨gg, 0, none⟩) rs.length cap))
  have hs12 : gg < (w11.setCell ⟨g10, 2, none⟩ (.slice (some ⟨gg, 0, none⟩) rs.length cap)).heap.size := by simp; omega
  clear t0 t1 t2 u0 u1 u2 uf hown hgrow hat hlt hsz11 OW NW ON al S11 SB11 TH11 HF11 HB11 S10 SB10 TH10 HF10 HB10 hcx hs11 hln hlb hl0 hl0' hi0 hz0 hz1 hz2 hs10
  generalize w11.setCell _ _ = x12 at *
  obtain ⟨hgg1, -⟩ := hgg
  obtain ⟨t0, t1, t2⟩ := S12.out.cells
  obtain ⟨m0, -, -⟩ := SB12.out.cells
  obtain ⟨h0, h1, h2⟩ := TH12.out.cells
  have SH := Lib.hid (short_rules HV.out)
  have MM := Lib.hid (And.intro hm1 hm2)
  have wi0 : (0 : Int) ≤ (i : Int) := by omega
  have wi1 : (i : Int) < (rs.length : Int) := by omega
  have CC := HO12.out.at
  obtain ⟨a9, c9, hv9, hcap9, hx9⟩ := CC
  obtain ⟨rfl, rfl⟩ : some (⟨gg, 0, none⟩ : Addr) = a9 ∧ cap = c9 := by simpa using hv9
  obtain ⟨_, _, hv8, hc9⟩ := hx9
  obtain ⟨rfl, rfl⟩ := (by simpa using hv8 : _ ∧ _)
  obtain ⟨b9, o9, hb9, -, hc9⟩ := hc9 (by omega)
  obtain ⟨rfl, rfl⟩ : gg = b9 ∧ 0 = o9 := by simpa using hb9
  obtain ⟨c0, c1, c2, c3, c4⟩ := hc9 i hi2
  simp only [Nat.zero_add] at c0 c1 c2 c3 c4
  have fr := fun o => HO12.out.free o
  clear hv9 hv8 hb9 hc9
  rcases (show a2.tmod 7 = 0 ∨ a2.tmod 7 = 1 ∨ a2.tmod 7 = 2 ∨ a2.tmod 7 = 3 ∨ a2.tmod 7 = 4 ∨ a2.tmod 7 = 5 ∨ a2.tmod 7 = 6 by
    have := Int.tmod_nonneg 7 ha2.1
    have := Int.tmod_lt_of_pos a2 (show (0 : Int) < 7 by decide)
    omega) with ha | ha | ha | ha | ha | ha | ha
  · have S13 := Lib.hid (S12.out.setCellAt (b' := gg) (o := i * 5 + 0) (u := .int .i64 mm) (by omega))
    have HB13 := Lib.hid (HB12.out.setCell (p := ⟨gg, i * 5 + 0, none⟩) (by simp; omega) (.int .i64 mm))
    have HO13 := Lib.hid (HO12.out.setF i 0 hi2 (by decide) (.int .i64 mm) { rs[i] with src := mm } rfl)
    have HZ := Lib.hid (short_set SH.out i { rs[i] with src := mm } (by have := SH.out rs[i] (List.getElem_mem hi2); unfold maxLen at *; dsimp only; simp at this ⊢; try omega))
    have HC := Lib.hid (spoilt_chk (r := { rs[i] with src := mm }) HV.out hi2 (fun l kx => bad_src mm rs[i] l kx))
    have hs13 : gg < (x12.setCell ⟨gg, i * 5 + 0, none⟩ (.int .i64 mm)).heap.size := by simp; omega
    go_upto_region 29 with fail
    simp only [Nat.add_zero] at S13 HB13 HO13 hs13
    clear t0 t1 t2 m0 h0 h1 h2 c0 c1 c2 c3 c4 fr
    generalize x12.setCell _ _ = x13 at *
    have CRF := Lib.hid (refuse_row (m := mm) (i : Nat) (HT.out.below HB13.out H0.out) (Nat.lt_of_lt_of_le H0.out HB13.out.size) HO13.out (by simp) (by omega) HZ.out MM.out HC.out)
    obtain ⟨t0, t1, t2⟩ := S13.out.cells
    go_wp2_with fail
    refine (CRF.out).mono ?_
    rintro e x14 ⟨rfl, hb⟩
    have HB14 := Lib.hid (HB13.out.trans (hb.mono HB13.out.size))
    clear hb
    go_wp2_with fail
    go_ret
    exact ⟨rfl, HB14.out⟩
  · have S13 := Lib.hid (S12.out.setCellAt (b' := gg) (o := i * 5 + 1) (u := .int .i64 (-1)) (by omega))
    have HB13 := Lib.hid (HB12.out.setCell (p := ⟨gg, i * 5 + 1, none⟩) (by simp; omega) (.int .i64 (-1)))
    have HO13 := Lib.hid (HO12.out.setF i 1 hi2 (by decide) (.int .i64 (-1)) { rs[i] with dst := -1 } rfl)
    have HZ := Lib.hid (short_set SH.out i { rs[i] with dst := -1 } (by have := SH.out rs[i] (List.getElem_mem hi2); unfold maxLen at *; dsimp only; simp at this ⊢; try omega))
    have HC := Lib.hid (spoilt_chk (r := { rs[i] with dst := -1 }) HV.out hi2 (fun l kx => bad_dst mm rs[i] l kx))
    have hs13 : gg < (x12.setCell ⟨gg, i * 5 + 1, none⟩ (.int .i64 (-1))).heap.size := by simp; omega
    go_upto_region 29 with fail
    clear t0 t1 t2 m0 h0 h1 h2 c0 c1 c2 c3 c4 fr
    generalize x12.setCell _ _ = x13 at *
    have CRF := Lib.hid (refuse_row (m := mm) (i : Nat) (HT.out.below HB13.out H0.out) (Nat.lt_of_lt_of_le H0.out HB13.out.size) HO13.out (by simp) (by omega) HZ.out MM.out HC.out)
    obtain ⟨t0, t1, t2⟩ := S13.out.cells
    go_wp2_with fail
    refine (CRF.out).mono ?_
    rintro e x14 ⟨rfl, hb⟩
    have HB14 := Lib.hid (HB13.out.trans (hb.mono HB13.out.size))
    clear hb
    go_wp2_with fail
    go_ret
    exact ⟨rfl, HB14.out⟩
  · have S13 := Lib.hid (S12.out.setCellAt (b' := gg) (o := i * 5 + 2) (u := .string ⟨#[97, 88]⟩) (by omega))
    have HB13 := Lib.hid (HB12.out.setCell (p := ⟨gg, i * 5 + 2, none⟩) (by simp; omega) (.string ⟨#[97, 88]⟩))
    have HO13 := Lib.hid (HO12.out.setF i 2 hi2 (by decide) (.string ⟨#[97, 88]⟩) { rs[i] with inp := [97, 88] } rfl)
    have HZ := Lib.hid (short_set SH.out i { rs[i] with inp := [97, 88] } (by have := SH.out rs[i] (List.getElem_mem hi2); unfold maxLen at *; dsimp only; simp at this ⊢; try omega))
    have HC := Lib.hid (spoilt_chk (r := { rs[i] with inp := [97, 88] }) HV.out hi2 (fun l kx => bad_inp mm rs[i] l kx))
    have hs13 : gg < (x12.setCell ⟨gg, i * 5 + 2, none⟩ (.string ⟨#[97, 88]⟩)).heap.size := by simp; omega
    go_upto_region 29 with fail
    clear t0 t1 t2 m0 h0 h1 h2 c0 c1 c2 c3 c4 fr
    generalize x12.setCell _ _ = x13 at *
    have CRF := Lib.hid (refuse_row (m := mm) (i : Nat) (HT.out.below HB13.out H0.out) (Nat.lt_of_lt_of_le H0.out HB13.out.size) HO13.out (by simp) (by omega) HZ.out MM.out HC.out)
    obtain ⟨t0, t1, t2⟩ := S13.out.cells
    go_wp2_with fail
    refine (CRF.out).mono ?_
    rintro e x14 ⟨rfl, hb⟩
    have HB14 := Lib.hid (HB13.out.trans (hb.mono HB13.out.size))
    clear hb
    go_wp2_with fail
    go_ret
    exact ⟨rfl, HB14.out⟩
  · have S13 := Lib.hid (S12.out.setCellAt (b' := gg) (o := i * 5 + 3) (u := .string ⟨#[97, 98, 99, 100, 101]⟩) (by omega))
    have HB13 := Lib.hid (HB12.out.setCell (p := ⟨gg, i * 5 + 3, none⟩) (by simp; omega) (.string ⟨#[97, 98, 99, 100, 101]⟩))
    have HO13 := Lib.hid (HO12.out.setF i 3 hi2 (by decide) (.string ⟨#[97, 98, 99, 100, 101]⟩) { rs[i] with out := [97, 98, 99, 100, 101] } rfl)
    have HZ := Lib.hid (short_set SH.out i { rs[i] with out := [97, 98, 99, 100, 101] } (by have := SH.out rs[i] (List.getElem_mem hi2); unfold maxLen at *; dsimp only; simp at this ⊢; try omega))
    have HC := Lib.hid (spoilt_chk (r := { rs[i] with out := [97, 98, 99, 100, 101] }) HV.out hi2 (fun l kx => bad_out5 mm rs[i] l kx))
    have hs13 : gg < (x12.setCell ⟨gg, i * 5 + 3, none⟩ (.string ⟨#[97, 98, 99, 100, 101]⟩)).heap.size := by simp; omega
    go_upto_region 29 with fail
    clear t0 t1 t2 m0 h0 h1 h2 c0 c1 c2 c3 c4 fr
    generalize x12.setCell _ _ = x13 at *
    have CRF := Lib.hid (refuse_row (m := mm) (i : Nat) (HT.out.below HB13.out H0.out) (Nat.lt_of_lt_of_le H0.out HB13.out.size) HO13.out (by simp) (by omega) HZ.out MM.out HC.out)
    obtain ⟨t0, t1, t2⟩ := S13.out.cells
    go_wp2_with fail
    refine (CRF.out).mono ?_
    rintro e x14 ⟨rfl, hb⟩
    have HB14 := Lib.hid (HB13.out.trans (hb.mono HB13.out.size))
    clear hb
    go_wp2_with fail
    go_ret
    exact ⟨rfl, HB14.out⟩
  · have S13 := Lib.hid (S12.out.setCellAt (b' := gg) (o := i * 5 + 3) (u := .string ⟨#[45]⟩) (by omega))
    have HB13 := Lib.hid (HB12.out.setCell (p := ⟨gg, i * 5 + 3, none⟩) (by simp; omega) (.string ⟨#[45]⟩))
    have HO13 := Lib.hid (HO12.out.setF i 3 hi2 (by decide) (.string ⟨#[45]⟩) { rs[i] with out := [45] } rfl)
    have HZ := Lib.hid (short_set SH.out i { rs[i] with out := [45] } (by have := SH.out rs[i] (List.getElem_mem hi2); unfold maxLen at *; dsimp only; simp at this ⊢; try omega))
    have HC := Lib.hid (spoilt_chk (r := { rs[i] with out := [45] }) HV.out hi2 (fun l kx => bad_out1 mm rs[i] l kx))
    have hs13 : gg < (x12.setCell ⟨gg, i * 5 + 3, none⟩ (.string ⟨#[45]⟩)).heap.size := by simp; omega
    go_upto_region 29 with fail
    clear t0 t1 t2 m0 h0 h1 h2 c0 c1 c2 c3 c4 fr
    generalize x12.setCell _ _ = x13 at *
    have CRF := Lib.hid (refuse_row (m := mm) (i : Nat) (HT.out.below HB13.out H0.out) (Nat.lt_of_lt_of_le H0.out HB13.out.size) HO13.out (by simp) (by omega) HZ.out MM.out HC.out)
    obtain ⟨t0, t1, t2⟩ := S13.out.cells
    go_wp2_with fail
    refine (CRF.out).mono ?_
    rintro e x14 ⟨rfl, hb⟩
    have HB14 := Lib.hid (HB13.out.trans (hb.mono HB13.out.size))
    clear hb
    go_wp2_with fail
    go_ret
    exact ⟨rfl, HB14.out⟩
  · have S13 := Lib.hid (S12.out.setCellAt (b' := gg) (o := i * 5 + 4) (u := .int .i64 1001) (by omega))
    have HB13 := Lib.hid (HB12.out.setCell (p := ⟨gg, i * 5 + 4, none⟩) (by simp; omega) (.int .i64 1001))
    have HO13 := Lib.hid (HO12.out.setF i 4 hi2 (by decide) (.int .i64 1001) { rs[i] with cost := 1001 } rfl)
    have HZ := Lib.hid (short_set SH.out i { rs[i] with cost := 1001 } (by have := SH.out rs[i] (List.getElem_mem hi2); unfold maxLen at *; dsimp only; simp at this ⊢; try omega))
    have HC := Lib.hid (spoilt_chk (r := { rs[i] with cost := 1001 }) HV.out hi2 (fun l kx => bad_cost mm rs[i] l kx))
    have hs13 : gg < (x12.setCell ⟨gg, i * 5 + 4, none⟩ (.int .i64 1001)).heap.size := by simp; omega
    go_upto_region 29 with fail
    clear t0 t1 t2 m0 h0 h1 h2 c0 c1 c2 c3 c4 fr
    generalize x12.setCell _ _ = x13 at *
    have CRF := Lib.hid (refuse_row (m := mm) (i : Nat) (HT.out.below HB13.out H0.out) (Nat.lt_of_lt_of_le H0.out HB13.out.size) HO13.out (by simp) (by omega) HZ.out MM.out HC.out)
    obtain ⟨t0, t1, t2⟩ := S13.out.cells
    go_wp2_with fail
    refine (CRF.out).mono ?_
    rintro e x14 ⟨rfl, hb⟩
    have HB14 := Lib.hid (HB13.out.trans (hb.mono HB13.out.size))
    clear hb
    go_wp2_with fail
    go_ret
    exact ⟨rfl, HB14.out⟩
  · obtain ⟨a7, c7, hv7, hc7⟩ := HF12.out.at.2
    obtain ⟨rfl, rfl⟩ : some (⟨b0, off, none⟩ : Addr) = a7 ∧ c = c7 := by simpa using hv7
    obtain ⟨b8, o8, hb8, hlt8, hc7⟩ := hc7 (by omega)
    obtain ⟨rfl, rfl⟩ : b0 = b8 ∧ off = o8 := by simpa using hb8
    obtain ⟨e0, e1, e2, e3, e4⟩ := hc7 i hi2
    have FW := Lib.hid (show ∀ W, Below x12.heap.size x12 W → W.cell? ⟨g10, 2, none⟩ = some (.slice (some ⟨gg, 0, none⟩) rs.length cap) ∧ W.cell? ⟨g6, 2, none⟩ = some (.slice (some ⟨b0, off, none⟩) rs.length c) ∧ W.cell? ⟨b0, off + i * 5, none⟩ = some (.int .i64 rs[i].src) ∧ W.cell? ⟨b0, off + i * 5 + 1, none⟩ = some (.int .i64 rs[i].dst) ∧ W.cell? ⟨b0, off + i * 5 + 2, none⟩ = some (.string (B rs[i].inp)) ∧ W.cell? ⟨b0, off + i * 5 + 3, none⟩ = some (.string (B rs[i].out)) ∧ W.cell? ⟨b0, off + i * 5 + 4, none⟩ = some (.int .i64 rs[i].cost) from fun W h =>
      ⟨(S12.out.below h).cells.2.2, (SB12.out.below h).cells.2.2, (h.cell (p := ⟨b0, _, none⟩) hlt8).trans e0, (h.cell (p := ⟨b0, _, none⟩) hlt8).trans e1, (h.cell (p := ⟨b0, _, none⟩) hlt8).trans e2, (h.cell (p := ⟨b0, _, none⟩) hlt8).trans e3, (h.cell (p := ⟨b0, _, none⟩) hlt8).trans e4⟩)
    have HC := Lib.hid (double_chk (i := i) HV.out hi2 (by omega))
    have HZ := Lib.hid (show ∀ x ∈ rs ++ [rs[i]], x.inp.length ≤ maxLen ∧ x.out.length ≤ maxLen from fun x hx => by
      rcases List.mem_append.1 hx with h | h
      · exact SH.out x h
      · obtain rfl := List.mem_singleton.1 h
        exact SH.out _ (List.getElem_mem hi2))
    clear hv7 hb8 hc7 e0 e1 e2 e3 e4 c0 c1 c2 c3 c4 fr
    go_upto_region 15 with fail
    clear t0 t1 t2 m0 h0 h1 h2
    generalize rs[i] = y at *
    refine wp_normal ?_
    refine wp_region_hoist (C := fun W => Below x12.heap.size x12 W) 7 8 (by kernel_rfl) (by kernel_rfl) (Below.refl _ _).drew (fun _ _ _ _ _ h => by cases h.1) ?_
    simp only [List.take_succ_cons, List.take_zero, List.drop_succ_cons, List.drop_zero]
    repeat (refine wpHoist_step ?_; intro K hK; refine ⟨?_, fun W h => ?_, ?_⟩; rotate_left; (· obtain ⟨f0, f1, f2, f3, f4, f5, f6⟩ := FW.out W h; go_simp; rfl); go_simp; go_big_quiet_on)
    refine wpHoist_nil ?_
    clear FW
    have al := (Below.refl x12.drew.heap.size x12.drew).alloc (Nat.le_refl _) (.cells #[.int .i64 y.src, .int .i64 y.dst, .string (B y.inp), .string (B y.out), .int .i64 y.cost] 29)
    refine wpListC_value (w' := x12.drew.alloc (.cells #[.int .i64 y.src, .int .i64 y.dst, .string (B y.inp), .string (B y.out), .int .i64 y.cost] 29)) (.slice (some ⟨x12.heap.size, 0, none⟩) 1 1) rfl (by go_simp) ((Below.refl _ _).drew.trans al) ?_
    intro K hK
    go_simp
    go_big_quiet_on
    refine wpListC_rest _ _ _ _ (fun j hj => decide_eq_true hj) (by simp) ?_
    have dal := (Below.refl x12.heap.size x12).drew.trans al
    have S13 := Lib.hid (S12.out.below dal)
    have HB13 := Lib.hid (HB12.out.trans (dal.mono HB12.out.size))
    have HO13 := Lib.hid (HO12.out.later dal)
    have HF13 : RlsFit (x12.drew.alloc (.cells #[.int .i64 y.src, .int .i64 y.dst, .string (B y.inp), .string (B y.out), .int .i64 y.cost] 29)) (g10 + 1) gg 0 cap rs := ⟨hgg1, HO13.out.block.2, Or.inl ⟨rfl, HO13.out⟩⟩
    clear S12 HB12 HO12 al dal SB12 TH12 HF12
    refine wpList_append_fit rfl _ _ rfl (by rfl) HF13 y x12.heap.size (by rfl) (heap_alloc_new x12.drew _) (by omega) ?_
    intro g14 cap' w14 row hown hgrow hrow hg14
    have hn3 : row ≠ some g10 := by rcases hrow with rfl | rfl <;> simp; omega
    have hg3 : g10 ≠ g14 := by
      rcases hg14 with h | h
      · omega
      · simp at h; omega
    obtain ⟨t0, t1, t2⟩ := (S13.out.keptBy hgrow hn3).cells
    have tf := (S13.out.keptBy hgrow hn3).free
    have S14 := Lib.hid ((S13.out.keptBy hgrow hn3).put2 (v := .slice (some ⟨g14, 0, none⟩) (rs.length + 1) cap'))
    have HO14 := Lib.hid (hown.keep1 (W' := w14.setCell ⟨g10, 2, none⟩ (.slice (some ⟨g14, 0, none⟩) (rs.length + 1) cap')) (by simp only [World.setCell, Array.getElem?_modify, if_neg hg3]))
    have HB14 := Lib.hid ((HB13.out.grown hgrow HB13.out.size (fun kx h => by rcases hrow with rfl | rfl <;> simp at h; omega)).setCell (p := ⟨g10, 2, none⟩) (by simp; omega) (.slice (some ⟨g14, 0, none⟩) (rs.length + 1) cap'))
    clear hown hgrow hrow hg14 hn3 S13 HB13 HO13 HF13
    go_upto_region 16 with fail
    clear t0 t1 t2 tf
    generalize w14.setCell _ _ = x15 at *
    have CRF := Lib.hid (refuse_row (m := mm) (rs.length : Nat) (HT.out.below HB14.out H0.out) (Nat.lt_of_lt_of_le H0.out HB14.out.size) HO14.out (by simp) (by omega) HZ.out MM.out HC.out)
    obtain ⟨t0, t1, t2⟩ := S14.out.cells
    go_wp2_with fail
    refine (CRF.out).mono ?_
    rintro e x16 ⟨rfl, hb⟩
    have HB15 := Lib.hid (HB14.out.trans (hb.mono HB14.out.size))
    clear hb
    go_wp2_with fail
    go_ret
    exact ⟨rfl, HB15.out⟩
end Go.Proofs.YtnbiedijofdjhaaDoor
