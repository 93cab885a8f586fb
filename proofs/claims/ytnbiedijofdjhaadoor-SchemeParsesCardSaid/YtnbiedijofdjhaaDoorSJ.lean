/-
  scheme.Print.
-/
import Derived.Test.YtnbiedijofdjhaaDoorSQ
namespace Go.Proofs.YtnbiedijofdjhaaDoor
open Go.RowKit
open Pl

def headS (modes acc : Int) : List UInt8 := lineS [[115, 99, 104, 101, 109, 101], Lib.decDigits modes.toNat, Lib.decDigits acc.toNat]
def ruleS (r : Rl) : List UInt8 := lineS [[114, 117, 108, 101], Lib.decDigits r.src.toNat, Lib.decDigits r.dst.toNat, textS r.inp, textS r.out, Lib.decDigits r.cost.toNat]
/-- What Print answers on a valid scheme. -/
def printS (modes acc : Int) (rs : List Rl) : List UInt8 := headS modes acc ++ rs.flatMap ruleS
theorem dec_len : ∀ (k n : Nat), n < 10 ^ (k + 1) → (Lib.decDigits n).length ≤ k + 1
  | 0, n, h => by rw [Lib.decDigits, dif_pos (by simpa using h)]; simp
  | k + 1, n, h => by
    rw [Lib.decDigits]
    split
    · simp
    · have := dec_len k (n / 10) (by rw [Nat.pow_succ] at h; omega)
      simp; omega
structure RlOk (modes : Int) (r : Rl) : Prop where
  s0 : 0 ≤ r.src
  s1 : r.src < modes
  d0 : 0 ≤ r.dst
  d1 : r.dst < modes
  i : r.inp.length ≤ 4
  i1 : onlyB 1 r.inp = true
  o : r.out.length ≤ 4
  o1 : onlyB 7 r.out = true
  c0 : 0 ≤ r.cost
  c1 : r.cost ≤ 1000
theorem rightB_ok {modes : Int} {rs : List Rl} {i : Nat} {r : Rl} (h : rightB modes rs i r = true) : RlOk modes r ∧ r ∉ rs.take i := by
  unfold rightB modeB at h
  simp only [Bool.and_eq_true, decide_eq_true_eq, Bool.not_eq_true', decide_eq_false_iff_not, size_B] at h
  obtain ⟨⟨a, b⟩, ⟨c, d⟩, e, f, g, h, i, j, k⟩ := h
  exact ⟨⟨a, b, c, d, by omega, f, by omega, h, i, j⟩, k⟩
theorem valid_ok {modes acc : Int} {rs : List Rl} (h : validB modes acc rs = true) : 1 ≤ modes ∧ modes ≤ 8 ∧ 1 ≤ acc ∧ rs.length ≤ 64 ∧ ∀ k (hk : k < rs.length), RlOk modes rs[k] ∧ rs[k] ∉ rs.take k := by
  unfold validB frameB at h
  simp only [Bool.and_eq_true, decide_eq_true_eq] at h
  obtain ⟨⟨a, b, c, d, e⟩, f⟩ := h
  refine ⟨a, b, c, e, fun k hk => ?_⟩
  have := List.all_eq_true.1 f k (List.mem_range.2 hk)
  rw [rightAt_get modes rs k hk] at this
  exact rightB_ok this
theorem textS_len {l : List UInt8} (h : l.length ≤ 4) : (textS l).length ≤ 4 := by unfold textS; split <;> simp_all
theorem ruleS_len {modes : Int} {r : Rl} (h : RlOk modes r) (hm : modes ≤ 8) : (ruleS r).length ≤ 40 := by
  have h1 := dec_len 3 r.src.toNat (by have := h.s1; have := h.s0; omega)
  have h2 := dec_len 3 r.dst.toNat (by have := h.d1; have := h.d0; omega)
  have h3 := dec_len 3 r.cost.toNat (by have := h.c1; have := h.c0; omega)
  have h4 := textS_len h.i
  have h5 := textS_len h.o
  simp only [ruleS, lineS, Lib.join, List.intercalate, List.intersperse, List.flatten, List.append_eq, List.length_append, List.length_cons, List.length_nil]
  omega
theorem headS_len {modes acc : Int} (h0 : 0 ≤ modes) (h1 : modes ≤ 8) (h2 : 0 ≤ acc) (h3 : acc ≤ 255) : (headS modes acc).length ≤ 20 := by
  have h1 := dec_len 3 modes.toNat (by omega)
  have h2 := dec_len 3 acc.toNat (by omega)
  simp only [headS, lineS, Lib.join, List.intercalate, List.intersperse, List.flatten, List.append_eq, List.length_append, List.length_cons, List.length_nil]
  omega
theorem rules_len (modes : Int) (hm : modes ≤ 8) : ∀ rs : List Rl, (∀ k (hk : k < rs.length), RlOk modes rs[k]) → (rs.flatMap ruleS).length ≤ 40 * rs.length
  | [], _ => by simp
  | r :: rs, h => by
    have h1 := ruleS_len (h 0 (by simp)) hm
    have h2 := rules_len modes hm rs fun k hk => by have := h (k + 1) (by simp; omega); simpa using this
    simp only [List.getElem_cons_zero, List.flatMap_cons, List.length_append, List.length_cons] at *
    omega
theorem take_flat (rs : List Rl) (k : Nat) (h : k < rs.length) : (rs.take (k + 1)).flatMap ruleS = (rs.take k).flatMap ruleS ++ ruleS rs[k] := by
  rw [List.take_succ_eq_append_getElem h, List.flatMap_append]; simp
theorem B_app (s t : List UInt8) : B s ++ B t = B (s ++ t) := by
  rw [← B_toList (B s ++ B t)]; simp [B]

theorem cell_new (W : World) (t : TypeId) (cs : Array Value) (j : Nat) : (W.alloc (.cells cs t)).cell? ⟨W.heap.size, j, none⟩ = cs[j]? := by unfold World.cell?; rw [heap_alloc_new]; simp
theorem row3 (W : World) (t : TypeId) (a b c : List UInt8) : ∀ (j : Nat) x, [a, b, c][j]? = some x → (W.alloc (.cells #[.string (B a), .string (B b), .string (B c)] t)).cell? ⟨W.heap.size, 0 + j, none⟩ = some (.string (B x))
  | 0, x, h => by obtain rfl : a = x := by simpa using h
                  exact (cell_new W t _ _).trans rfl
  | 1, x, h => by obtain rfl : b = x := by simpa using h
                  exact (cell_new W t _ _).trans rfl
  | 2, x, h => by obtain rfl : c = x := by simpa using h
                  exact (cell_new W t _ _).trans rfl
  | j + 3, x, h => by simp at h
theorem row6 (W : World) (t : TypeId) (a b c d e f : List UInt8) : ∀ (j : Nat) x, [a, b, c, d, e, f][j]? = some x → (W.alloc (.cells #[.string (B a), .string (B b), .string (B c), .string (B d), .string (B e), .string (B f)] t)).cell? ⟨W.heap.size, 0 + j, none⟩ = some (.string (B x))
  | 0, x, h => by obtain rfl : a = x := by simpa using h
                  exact (cell_new W t _ _).trans rfl
  | 1, x, h => by obtain rfl : b = x := by simpa using h
                  exact (cell_new W t _ _).trans rfl
  | 2, x, h => by obtain rfl : c = x := by simpa using h
                  exact (cell_new W t _ _).trans rfl
  | 3, x, h => by obtain rfl : d = x := by simpa using h
                  exact (cell_new W t _ _).trans rfl
  | 4, x, h => by obtain rfl : e = x := by simpa using h
                  exact (cell_new W t _ _).trans rfl
  | 5, x, h => by obtain rfl : f = x := by simpa using h
                  exact (cell_new W t _ _).trans rfl
  | j + 6, x, h => by simp at h
theorem join_of_line {xs : List (List UInt8)} {n : Nat} (h : (lineS xs).length ≤ n) (hn : n ≤ 1000000) : (Lib.join xs [32]).length ≤ 1000000 := by
  unfold lineS at h; rw [List.length_append] at h; omega

set_option maxHeartbeats 1000000 in
set_option maxRecDepth 100000 in
theorem Print_bad (modes acc : Int) (a : Option Addr) (c : Nat) (rs : List Rl) (w : World) (hT : StrTab w) (h0 : 0 < w.heap.size) (hx : RlsAt w w.heap.size (.slice a rs.length c) rs) (hcap : rs.length ≤ c) (hm : rs.length ≤ maxLen)
    (hz : ∀ x ∈ rs, x.inp.length ≤ maxLen ∧ x.out.length ≤ maxLen) (hm0 : -9223372036854775808 ≤ modes) (hm1 : modes ≤ 9223372036854775807) (ha0 : 0 ≤ acc) (ha1 : acc ≤ 255) (hv : validB modes acc rs = false) :
    Calls Tryd.prog 20 #[.agg #[.int .i64 modes, .int .u8 acc, .slice a rs.length c]] w fun e w' => e = .returned (.string (B [])) ∧ Below w.heap.size w w' := by
  have hb : Below w.heap.size w (w.alloc (.cells #[.int .i64 modes, .int .u8 acc, .slice a rs.length c] 24)) := (Below.refl _ _).alloc (Nat.le_refl _) _
  have SB0 := Lib.hid (SchBlock.new w (.int .i64 modes) (.int .u8 acc) (.slice a rs.length c))
  have CC := Lib.hid (Valid_any modes acc a c rs _ (hT.below hb h0) (Nat.lt_of_lt_of_le h0 hb.size) (hx.on hb) hcap hm hz hm0 hm1 ha0 ha1)
  rw [hv] at CC
  have HB := Lib.hid hb
  clear hT h0 hcap hm hz hm0 hm1 hx hv
  go_enter Tryd.func20, Tryd.ntmps20
  go_wp2_with fail
  generalize w.alloc _ = w1 at *
  obtain ⟨s0, s1, s2⟩ := SB0.out.cells
  go_wp2_with fail
  refine (CC.out).mono ?_
  rintro e x1 ⟨rfl, hb⟩
  have HB1 := Lib.hid (HB.out.trans (hb.mono HB.out.size))
  clear hb CC HB
  go_wp2_with fail
  go_ret
  exact ⟨rfl, HB1.out⟩

set_option maxHeartbeats 2000000 in
set_option maxRecDepth 100000 in
theorem Print_any (modes acc : Int) (a : Option Addr) (c : Nat) (rs : List Rl) (w : World) (hT : StrTab w) (hP : PowTab w) (h0 : 0 < w.heap.size) (hx : RlsAt w w.heap.size (.slice a rs.length c) rs) (hcap : rs.length ≤ c) (hm : rs.length ≤ maxLen)
    (hz : ∀ x ∈ rs, x.inp.length ≤ maxLen ∧ x.out.length ≤ maxLen) (hm0 : -9223372036854775808 ≤ modes) (hm1 : modes ≤ 9223372036854775807) (ha0 : 0 ≤ acc) (ha1 : acc ≤ 255) (hv : validB modes acc rs = true) :
    Calls Tryd.prog 20 #[.agg #[.int .i64 modes, .int .u8 acc, .slice a rs.length c]] w fun e w' => e = .returned (.string (B (printS modes acc rs))) ∧ Below w.heap.size w w' := by
  have hb : Below w.heap.size w (w.alloc (.cells #[.int .i64 modes, .int .u8 acc, .slice a rs.length c] 24)) := (Below.refl _ _).alloc (Nat.le_refl _) _
  have SB0 := Lib.hid (SchBlock.new w (.int .i64 modes) (.int .u8 acc) (.slice a rs.length c))
  have CC := Lib.hid (Valid_any modes acc a c rs _ (hT.below hb h0) (Nat.lt_of_lt_of_le h0 hb.size) (hx.on hb) hcap hm hz hm0 hm1 ha0 ha1)
  rw [hv] at CC
  obtain ⟨v1, v2, v3, v4, v5⟩ := valid_ok hv
  have HB := Lib.hid hb
  have HX := Lib.hid (hx.on hb)
  have HP := Lib.hid (hP.below hb)
  have CI := fun W h1 => itoa_any modes.toNat (by omega) W h1
  have CA := fun W h1 => itoa_any acc.toNat (by omega) W h1
  rw [Int.toNat_of_nonneg (by omega)] at CI CA
  have HW : IntKind.i64.wrap acc = acc := IntWalk.i64_in _ (by omega)
  have HLL := Lib.hid (show (lineS [[115, 99, 104, 101, 109, 101], Lib.decDigits modes.toNat, Lib.decDigits acc.toNat]).length ≤ 20 from headS_len (show 0 ≤ modes by omega) v2 ha0 ha1)
  have HL := Lib.hid (headS_len (show 0 ≤ modes by omega) v2 ha0 ha1)
  have HV := Lib.hid v5
  have HM2 := Lib.hid v2
  have HN := Lib.hid v4
  clear hT h0 hcap hm hz hm0 hm1 hx hv v1 v2 v3 v4 v5 hP ha0 ha1
  go_enter Tryd.func20, Tryd.ntmps20
  go_wp2_with fail
  generalize w.alloc _ = w1 at *
  obtain ⟨s0, s1, s2⟩ := SB0.out.cells
  go_wp2_with fail
  refine (CC.out).mono ?_
  rintro e x1 ⟨rfl, hb⟩
  have HB1 := Lib.hid (HB.out.trans (hb.mono HB.out.size))
  have SB1 := Lib.hid (SB0.out.below hb)
  have HX1 := Lib.hid (HX.out.on hb)
  have HP1 := Lib.hid (HP.out.below hb)
  clear s0 s1 s2 hb CC HB SB0 HX HP
  obtain ⟨s0, s1, s2⟩ := SB1.out.cells
  go_upto_region 3 with fail
  have CJ : ∀ W, Below x1.heap.size x1 W → W.cell? ⟨w.heap.size, 0, none⟩ = some (.int .i64 modes) ∧ W.cell? ⟨w.heap.size, 1, none⟩ = some (.int .u8 acc) ∧ Below x1.heap.size x1 W := fun W hb => ⟨(SB1.out.below hb).cells.1, (SB1.out.below hb).cells.2.1, hb⟩
  have C1 : ∀ W, (W.cell? ⟨w.heap.size, 0, none⟩ = some (.int .i64 modes) ∧ W.cell? ⟨w.heap.size, 1, none⟩ = some (.int .u8 acc) ∧ Below x1.heap.size x1 W) → Calls Tryd.prog 58 #[.int .i64 modes] W fun e w' => e = .returned (.string (B (Lib.decDigits modes.toNat))) ∧ (w'.cell? ⟨w.heap.size, 0, none⟩ = some (.int .i64 modes) ∧ w'.cell? ⟨w.heap.size, 1, none⟩ = some (.int .u8 acc) ∧ Below x1.heap.size x1 w') := fun W h => (CI W (HP1.out.below h.2.2)).mono fun e w' h' => ⟨h'.1, CJ w' (h.2.2.trans (h'.2.mono h.2.2.size))⟩
  have C2 : ∀ W, (W.cell? ⟨w.heap.size, 0, none⟩ = some (.int .i64 modes) ∧ W.cell? ⟨w.heap.size, 1, none⟩ = some (.int .u8 acc) ∧ Below x1.heap.size x1 W) → Calls Tryd.prog 58 #[.int .i64 acc] W fun e w' => e = .returned (.string (B (Lib.decDigits acc.toNat))) ∧ (w'.cell? ⟨w.heap.size, 0, none⟩ = some (.int .i64 modes) ∧ w'.cell? ⟨w.heap.size, 1, none⟩ = some (.int .u8 acc) ∧ Below x1.heap.size x1 w') := fun W h => (CA W (HP1.out.below h.2.2)).mono fun e w' h' => ⟨h'.1, CJ w' (h.2.2.trans (h'.2.mono h.2.2.size))⟩
  refine wp_region_qp (m := False) (pc := []) (C := fun W => W.cell? ⟨w.heap.size, 0, none⟩ = some (.int .i64 modes) ∧ W.cell? ⟨w.heap.size, 1, none⟩ = some (.int .u8 acc) ∧ Below x1.heap.size x1 W) 7 (by kernel_rfl) (by kernel_rfl) (CJ _ (Below.refl _ _).drew) (fun h => h.elim) ?_
  simp only [List.take_succ_cons, List.take_zero, List.drop_succ_cons, List.drop_zero]
  repeat (refine wpQP_step rfl ?_; intro K hK; first | (refine quiet_value ?_ (fun W h => ?_) ?_; rotate_left; (· obtain ⟨s0, s1, hb2⟩ := h; go_simp; rfl); go_simp; go_big_quiet_on) | (refine quiet_call _ _ _ (fun W => ?_) C1 ?_; (· go_simp; done); go_simp; go_big_quiet_on) | (refine quiet_call _ _ _ (fun W => ?_) C2 ?_; (· go_simp; done); go_simp; go_big_quiet_on))
  refine wpQP_nil ?_
  rintro - x2 ⟨-, -, hb⟩
  have HB2 := Lib.hid (HB1.out.trans (hb.mono HB1.out.size))
  have SB2 := Lib.hid (SB1.out.below hb)
  have HX2 := Lib.hid (HX1.out.on hb)
  have HP2 := Lib.hid (HP1.out.below hb)
  clear s0 s1 s2 hb HB1 SB1 HX1 HP1 C1 C2 CJ
  go_wp2_with fail
  have hbn : Below x2.heap.size x2 (x2.alloc (.cells #[.string ⟨#[115, 99, 104, 101, 109, 101]⟩, .string (B (Lib.decDigits modes.toNat)), .string (B (Lib.decDigits acc.toNat))] 9)) := (Below.refl _ _).alloc (Nat.le_refl _) _
  refine (writeLine_any x2.heap.size 0 3 [[115, 99, 104, 101, 109, 101], Lib.decDigits modes.toNat, Lib.decDigits acc.toNat] _ (row3 x2 _ _ _ _) (by rw [World.size_alloc]; omega) (by simp) (by simp) (join_of_line HLL.out (by omega))).mono ?_
  rintro e x3 ⟨rfl, hb⟩
  replace hb := hbn.trans (hb.mono hbn.size)
  have HB3 := Lib.hid (HB2.out.trans (hb.mono HB2.out.size))
  have SB3 := Lib.hid (SB2.out.below hb)
  have HX3 := Lib.hid (HX2.out.on hb)
  have HP3 := Lib.hid (HP2.out.below hb)
  rw [show B (lineS [[115, 99, 104, 101, 109, 101], Lib.decDigits modes.toNat, Lib.decDigits acc.toNat]) = B (headS modes acc ++ (rs.take 0).flatMap ruleS) by simp [headS]]
  clear hb hbn HB2 SB2 HX2 HP2 HLL
  obtain ⟨s0, s1, s2⟩ := SB3.out.cells
  go_wp2_with fail
  clear s0 s1 s2
  go_loopw [3, 21] (fun s i wr => ∃ k : Nat, i = .int .i64 k ∧ k ≤ rs.length ∧ s = .string (B (headS modes acc ++ (rs.take k).flatMap ruleS)) ∧ Below x3.heap.size x3 wr) (fun _ i _ => rs.length - (intOf i).toNat)
  case atStart => exact ⟨0, rfl, Nat.zero_le _, by simp, Below.refl _ _⟩
  case round =>
    obtain ⟨k, rfl, hk, rfl, hb⟩ := hrel
    have HBR := Lib.hid hb
    have HK := Lib.hid hk
    clear hb hk
    by_cases hp : k < rs.length
    · have hk0 : (0 : Int) ≤ (k : Int) := by omega
      have hk1 : (k : Int) < (rs.length : Int) := by omega
      have HS := Lib.hid (show B (headS modes acc ++ (rs.take k).flatMap ruleS) ++ B (ruleS rs[k]) = B (headS modes acc ++ (rs.take (k + 1)).flatMap ruleS) by rw [B_app, take_flat rs k hp, List.append_assoc])
      have HOK := Lib.hid (HV.out k hp).1
      have hs1 : (headS modes acc ++ (rs.take k).flatMap ruleS).length ≤ 4000 := by
        have h1 := rules_len modes HM2.out (rs.take k) fun t ht => by
          have := (HV.out t (by rw [List.length_take] at ht; omega)).1
          simpa using this
        have h2 := HL.out
        have h3 := HN.out
        rw [List.length_append]
        rw [List.length_take] at h1
        omega
      have hs2 := ruleS_len HOK.out HM2.out
      have hcat : ¬ 9223372036854775807 < (B (headS modes acc ++ (rs.take k).flatMap ruleS)).size + (B (ruleS rs[k])).size := by rw [size_B, size_B]; omega
      obtain ⟨r, hr⟩ : ∃ r, r = rs[k] := ⟨_, rfl⟩
      obtain ⟨b, off, rfl, hbb, hc⟩ : ∃ b off, a = some ⟨b, off, none⟩ ∧ b < x3.heap.size ∧ x3.cell? ⟨b, off + k * 5, none⟩ = some (.int .i64 r.src) ∧ x3.cell? ⟨b, off + k * 5 + 1, none⟩ = some (.int .i64 r.dst) ∧ x3.cell? ⟨b, off + k * 5 + 2, none⟩ = some (.string (B r.inp)) ∧ x3.cell? ⟨b, off + k * 5 + 3, none⟩ = some (.string (B r.out)) ∧ x3.cell? ⟨b, off + k * 5 + 4, none⟩ = some (.int .i64 r.cost) := by
        obtain ⟨a0, c0, hv, hc⟩ := HX3.out
        obtain ⟨rfl, -⟩ : a = a0 ∧ c = c0 := by simpa using hv
        obtain ⟨b, off, ha, hb, hc⟩ := hc (by omega)
        exact ⟨b, off, ha, hb, by rw [hr]; exact hc k hp⟩
      rw [← hr] at HS HOK hs2 hcat
      obtain ⟨x0, y1, y2, y3, y4⟩ := hc
      have y := fun o => HBR.out.cell (p := ⟨b, o, none⟩) hbb
      have z0 := (y _).trans x0
      have z1 := (y _).trans y1
      have z2 := (y _).trans y2
      have z3 := (y _).trans y3
      have z4 := (y _).trans y4
      have HP := Lib.hid hp
      clear hr x0 y1 y2 y3 y4 y hp
      generalize headS modes acc ++ (rs.take k).flatMap ruleS = tx at *
      go_upto_region 7 with fail
      have RB0 := Lib.hid (show RlBlock (wr.alloc (.cells #[.int .i64 r.src, .int .i64 r.dst, .string (B r.inp), .string (B r.out), .int .i64 r.cost] 29)) wr.heap.size r from heap_alloc_new wr _)
      have hb5 : Below x3.heap.size x3 (wr.alloc (.cells #[.int .i64 r.src, .int .i64 r.dst, .string (B r.inp), .string (B r.out), .int .i64 r.cost] 29)) := HBR.out.alloc HBR.out.size _
      generalize wr.alloc _ = w5 at *
      have HB5 := Lib.hid hb5
      have HP5 := Lib.hid (HP3.out.below hb5)
      clear hb5
      have CJ : ∀ W, Below w5.heap.size w5 W → W.cell? ⟨wr.heap.size, 0, none⟩ = some (.int .i64 r.src) ∧ W.cell? ⟨wr.heap.size, 1, none⟩ = some (.int .i64 r.dst) ∧ W.cell? ⟨wr.heap.size, 2, none⟩ = some (.string (B r.inp)) ∧ W.cell? ⟨wr.heap.size, 3, none⟩ = some (.string (B r.out)) ∧ W.cell? ⟨wr.heap.size, 4, none⟩ = some (.int .i64 r.cost) ∧ Below w5.heap.size w5 W := fun W hb => ⟨(RB0.out.below hb).cells.1, (RB0.out.below hb).cells.2.1, (RB0.out.below hb).cells.2.2.1, (RB0.out.below hb).cells.2.2.2.1, (RB0.out.below hb).cells.2.2.2.2, hb⟩
      have D1 := fun W h1 => itoa_any r.src.toNat (by have := HOK.out.s0; have := HOK.out.s1; have := HM2.out; omega) W h1
      have D2 := fun W h1 => itoa_any r.dst.toNat (by have := HOK.out.d0; have := HOK.out.d1; have := HM2.out; omega) W h1
      have D3 := fun W h1 => itoa_any r.cost.toNat (by have := HOK.out.c0; have := HOK.out.c1; omega) W h1
      rw [Int.toNat_of_nonneg HOK.out.s0] at D1
      rw [Int.toNat_of_nonneg HOK.out.d0] at D2
      rw [Int.toNat_of_nonneg HOK.out.c0] at D3
      have C1 : ∀ W, (W.cell? ⟨wr.heap.size, 0, none⟩ = some (.int .i64 r.src) ∧ W.cell? ⟨wr.heap.size, 1, none⟩ = some (.int .i64 r.dst) ∧ W.cell? ⟨wr.heap.size, 2, none⟩ = some (.string (B r.inp)) ∧ W.cell? ⟨wr.heap.size, 3, none⟩ = some (.string (B r.out)) ∧ W.cell? ⟨wr.heap.size, 4, none⟩ = some (.int .i64 r.cost) ∧ Below w5.heap.size w5 W) → Calls Tryd.prog 58 #[.int .i64 r.src] W fun e w' => e = .returned (.string (B (Lib.decDigits r.src.toNat))) ∧ (w'.cell? ⟨wr.heap.size, 0, none⟩ = some (.int .i64 r.src) ∧ w'.cell? ⟨wr.heap.size, 1, none⟩ = some (.int .i64 r.dst) ∧ w'.cell? ⟨wr.heap.size, 2, none⟩ = some (.string (B r.inp)) ∧ w'.cell? ⟨wr.heap.size, 3, none⟩ = some (.string (B r.out)) ∧ w'.cell? ⟨wr.heap.size, 4, none⟩ = some (.int .i64 r.cost) ∧ Below w5.heap.size w5 w') := fun W h => (D1 W (HP5.out.below h.2.2.2.2.2)).mono fun e w' h' => ⟨h'.1, CJ w' (h.2.2.2.2.2.trans (h'.2.mono h.2.2.2.2.2.size))⟩
      have C2 : ∀ W, (W.cell? ⟨wr.heap.size, 0, none⟩ = some (.int .i64 r.src) ∧ W.cell? ⟨wr.heap.size, 1, none⟩ = some (.int .i64 r.dst) ∧ W.cell? ⟨wr.heap.size, 2, none⟩ = some (.string (B r.inp)) ∧ W.cell? ⟨wr.heap.size, 3, none⟩ = some (.string (B r.out)) ∧ W.cell? ⟨wr.heap.size, 4, none⟩ = some (.int .i64 r.cost) ∧ Below w5.heap.size w5 W) → Calls Tryd.prog 58 #[.int .i64 r.dst] W fun e w' => e = .returned (.string (B (Lib.decDigits r.dst.toNat))) ∧ (w'.cell? ⟨wr.heap.size, 0, none⟩ = some (.int .i64 r.src) ∧ w'.cell? ⟨wr.heap.size, 1, none⟩ = some (.int .i64 r.dst) ∧ w'.cell? ⟨wr.heap.size, 2, none⟩ = some (.string (B r.inp)) ∧ w'.cell? ⟨wr.heap.size, 3, none⟩ = some (.string (B r.out)) ∧ w'.cell? ⟨wr.heap.size, 4, none⟩ = some (.int .i64 r.cost) ∧ Below w5.heap.size w5 w') := fun W h => (D2 W (HP5.out.below h.2.2.2.2.2)).mono fun e w' h' => ⟨h'.1, CJ w' (h.2.2.2.2.2.trans (h'.2.mono h.2.2.2.2.2.size))⟩
      have C3 : ∀ W, (W.cell? ⟨wr.heap.size, 0, none⟩ = some (.int .i64 r.src) ∧ W.cell? ⟨wr.heap.size, 1, none⟩ = some (.int .i64 r.dst) ∧ W.cell? ⟨wr.heap.size, 2, none⟩ = some (.string (B r.inp)) ∧ W.cell? ⟨wr.heap.size, 3, none⟩ = some (.string (B r.out)) ∧ W.cell? ⟨wr.heap.size, 4, none⟩ = some (.int .i64 r.cost) ∧ Below w5.heap.size w5 W) → Calls Tryd.prog 58 #[.int .i64 r.cost] W fun e w' => e = .returned (.string (B (Lib.decDigits r.cost.toNat))) ∧ (w'.cell? ⟨wr.heap.size, 0, none⟩ = some (.int .i64 r.src) ∧ w'.cell? ⟨wr.heap.size, 1, none⟩ = some (.int .i64 r.dst) ∧ w'.cell? ⟨wr.heap.size, 2, none⟩ = some (.string (B r.inp)) ∧ w'.cell? ⟨wr.heap.size, 3, none⟩ = some (.string (B r.out)) ∧ w'.cell? ⟨wr.heap.size, 4, none⟩ = some (.int .i64 r.cost) ∧ Below w5.heap.size w5 w') := fun W h => (D3 W (HP5.out.below h.2.2.2.2.2)).mono fun e w' h' => ⟨h'.1, CJ w' (h.2.2.2.2.2.trans (h'.2.mono h.2.2.2.2.2.size))⟩
      have C4 : ∀ W, (W.cell? ⟨wr.heap.size, 0, none⟩ = some (.int .i64 r.src) ∧ W.cell? ⟨wr.heap.size, 1, none⟩ = some (.int .i64 r.dst) ∧ W.cell? ⟨wr.heap.size, 2, none⟩ = some (.string (B r.inp)) ∧ W.cell? ⟨wr.heap.size, 3, none⟩ = some (.string (B r.out)) ∧ W.cell? ⟨wr.heap.size, 4, none⟩ = some (.int .i64 r.cost) ∧ Below w5.heap.size w5 W) → Calls Tryd.prog 59 #[.string (B r.inp)] W fun e w' => e = .returned (.string (B (textS r.inp))) ∧ (w'.cell? ⟨wr.heap.size, 0, none⟩ = some (.int .i64 r.src) ∧ w'.cell? ⟨wr.heap.size, 1, none⟩ = some (.int .i64 r.dst) ∧ w'.cell? ⟨wr.heap.size, 2, none⟩ = some (.string (B r.inp)) ∧ w'.cell? ⟨wr.heap.size, 3, none⟩ = some (.string (B r.out)) ∧ w'.cell? ⟨wr.heap.size, 4, none⟩ = some (.int .i64 r.cost) ∧ Below w5.heap.size w5 w') := fun W h => (writeText_any r.inp W).mono fun e w' h' => ⟨h'.1, by rw [h'.2]; exact h⟩
      have C5 : ∀ W, (W.cell? ⟨wr.heap.size, 0, none⟩ = some (.int .i64 r.src) ∧ W.cell? ⟨wr.heap.size, 1, none⟩ = some (.int .i64 r.dst) ∧ W.cell? ⟨wr.heap.size, 2, none⟩ = some (.string (B r.inp)) ∧ W.cell? ⟨wr.heap.size, 3, none⟩ = some (.string (B r.out)) ∧ W.cell? ⟨wr.heap.size, 4, none⟩ = some (.int .i64 r.cost) ∧ Below w5.heap.size w5 W) → Calls Tryd.prog 59 #[.string (B r.out)] W fun e w' => e = .returned (.string (B (textS r.out))) ∧ (w'.cell? ⟨wr.heap.size, 0, none⟩ = some (.int .i64 r.src) ∧ w'.cell? ⟨wr.heap.size, 1, none⟩ = some (.int .i64 r.dst) ∧ w'.cell? ⟨wr.heap.size, 2, none⟩ = some (.string (B r.inp)) ∧ w'.cell? ⟨wr.heap.size, 3, none⟩ = some (.string (B r.out)) ∧ w'.cell? ⟨wr.heap.size, 4, none⟩ = some (.int .i64 r.cost) ∧ Below w5.heap.size w5 w') := fun W h => (writeText_any r.out W).mono fun e w' h' => ⟨h'.1, by rw [h'.2]; exact h⟩
      refine wp_region_qp1 (pc := []) (C := fun W => W.cell? ⟨wr.heap.size, 0, none⟩ = some (.int .i64 r.src) ∧ W.cell? ⟨wr.heap.size, 1, none⟩ = some (.int .i64 r.dst) ∧ W.cell? ⟨wr.heap.size, 2, none⟩ = some (.string (B r.inp)) ∧ W.cell? ⟨wr.heap.size, 3, none⟩ = some (.string (B r.out)) ∧ W.cell? ⟨wr.heap.size, 4, none⟩ = some (.int .i64 r.cost) ∧ Below w5.heap.size w5 W) (.tmp 3) 15 (by kernel_rfl) (by kernel_rfl) rfl rfl (CJ _ (Below.refl _ _).drew) ?_
      intro K hK
      go_simp
      go_big_quiet_on
      simp only [List.take_succ_cons, List.take_zero, List.drop_succ_cons, List.drop_zero]
      repeat (refine wpQP_step rfl ?_; intro K hK; first | (refine quiet_value ?_ (fun W h => ?_) ?_; rotate_left; (· obtain ⟨s0, s1, s2, s3, s4, hb2⟩ := h; go_simp; rfl); go_simp; go_big_quiet_on) | (refine quiet_call _ _ _ (fun W => ?_) C1 ?_; (· go_simp; done); go_simp; go_big_quiet_on) | (refine quiet_call _ _ _ (fun W => ?_) C2 ?_; (· go_simp; done); go_simp; go_big_quiet_on) | (refine quiet_call _ _ _ (fun W => ?_) C3 ?_; (· go_simp; done); go_simp; go_big_quiet_on) | (refine quiet_call _ _ _ (fun W => ?_) C4 ?_; (· go_simp; done); go_simp; go_big_quiet_on) | (refine quiet_call _ _ _ (fun W => ?_) C5 ?_; (· go_simp; done); go_simp; go_big_quiet_on))
      refine wpQP_nil ?_
      rintro - x6 ⟨-, -, -, -, -, hb⟩
      have HB6 := Lib.hid (HB5.out.trans (hb.mono HB5.out.size))
      clear hb CJ C1 C2 C3 C4 C5 D1 D2 D3 HP5 HB5 RB0 z0 z1 z2 z3 z4
      go_wp2_with fail
      have hbn : Below x6.heap.size x6 (x6.alloc (.cells #[.string ⟨#[114, 117, 108, 101]⟩, .string (B (Lib.decDigits r.src.toNat)), .string (B (Lib.decDigits r.dst.toNat)), .string (B (textS r.inp)), .string (B (textS r.out)), .string (B (Lib.decDigits r.cost.toNat))] 9)) := (Below.refl _ _).alloc (Nat.le_refl _) _
      refine (writeLine_any x6.heap.size 0 6 [[114, 117, 108, 101], Lib.decDigits r.src.toNat, Lib.decDigits r.dst.toNat, textS r.inp, textS r.out, Lib.decDigits r.cost.toNat] _ (row6 x6 _ _ _ _ _ _ _) (by rw [World.size_alloc]; omega) (by simp) (by simp) (join_of_line hs2 (by omega))).mono ?_
      rintro e x7 ⟨rfl, hb⟩
      replace hb := hbn.trans (hb.mono hbn.size)
      have HB7 := Lib.hid (HB6.out.trans (hb.mono HB6.out.size))
      rw [show B (lineS [[114, 117, 108, 101], Lib.decDigits r.src.toNat, Lib.decDigits r.dst.toNat, textS r.inp, textS r.out, Lib.decDigits r.cost.toNat]) = B (ruleS r) from rfl]
      clear hb hbn HB6
      have HPL := Lib.hid (show k + 1 ≤ rs.length from HP.out)
      have hmx : rs.length ≤ 9223372036854775807 := by have := HN.out; omega
      go_wp2_with fail
      go_roundw
      case rel => exact ⟨k + 1, by go_num, HPL.out, by rw [HS.out], HB7.out⟩
      case measure => have := HPL.out; simp [intOf]; omega
    · have hk1 : ¬ (k : Int) < (rs.length : Int) := by omega
      have HE := Lib.hid (show rs.take k = rs from List.take_of_length_le (by omega))
      go_wp2_with fail
      go_returns
      exact ⟨by rw [HE.out]; rfl, HB3.out.trans (HBR.out.mono HB3.out.size)⟩
end Go.Proofs.YtnbiedijofdjhaaDoor
