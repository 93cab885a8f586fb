/-
  SchemeParses: Parse and the reference's Parse answer alike; the walk; the law for any raw scheme, string and two numbers.
-/
import Derived.Test.YtnbiedijofdjhaaDoorWH
import Derived.Test.YtnbiedijofdjhaaDoorVM
import Derived.Test.YtnbiedijofdjhaaDoorSW
namespace Go.Proofs.YtnbiedijofdjhaaDoor
open Go.ChangeShapes Go.WideShapes Go.ChangeAt Go.RowKit Go.ChangeMaps
open Pl

theorem first_false (p : Nat → Bool) : ∀ n, (∀ j, j < n → p j = true) ∨ ∃ k, k < n ∧ (∀ j, j < k → p j = true) ∧ p k = false
  | 0 => Or.inl fun j h => absurd h (Nat.not_lt_zero _)
  | n + 1 => by
    rcases first_false p n with h | ⟨k, hk, h1, h2⟩
    · cases hp : p n with
      | true =>
        refine Or.inl fun j hj => ?_
        rcases Nat.lt_or_ge j n with q | q
        · exact h j q
        · obtain rfl : j = n := by omega
          exact hp
      | false => exact Or.inr ⟨n, Nat.lt_succ_self _, h, hp⟩
    · exact Or.inr ⟨k, by omega, h1, h2⟩
theorem chk_some (modes acc : Int) (rs : List Rl) : ∃ i err, ChkIs modes acc rs i err := by
  cases hf : frameB modes acc rs.length with
  | false => exact ⟨-1, 20, Or.inl ⟨hf, rfl, rfl⟩⟩
  | true =>
    rcases first_false (rightAt modes rs) rs.length with h | ⟨k, hk, h1, h2⟩
    · exact ⟨_, 0, Or.inr (Or.inr ⟨hf, rfl, rfl, h⟩)⟩
    · exact ⟨k, 20, Or.inr (Or.inl ⟨hf, k, hk, rfl, rfl, h1, h2⟩)⟩
/-- What both answer of a text. -/
def OutIs (s : List UInt8) (md mk c : Int) (rs : List Rl) : Prop := rs.length ≤ s.length ∧ ((c = 0 ∧ validB md mk rs = true ∧ printS md mk rs = s ∧ (∀ x ∈ rs, x.inp.length ≤ maxLen ∧ x.out.length ≤ maxLen) ∧ (-9223372036854775808 ≤ md ∧ md ≤ 9223372036854775807) ∧ (0 ≤ mk ∧ mk ≤ 255)) ∨ c = 3 ∨ c = 20)
def ParsedE (md mk n c : Int) (rs : List Rl) (w : World) (e : Ending) (w' : World) : Prop := (∃ a ca, e = .returned (.tuple #[.agg #[.int .i64 md, .int .u8 mk, .slice a rs.length ca], .int .i64 n, .int .i64 c]) ∧ rs.length ≤ ca ∧ RlsAt w' w'.heap.size (.slice a rs.length ca) rs) ∧ Below w.heap.size w w'
theorem nil_at (W : World) : RlsAt W W.heap.size (.slice none ([] : List Rl).length 0) [] := ⟨none, 0, rfl, fun h => absurd h (Nat.lt_irrefl 0)⟩
theorem both_parse (s : List UInt8) (hs : s.length ≤ 100000) : ∃ md mk n c rs, OutIs s md mk c rs ∧
    (∀ (m : Int) (w : World), StrTab w → 0 < w.heap.size → MaxVar w m → 2 < w.heap.size → Calls Tryd.prog 22 #[.string (B s)] w (ParsedE md mk n c rs w)) ∧
    (∀ w : World, Calls Tryd.prog 24 #[.string (B s)] w (ParsedE md mk n c rs w)) := by
  cases hr : readW s with
  | none =>
    refine ⟨0, 0, -1, 3, [], ⟨Nat.zero_le _, Or.inr (Or.inl rfl)⟩, fun m w hT h0 hm hg => ?_, fun w => ?_⟩
    · refine (Parse_no s m (-1) w hT h0 (by omega) hm hg (Or.inl ⟨hr, rfl⟩)).mono ?_
      rintro e w' ⟨rfl, hb⟩
      exact ⟨⟨none, 0, rfl, Nat.le_refl _, nil_at w'⟩, hb⟩
    · refine (RParse_any s w hs).mono ?_
      rintro e w' ⟨hb, h⟩
      rw [hr] at h
      subst h
      exact ⟨⟨none, 0, rfl, Nat.le_refl _, nil_at w'⟩, hb⟩
  | some q =>
    obtain ⟨m', x', rs, ok⟩ := q
    obtain ⟨hm1, ha1, hl1, hri⟩ := readW_in hr
    have hsh : ∀ x ∈ rs, x.inp.length ≤ maxLen ∧ x.out.length ≤ maxLen := fun x hx => by
      have := hri x hx
      have h1 := this.i
      have h2 := this.o
      unfold maxLen
      omega
    cases ok with
    | false =>
      refine ⟨0, 0, (rs.length : Nat), 3, [], ⟨Nat.zero_le _, Or.inr (Or.inl rfl)⟩, fun m w hT h0 hm hg => ?_, fun w => ?_⟩
      · refine (Parse_no s m (rs.length : Nat) w hT h0 (by omega) hm hg (Or.inr ⟨m', x', rs, hr, rfl⟩)).mono ?_
        rintro e w' ⟨rfl, hb⟩
        exact ⟨⟨none, 0, rfl, Nat.le_refl _, nil_at w'⟩, hb⟩
      · refine (RParse_any s w hs).mono ?_
        rintro e w' ⟨hb, h⟩
        rw [hr] at h
        dsimp only at h
        subst h
        exact ⟨⟨none, 0, rfl, Nat.le_refl _, nil_at w'⟩, hb⟩
    | true =>
      obtain ⟨i, er, hc⟩ := chk_some m' x' rs
      rcases hc.valid with ⟨rfl, hv, -⟩ | ⟨rfl, hv⟩
      · refine ⟨m', x', i, 0, rs, ⟨hl1, Or.inl ⟨rfl, hv, read_text hr, hsh, ⟨by omega, by omega⟩, by omega, by omega⟩⟩, fun m w hT h0 hm hg => ?_, fun w => ?_⟩
        · refine (Parse_yes s m m' x' rs w hT h0 (by omega) hm hg hr).mono ?_
          rintro e w' ⟨hb, i', er', hc', h⟩
          obtain ⟨rfl, rfl⟩ := chk_unique hc' hc
          rcases h with ⟨-, v, rfl, ho⟩ | ⟨h, -⟩
          · obtain ⟨a, ca, rfl, hca, hx⟩ := ho.at
            exact ⟨⟨a, ca, rfl, hca, hx⟩, hb⟩
          · cases h
        · refine (RParse_any s w hs).mono ?_
          rintro e w' ⟨hb, h⟩
          rw [hr] at h
          obtain ⟨i', er', hc', h⟩ := h
          obtain ⟨rfl, rfl⟩ := chk_unique hc' hc
          rcases h with ⟨-, v, rfl, ho⟩ | ⟨h, -⟩
          · obtain ⟨a, ca, rfl, hca, hx⟩ := ho.at
            exact ⟨⟨a, ca, rfl, hca, hx⟩, hb⟩
          · cases h
      · refine ⟨0, 0, i, 20, [], ⟨Nat.zero_le _, Or.inr (Or.inr rfl)⟩, fun m w hT h0 hm hg => ?_, fun w => ?_⟩
        · refine (Parse_yes s m m' x' rs w hT h0 (by omega) hm hg hr).mono ?_
          rintro e w' ⟨hb, i', er', hc', h⟩
          obtain ⟨rfl, rfl⟩ := chk_unique hc' hc
          rcases h with ⟨h, -⟩ | ⟨-, rfl⟩
          · cases h
          · exact ⟨⟨none, 0, rfl, Nat.le_refl _, nil_at w'⟩, hb⟩
        · refine (RParse_any s w hs).mono ?_
          rintro e w' ⟨hb, h⟩
          rw [hr] at h
          obtain ⟨i', er', hc', h⟩ := h
          obtain ⟨rfl, rfl⟩ := chk_unique hc' hc
          rcases h with ⟨h, -⟩ | ⟨-, rfl⟩
          · cases h
          · exact ⟨⟨none, 0, rfl, Nat.le_refl _, nil_at w'⟩, hb⟩
theorem cellsU16 : Tryd.prog.cellsOf 43 = 1 := by kernel_rfl
theorem cellsTwo16 : Tryd.prog.cellsOf 44 = 2 := by kernel_rfl
theorem rec44 : Tryd.prog.readableRec 44 = true := by kernel_rfl
theorem row44 : 44 < Tryd.prog.types.size := of_decide_eq_true (by kernel_rfl)
set_option maxRecDepth 100000 in
theorem open_tTwo16 {H : Type} {enc : TypeId × Value → H} {W : World} {r : Reach} {base : Nat} {v : Value} {d : DataW H} {p : List MemPlace} (hv : Value.okWide Tryd.prog W r base 44 v) (h : DataW.Trod enc Tryd.prog W 0 (fun _ => true) true 44 v d p) :
    ∃ a : Int × Int, v = .agg #[.int .u16 a.1, .int .u16 a.2] ∧ (0 ≤ a.1 ∧ a.1 ≤ 65535) ∧ (0 ≤ a.2 ∧ a.2 ≤ 65535) := by
  obtain ⟨cs, rfl, hsz⟩ := okWide_arr2 Tryd.underlying44 hv
  rw [cellsTwo16] at hsz
  obtain ⟨l⟩ := cs
  obtain ⟨x0, x1, rfl⟩ : ∃ x0 x1, l = [x0, x1] := by
    clear h hv
    match l, hsz with
    | [x0, x1], _ => exact ⟨x0, x1, rfl⟩
  obtain ⟨fuel, hf⟩ := h
  obtain ⟨xs, m', -, -, -, hxl, hg⟩ := DataW.trod_array Tryd.underlying44 hf
  rw [cellsU16] at hg
  obtain ⟨q0, q1, rfl⟩ : ∃ q0 q1, xs = [q0, q1] := by
    clear hg hf
    match xs, hxl with
    | [q0, q1], _ => exact ⟨q0, q1, rfl⟩
  have g0 : DataW.trod enc Tryd.prog W 0 (fun _ => true) true m' 43 [x0] = some q0 := by simpa [Value.cells] using hg 0 (by omega)
  have g1 : DataW.trod enc Tryd.prog W 0 (fun _ => true) true m' 43 [x1] = some q1 := by simpa [Value.cells] using hg 1 (by omega)
  obtain ⟨y0, hy0, -, hw0⟩ := DataW.trod_int Tryd.underlying43 g0
  obtain ⟨y1, hy1, -, hw1⟩ := DataW.trod_int Tryd.underlying43 g1
  obtain rfl : x0 = .int .u16 y0 := by simpa using hy0
  obtain rfl : x1 = .int .u16 y1 := by simpa using hy1
  exact ⟨(y0, y1), rfl, bounds_u16 hw0, bounds_u16 hw1⟩
set_option maxRecDepth 100000 in
theorem back_tTwo16 {H : Type} {enc : TypeId × Value → H} {W W' : World} {v : Value} {d : DataW H} {p : List MemPlace} (h : DataW.Trod enc Tryd.prog W 0 (fun _ => true) true 44 v d p) (hb : Below W.heap.size W W') :
    DataW.Trod enc Tryd.prog W' 0 (fun b => decide (b < W.heap.size)) true 44 v d p :=
  Below.trod raw_out rec44 row44 h hb (DataW.TrodAll.lt (trodAll_mk1 h))
def PwBlock (W : World) (b : Nat) (a0 a1 : Int) : Prop := W.heap[b]? = some (.cells #[.int .u16 a0, .int .u16 a1] 44 (0, 0))
theorem PwBlock.below {W W' : World} {b : Nat} {a0 a1 : Int} (h : PwBlock W b a0 a1) (hb : Below W.heap.size W W') : PwBlock W' b a0 a1 := by
  have hlt := lt_of_heap h
  unfold PwBlock at h ⊢; rw [hb.block b hlt]; exact h
theorem PwBlock.cells {W : World} {b : Nat} {a0 a1 : Int} (h : PwBlock W b a0 a1) : W.cell? ⟨b, 0, none⟩ = some (.int .u16 a0) ∧ W.cell? ⟨b, 1, none⟩ = some (.int .u16 a1) := by
  unfold PwBlock at h
  exact ⟨by simp [World.cell?, h], by simp [World.cell?, h]⟩
theorem layP (w : World) (k d : Int) (v : Value) (a0 a1 : Int) : RwBlock ((w.alloc (.cells #[.int .u8 k, .int .u8 d, v] 27)).alloc (.cells #[.int .u16 a0, .int .u16 a1] 44)) w.heap.size k d v ∧ PwBlock ((w.alloc (.cells #[.int .u8 k, .int .u8 d, v] 27)).alloc (.cells #[.int .u16 a0, .int .u16 a1] 44)) (w.heap.size + 1) a0 a1 ∧ Below w.heap.size w ((w.alloc (.cells #[.int .u8 k, .int .u8 d, v] 27)).alloc (.cells #[.int .u16 a0, .int .u16 a1] 44)) := by
  refine ⟨RwBlock.below (show RwBlock (w.alloc (.cells #[.int .u8 k, .int .u8 d, v] 27)) w.heap.size k d v from heap_alloc_new w _) ((Below.refl _ _).alloc (Nat.le_refl _) _), ?_, ((Below.refl _ _).alloc (Nat.le_refl _) _).alloc (by simp) _⟩
  have := heap_alloc_new (w.alloc (.cells #[.int .u8 k, .int .u8 d, v] 27)) (.cells #[.int .u16 a0, .int .u16 a1] 44)
  rw [World.size_alloc] at this
  exact this
end Go.Proofs.YtnbiedijofdjhaaDoor
namespace Go.Proofs.YtnbiedijofdjhaaDoor
open Go.RowKit
open Pl

theorem print_len9 {m : Int} {rs : List Rl} (h : validB m 1 rs = true) (hl : rs.length ≤ 10) : (printS m 1 rs).length ≤ 1000 := by
  obtain ⟨hm1, hm8, -, -, hr⟩ := valid_ok h
  have h1 := rules_len m hm8 rs (fun k hk => (hr k hk).1)
  have h2 := headS_len (modes := m) (acc := 1) (by omega) hm8 (by decide) (by decide)
  unfold printS
  rw [List.length_append]; omega
set_option maxHeartbeats 4000000 in
set_option maxRecDepth 100000 in
theorem Parses_any (k d a0 a1 m : Int) (pt : List UInt8) (ma : Option Addr) (mn mc : Nat) (w : World) (hT : StrTab w) (hP : PowTab w) (hm : MaxVar w m) (h0 : 0 < w.heap.size) (hg : 2 < w.heap.size)
    (hk : 0 ≤ k ∧ k ≤ 255) (hd : 0 ≤ d ∧ d ≤ 255) (hx : RawsAt w w.heap.size (.slice ma mn mc) mn) (hl : mn ≤ maxLen) (ha0 : 0 ≤ a0 ∧ a0 ≤ 65535) (ha1 : 0 ≤ a1 ∧ a1 ≤ 65535) (hpt : pt.length ≤ 300) :
    Calls Tryd.prog 5 #[.agg #[.int .u8 k, .int .u8 d, .slice ma mn mc], .string (B pt), .agg #[.int .u16 a0, .int .u16 a1]] w fun e w' => e = .returned (.bool true) ∧ Below w.heap.size w w' := by
  obtain ⟨k0, k1, hb⟩ := layP w k d (.slice ma mn mc) a0 a1
  have HT := Lib.hid hT
  have HP := Lib.hid hP
  have HM := Lib.hid hm
  have H0 := Lib.hid h0
  have HG := Lib.hid hg
  have HX := Lib.hid hx
  have HL := Lib.hid hl
  have HB1 := Lib.hid hb
  have RW1 := Lib.hid k0
  have PR1 := Lib.hid k1
  have CS := fun W (hb : Below w.heap.size w W) => Lib.hid (sanity_any m W (hT.below hb h0) (hP.below hb) (hm.below hg hb) (Nat.lt_of_lt_of_le h0 hb.size) (Nat.lt_of_lt_of_le hg hb.size))
  have hp3 : ¬ (300 : Int) < ((B pt).size : Int) := by rw [size_B]; omega
  clear hT hP hm h0 hg hx hl hb k0 k1
  go_enter Tryd.func5, Tryd.ntmps5
  go_wp2_with fail
  generalize (w.alloc _).alloc _ = x1 at *
  refine ((CS x1 HB1.out).out).mono ?_
  rintro e x2 ⟨rfl, hb⟩
  have HB2 := Lib.hid (HB1.out.trans (hb.mono HB1.out.size))
  have PR2 := Lib.hid (PR1.out.below hb)
  obtain ⟨r0, r1, r2⟩ := (RW1.out.below hb).cells
  clear hb HB1 RW1 PR1 CS
  go_wp2_with fail
  refine (Made_any k d ma mn mc x2 hk hd (HX.out.on HB2.out) HL.out).mono ?_
  rintro e x3 ⟨⟨mm, b0, off, c, rs, rfl, hf, hv, -, hl9, hm1, hm2⟩, hb⟩
  have HB3 := Lib.hid (HB2.out.trans (hb.mono HB2.out.size))
  have PR3 := Lib.hid (PR2.out.below hb)
  have CP := Lib.hid (RPrint_any mm 1 (some ⟨b0, off, none⟩) c rs x3 hf.at.2 (by unfold maxLen; omega) (short_rules hv) (by decide) (by decide) hv)
  have hpl := print_len9 hv (by omega)
  clear hb HB2 PR2 r0 r1 r2 hf hv
  go_wp2_with fail
  refine (CP.out).mono ?_
  rintro e x4 ⟨rfl, hb⟩
  have HB4 := Lib.hid (HB3.out.trans (hb.mono HB3.out.size))
  have PR4 := Lib.hid (PR3.out.below hb)
  clear hb HB3 PR3 CP
  generalize printS mm 1 rs = pl at *
  obtain ⟨q0, q1⟩ := PR4.out.cells
  have hsz := size_B pl
  have hszp := size_B pt
  have hwa0 : IntKind.i64.wrap a0 = a0 := IntWalk.i64_in _ (by omega)
  have hwl : IntKind.i64.wrap (((B pl).size : Int) + 1) = ((B pl).size : Int) + 1 := IntWalk.i64_in _ (by omega)
  have hnz : ¬ (((B pl).size : Int) + 1 = 0) := by omega
  obtain ⟨i, hi⟩ : ∃ i : Nat, (i : Int) = a0 % (((B pl).size : Int) + 1) := ⟨(a0 % (((B pl).size : Int) + 1)).toNat, by have := Int.emod_nonneg a0 (show ((B pl).size : Int) + 1 ≠ 0 by omega); omega⟩
  have hil : (i : Int) < ((B pl).size : Int) + 1 := by rw [hi]; exact Int.emod_lt_of_pos _ (by omega)
  have htm : a0.tmod (((B pl).size : Int) + 1) = (i : Int) := by rw [Int.tmod_eq_emod_of_nonneg ha0.1, hi]
  have hwi : IntKind.i64.wrap (i : Int) = (i : Int) := IntWalk.i64_in _ (by omega)
  obtain ⟨b, hbq⟩ : ∃ b : Nat, (b : Int) = a1 % 12 := ⟨(a1 % 12).toNat, by omega⟩
  have htm2 : a1.tmod 12 = (b : Int) := by rw [Int.tmod_eq_emod_of_nonneg ha1.1, hbq]
  have hb12 : b < 12 := by omega
  have hwb : IntKind.u16.wrap (b : Int) = (b : Int) := by rw [IntKind.wrap_u16]; omega
  have hwb2 : IntKind.i64.wrap (b : Int) = (b : Int) := IntWalk.i64_in _ (by omega)
  have hwib : IntKind.i64.wrap ((i : Int) + (b : Int)) = (i : Int) + (b : Int) := IntWalk.i64_in _ (by omega)
  obtain ⟨j, hj⟩ : ∃ j : Nat, (j : Int) = min ((i : Int) + (b : Int)) ((B pl).size : Int) := ⟨min (i + b) (B pl).size, by omega⟩
  have hmin : min ((i : Int) + (b : Int)) ((B pl).size : Int) = (j : Int) := hj.symm
  have hjl : (j : Int) ≤ ((B pl).size : Int) := by omega
  have hij : (i : Int) ≤ (j : Int) := by omega
  have hi0 : (0 : Int) ≤ (i : Int) := by omega
  have hil2 : (i : Int) ≤ ((B pl).size : Int) := by omega
  have hj0 : (0 : Int) ≤ (j : Int) := by omega
  have HSZ := Lib.hid hsz
  have HSP := Lib.hid hszp
  clear hi hbq hj hsz hszp
  go_upto_region 7 with fail
  have z1 : ((B pl).extract 0 i).size ≤ 1000 := by rw [ByteArray.size_extract]; have := HSZ.out; omega
  have z2 : ((B pl).extract j (B pl).size).size ≤ 1000 := by rw [ByteArray.size_extract]; have := HSZ.out; omega
  have z3 : (B pt).size ≤ 300 := by rw [HSP.out]; exact hpt
  have z0 : (B pl).size ≤ 1000 := by have := HSZ.out; omega
  have z4 : ¬ 9223372036854775807 < min i (B pl).size + (B pt).size := by omega
  have z5 : ¬ 9223372036854775807 < min i (B pl).size + (B pt).size + ((B pl).size - j) := by omega
  refine wp_normal ?_
  refine wp_region_hoist (C := fun _ => True) 10 10 (by kernel_rfl) (by kernel_rfl) trivial (fun _ _ _ _ _ h => by cases h.1) ?_
  simp only [List.take_succ_cons, List.take_zero, List.drop_succ_cons, List.drop_zero]
  repeat (refine wpHoist_step ?_; intro K hK; refine ⟨?_, fun W h => ?_, ?_⟩; rotate_left; (· go_simp; rfl); go_simp; go_big_quiet_on)
  refine wpHoist_nil ?_
  refine wpListC_rest _ _ _ _ (fun j hj => decide_eq_true hj) (by simp) ?_
  obtain ⟨xl, hxl, hxl2⟩ : ∃ xl : List UInt8, (B pl).extract 0 i ++ B pt ++ (B pl).extract j (B pl).size = B xl ∧ xl.length ≤ 3000 := ⟨((B pl).extract 0 i ++ B pt ++ (B pl).extract j (B pl).size).data.toList, (B_toList _).symm, by rw [length_toList, ByteArray.size_append, ByteArray.size_append]; omega⟩
  rw [hxl]
  have HB5 := Lib.hid (show Below w.heap.size w x4.drew from HB4.out.drew)
  clear hxl HB4 PR4 q0 q1 z0 z1 z2 z3 z4 z5 HSZ HSP hwa0 hwl hnz hil htm hwi htm2 hb12 hwb hwb2 hwib hmin hjl hij hi0 hil2 hj0 ha0 ha1 HX HL
  generalize x4.drew = x5 at *
  have al := (Below.refl x5.heap.size x5).alloc (Nat.le_refl _) (.cells #[.string (B pt), .string (B xl)] 9)
  have HB6 := Lib.hid (HB5.out.trans (al.mono HB5.out.size))
  have TX := Lib.hid (show ∀ q, q < 2 → ∃ tl : List UInt8, tl.length ≤ 3000 ∧ (x5.alloc (.cells #[.string (B pt), .string (B xl)] 9)).cell? ⟨x5.heap.size, q, none⟩ = some (.string (B tl)) from fun q hq => by
    rcases (show q = 0 ∨ q = 1 by omega) with rfl | rfl
    · exact ⟨pt, by omega, by rw [cell_new]; rfl⟩
    · exact ⟨xl, hxl2, by rw [cell_new]; rfl⟩)
  have hG0 : x5.heap.size < (x5.alloc (.cells #[.string (B pt), .string (B xl)] 9)).heap.size := by rw [World.size_alloc]; omega
  clear al HB5 hxl2
  go_wp2_with fail
  generalize x5.alloc _ = x6 at *
  generalize x5.heap.size = G at *
  go_loopw [12] (fun iv wr => ∃ q : Nat, iv = .int .i64 (q : Nat) ∧ q ≤ 2 ∧ Below x6.heap.size x6 wr) (fun iv _ => 2 - (intOf iv).toNat)
  case atStart => exact ⟨0, rfl, Nat.zero_le _, Below.refl _ _⟩
  case round =>
    obtain ⟨q, rfl, hq, hb⟩ := hrel
    have HBR := Lib.hid hb
    clear hb
    by_cases hlt : q < 2
    · have hq0 : (0 : Int) ≤ (q : Int) := by omega
      have hq2 : (q : Int) < 2 := by omega
      obtain ⟨tl, htl, htc⟩ := TX.out q hlt
      obtain ⟨md, mk, n, ce, rl, hout, CPs, CRs⟩ := both_parse tl (by omega)
      have HOUT := Lib.hid hout
      have CPS := Lib.hid CPs
      have CRS := Lib.hid CRs
      have tcr := (HBR.out.cell (p := ⟨G, q, none⟩) hG0).trans htc
      have hGr := Nat.lt_of_lt_of_le hG0 HBR.out.size
      have HTC := Lib.hid htc
      clear hout CPs CRs htc TX
      go_wp2_with fail
      refine (CPS.out m wr (HT.out.below (HB6.out.trans (HBR.out.mono HB6.out.size)) H0.out) (Nat.lt_of_lt_of_le H0.out (HB6.out.trans (HBR.out.mono HB6.out.size)).size) (HM.out.below HG.out (HB6.out.trans (HBR.out.mono HB6.out.size))) (Nat.lt_of_lt_of_le HG.out (HB6.out.trans (HBR.out.mono HB6.out.size)).size)).mono ?_
      rintro e x7 ⟨⟨aa, ca, rfl, hca, hxa⟩, hb7⟩
      have HB7 := Lib.hid hb7
      have HXA := Lib.hid hxa
      have HCA := Lib.hid hca
      clear hb7 hxa hca tcr CPS
      have NB := SchBlock.new x7 (.int .i64 0) (.int .u8 0) (.slice none 0 0)
      have AL := Lib.hid ((Below.refl x7.heap.size x7).alloc (Nat.le_refl _) (.cells #[.int .i64 0, .int .u8 0, .slice none 0 0] 24))
      go_upto_region 12 with (first | (refine wpList_store_sch rfl _ _ rfl _ _ _ _ NB rfl _ _ _ _ _ rfl ?_; intro x9 S13 hg' hs'; clear NB))
      have hbb := AL.out.grown hg' AL.out.size (by simp)
      have HB9 := Lib.hid (HB7.out.trans (hbb.mono HB7.out.size))
      have HXA9 := Lib.hid (HXA.out.on hbb)
      have S13 := Lib.hid S13
      clear hbb hg' hs' AL HB7 HXA
      generalize x7.heap.size = g13 at *
      have tcr := (HB9.out.cell (p := ⟨G, q, none⟩) hGr).trans ((HBR.out.cell (p := ⟨G, q, none⟩) hG0).trans HTC.out)
      go_wp2_with fail
      refine (CRS.out x9).mono ?_
      rintro e x10 ⟨⟨ab, cb, rfl, hcb, hxb⟩, hb10⟩
      have HB10 := Lib.hid (HB9.out.trans (hb10.mono HB9.out.size))
      have HXA10 := Lib.hid (HXA9.out.on hb10)
      have S13b := Lib.hid (S13.out.below hb10)
      have HXB := Lib.hid hxb
      have HCB := Lib.hid hcb
      clear hb10 hxb hcb tcr CRS HB9 HXA9 S13
      have NB := SchBlock.new x10 (.int .i64 0) (.int .u8 0) (.slice none 0 0)
      have AL := Lib.hid ((Below.refl x10.heap.size x10).alloc (Nat.le_refl _) (.cells #[.int .i64 0, .int .u8 0, .slice none 0 0] 24))
      go_upto_region 13 with (first | (refine wpList_store_sch rfl _ _ rfl _ _ _ _ NB rfl _ _ _ _ _ rfl ?_; intro x12 S16 hg' hs'; clear NB))
      have hbb := AL.out.grown hg' AL.out.size (by simp)
      have HB12 := Lib.hid (HB10.out.trans (hbb.mono HB10.out.size))
      have HXA12 := Lib.hid (HXA10.out.on hbb)
      have HXB12 := Lib.hid (HXB.out.on hbb)
      have S13c := Lib.hid (S13b.out.below hbb)
      have S16 := Lib.hid S16
      clear hbb hg' hs' AL HB10 HXA10 HXB S13b
      generalize x10.heap.size = g16 at *
      have FC := Lib.hid (show ∀ W, Below x12.heap.size x12 W → (W.cell? ⟨g13, 0, none⟩ = some (.int .i64 md) ∧ W.cell? ⟨g13, 1, none⟩ = some (.int .u8 mk) ∧ W.cell? ⟨g13, 2, none⟩ = some (.slice aa rl.length ca)) ∧ (W.cell? ⟨g16, 0, none⟩ = some (.int .i64 md) ∧ W.cell? ⟨g16, 1, none⟩ = some (.int .u8 mk) ∧ W.cell? ⟨g16, 2, none⟩ = some (.slice ab rl.length cb)) ∧ W.cell? ⟨G, q, none⟩ = some (.string (B tl)) from fun W h => ⟨(S13c.out.below h).cells, (S16.out.below h).cells, ((HB12.out.trans (h.mono HB12.out.size)).cell (p := ⟨G, q, none⟩) hGr).trans ((HBR.out.cell (p := ⟨G, q, none⟩) hG0).trans HTC.out)⟩)
      have hrl := HOUT.out.1
      have hss : sameB md mk rl md mk rl = true := by unfold sameB; simp
      have C1 : ∀ W, Below x12.heap.size x12 W → Calls Tryd.prog 23 #[.agg #[.int .i64 md, .int .u8 mk, .slice aa rl.length ca], .agg #[.int .i64 md, .int .u8 mk, .slice ab rl.length cb]] W fun e w' => e = .returned (.bool true) ∧ Below x12.heap.size x12 w' := fun W h => (Same_any md mk md mk rl rl aa ab ca cb W (HXA12.out.on h) (HXB12.out.on h) (by unfold maxLen; omega)).mono fun e w' h' => ⟨by rw [← hss]; exact h'.1, h.trans (h'.2.mono h.size)⟩
      have hn1 : (n == n) = true := beq_self_eq_true n
      have ht1 : ((B tl).toList == (B tl).toList) = true := beq_self_eq_true _
      have hcase : (ce = 0 ∧ ∀ W, Below x12.heap.size x12 W → Calls Tryd.prog 20 #[.agg #[.int .i64 md, .int .u8 mk, .slice ab rl.length cb]] W fun e w' => e = .returned (.string (B tl)) ∧ Below x12.heap.size x12 w') ∨ ce = 3 ∨ ce = 20 := by
        rcases HOUT.out.2 with ⟨h1, h2, h3, h4, h5, h6⟩ | h1 | h1
        · refine Or.inl ⟨h1, fun W h => ?_⟩
          have hw := HB6.out.trans ((HBR.out.trans ((HB12.out.trans (h.mono HB12.out.size)).mono HBR.out.size)).mono HB6.out.size)
          have := Print_any md mk ab cb rl W (HT.out.below hw H0.out) (HP.out.below hw) (Nat.lt_of_lt_of_le H0.out hw.size) (HXB12.out.on h) HCB.out (by unfold maxLen; omega) h4 h5.1 h5.2 h6.1 h6.2 h2
          rw [h3] at this
          exact this.mono fun e w' h' => ⟨h'.1, h.trans (h'.2.mono h.size)⟩
        · exact Or.inr (Or.inl h1)
        · exact Or.inr (Or.inr h1)
      clear HOUT hrl hss HXA12 HXB12 S13c S16 HCA HCB
      rcases hcase with ⟨rfl, C2⟩ | rfl | rfl
      · refine wp_normal ?_
        refine wp_region_class (C := fun W => Below x12.heap.size x12 W) (by kernel_rfl) (by kernel_rfl) (Below.refl _ _).drew ?_
        repeat (first | go_big_quiet_skip | (go_big_quiet_want; first | (go_big_quiet_op; go_big_quiet_on) | (refine quiet_value ?_ (fun W h => ?_) ?_; rotate_left; (· obtain ⟨⟨f0, f1, f2⟩, ⟨f3, f4, f5⟩, f6⟩ := FC.out W h; go_simp; rfl); go_simp; go_big_quiet_on) | (refine quiet_call _ _ _ (fun W => ?_) C1 ?_; (· go_simp; done); go_simp; go_big_quiet_on) | (refine quiet_call _ _ _ (fun W => ?_) C2 ?_; (· go_simp; done); go_simp; go_big_quiet_on)))
        refine wpQuiet_nil ?_
        intro x13 hcj
        have HB13 := Lib.hid ((HBR.out.trans (HB12.out.mono HBR.out.size)).trans (Below.mono hcj (by have := HBR.out.size; have := HB12.out.size; omega)))
        clear hcj C1 FC
        go_wp2_with fail
        go_roundw
        case rel => exact ⟨q + 1, by go_num, by omega, HB13.out⟩
        case measure => simp [intOf]; omega
      all_goals
        refine wp_normal ?_
        refine wp_region_class (C := fun W => Below x12.heap.size x12 W) (by kernel_rfl) (by kernel_rfl) (Below.refl _ _).drew ?_
        repeat (first | go_big_quiet_skip | (go_big_quiet_want; first | (go_big_quiet_op; go_big_quiet_on) | (refine quiet_value ?_ (fun W h => ?_) ?_; rotate_left; (· obtain ⟨⟨f0, f1, f2⟩, ⟨f3, f4, f5⟩, f6⟩ := FC.out W h; go_simp; rfl); go_simp; go_big_quiet_on) | (refine quiet_call _ _ _ (fun W => ?_) C1 ?_; (· go_simp; done); go_simp; go_big_quiet_on)))
        refine wpQuiet_nil ?_
        intro x13 hcj
        have HB13 := Lib.hid ((HBR.out.trans (HB12.out.mono HBR.out.size)).trans (Below.mono hcj (by have := HBR.out.size; have := HB12.out.size; omega)))
        clear hcj C1 FC
        go_wp2_with fail
        go_roundw
        case rel => exact ⟨q + 1, by go_num, by omega, HB13.out⟩
        case measure => simp [intOf]; omega
    · have hq2 : ¬ (q : Int) < 2 := by omega
      go_wp2_with fail
      go_ret
      exact ⟨rfl, HB6.out.trans (HBR.out.mono HB6.out.size)⟩
end Go.Proofs.YtnbiedijofdjhaaDoor
namespace Go.Proofs.YtnbiedijofdjhaaDoor
open Go.RowKit
open Pl

set_option maxHeartbeats 1000000 in
set_option maxRecDepth 100000 in
theorem Parses_long (k d a0 a1 m : Int) (s : ByteArray) (ma : Option Addr) (mn mc : Nat) (w : World) (hT : StrTab w) (hP : PowTab w) (hm : MaxVar w m) (h0 : 0 < w.heap.size) (hg : 2 < w.heap.size) (hpt : 300 < s.size) :
    Calls Tryd.prog 5 #[.agg #[.int .u8 k, .int .u8 d, .slice ma mn mc], .string s, .agg #[.int .u16 a0, .int .u16 a1]] w fun e w' => e = .returned (.bool true) ∧ Below w.heap.size w w' := by
  obtain ⟨-, -, hb⟩ := layP w k d (.slice ma mn mc) a0 a1
  have HB1 := Lib.hid hb
  have CS := fun W (hb : Below w.heap.size w W) => Lib.hid (sanity_any m W (hT.below hb h0) (hP.below hb) (hm.below hg hb) (Nat.lt_of_lt_of_le h0 hb.size) (Nat.lt_of_lt_of_le hg hb.size))
  have hp3 : (300 : Int) < (s.size : Int) := by omega
  clear hT hP hm h0 hg hb
  go_enter Tryd.func5, Tryd.ntmps5
  go_wp2_with fail
  generalize (w.alloc _).alloc _ = x1 at *
  refine ((CS x1 HB1.out).out).mono ?_
  rintro e x2 ⟨rfl, hb⟩
  have HB2 := Lib.hid (HB1.out.trans (hb.mono HB1.out.size))
  clear hb HB1 CS
  go_wp2_with fail
  go_ret
  exact ⟨rfl, HB2.out⟩
theorem parses_any (o : Int × Int × Option Addr × Nat × Nat) (s : ByteArray) (a : Int × Int) (m : Int) (w : World) (hT : StrTab w) (hP : PowTab w) (hm : MaxVar w m) (h0 : 0 < w.heap.size) (hg : 2 < w.heap.size)
    (ho : (0 ≤ o.1 ∧ o.1 ≤ 255) ∧ (0 ≤ o.2.1 ∧ o.2.1 ≤ 255) ∧ o.2.2.2.1 ≤ maxLen ∧ RawsAt w w.heap.size (.slice o.2.2.1 o.2.2.2.1 o.2.2.2.2) o.2.2.2.1) (_ : s.size ≤ maxLen) (ha : (0 ≤ a.1 ∧ a.1 ≤ 65535) ∧ (0 ≤ a.2 ∧ a.2 ≤ 65535)) :
    Calls Tryd.prog 5 #[.agg #[.int .u8 o.1, .int .u8 o.2.1, .slice o.2.2.1 o.2.2.2.1 o.2.2.2.2], .string s, .agg #[.int .u16 a.1, .int .u16 a.2]] w fun e w' => e = .returned (.bool true) ∧ Below w.heap.size w w' := by
  rcases Nat.lt_or_ge 300 s.size with h1 | h1
  · exact Parses_long o.1 o.2.1 a.1 a.2 m s o.2.2.1 o.2.2.2.1 o.2.2.2.2 w hT hP hm h0 hg h1
  · have := Parses_any o.1 o.2.1 a.1 a.2 m s.data.toList o.2.2.1 o.2.2.2.1 o.2.2.2.2 w hT hP hm h0 hg ho.1 ho.2.1 ho.2.2.2 ho.2.2.1 ha.1 ha.2 (by rw [length_toList]; exact h1)
    rwa [B_toList] at this
end Go.Proofs.YtnbiedijofdjhaaDoor
