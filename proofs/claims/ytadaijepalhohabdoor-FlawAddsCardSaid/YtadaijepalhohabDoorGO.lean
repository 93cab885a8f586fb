/-
  The law's own examples: sanity answers true.
-/
import Derived.Test.YtadaijepalhohabDoorGN
namespace Go.Proofs.YtadaijepalhohabDoor
open Go.RowKit
open Pl

theorem h0_of {W W' : World} {n : Nat} (h : n < W.heap.size) (hb : Below W.heap.size W W') : n < W'.heap.size := Nat.lt_of_lt_of_le h hb.size
theorem small_all : ∀ S ∈ [rsA, rsB, rsC, rsD, []], S.length ≤ 100 ∧ ∀ x ∈ S, x.inp.length ≤ maxLen ∧ x.out.length ≤ maxLen := by
  have h : [rsA, rsB, rsC, rsD, ([] : List Rl)].all (fun S => decide (S.length ≤ 100) && S.all fun x => decide (x.inp.length ≤ 100) && decide (x.out.length ≤ 100)) = true := by decide
  intro S hS
  have h1 := List.all_eq_true.1 h S hS
  rw [Bool.and_eq_true] at h1
  refine ⟨of_decide_eq_true h1.1, fun x hx => ?_⟩
  have h2 := List.all_eq_true.1 h1.2 x hx
  rw [Bool.and_eq_true] at h2
  have h3 := of_decide_eq_true h2.1
  have h4 := of_decide_eq_true h2.2
  unfold maxLen
  omega
/-- Where the five schemes lie. -/
structure SanW (w : World) (gA gB gC gD sA sB sC sD : Nat) (W : World) : Prop where
  t : StrTab W
  z : 0 < W.heap.size
  a : SchBlock W gA (.int .i64 2) (.int .u8 1) (.slice (some ⟨sA, 0, none⟩) 2 2)
  b : SchBlock W gB (.int .i64 2) (.int .u8 1) (.slice (some ⟨sB, 0, none⟩) 3 3)
  c : SchBlock W gC (.int .i64 2) (.int .u8 1) (.slice (some ⟨sC, 0, none⟩) 2 2)
  d : SchBlock W gD (.int .i64 2) (.int .u8 2) (.slice (some ⟨sD, 0, none⟩) 1 1)
  ra : RlsAt W W.heap.size (.slice (some ⟨sA, 0, none⟩) 2 2) rsA
  rb : RlsAt W W.heap.size (.slice (some ⟨sB, 0, none⟩) 3 3) rsB
  rc : RlsAt W W.heap.size (.slice (some ⟨sC, 0, none⟩) 2 2) rsC
  rd : RlsAt W W.heap.size (.slice (some ⟨sD, 0, none⟩) 1 1) rsD
  w : Below w.heap.size w W
theorem SanW.on {w W W' : World} {gA gB gC gD sA sB sC sD : Nat} (h : SanW w gA gB gC gD sA sB sC sD W) (hb : Below W.heap.size W W') : SanW w gA gB gC gD sA sB sC sD W' :=
  ⟨h.t.below hb h.z, h0_of h.z hb, h.a.below hb, h.b.below hb, h.c.below hb, h.d.below hb, h.ra.on hb, h.rb.on hb, h.rc.on hb, h.rd.on hb, h.w.trans (hb.mono h.w.size)⟩
set_option maxHeartbeats 4000000 in
set_option maxRecDepth 100000 in
theorem San_any (w : World) (hT : StrTab w) (h0 : 0 < w.heap.size) : Calls Tryd.prog 4 #[] w fun e w' => e = .returned (.bool true) ∧ Below w.heap.size w w' := by
  have HT0 := Lib.hid hT
  have H00 := Lib.hid h0
  have HB0 := Lib.hid (Below.refl w.heap.size w)
  clear hT h0
  go_enter Tryd.func4, Tryd.ntmps4
  go_wp2_with fail
  have hA := rls_new w rsA #[.int .i64 0, .int .i64 0, .string ⟨#[97]⟩, .string ⟨#[]⟩, .int .i64 0, .int .i64 0, .int .i64 1, .string ⟨#[98]⟩, .string ⟨#[]⟩, .int .i64 0] rfl
  have al := (Below.refl w.heap.size w).alloc (Nat.le_refl _) (.cells #[.int .i64 0, .int .i64 0, .string ⟨#[97]⟩, .string ⟨#[]⟩, .int .i64 0, .int .i64 0, .int .i64 1, .string ⟨#[98]⟩, .string ⟨#[]⟩, .int .i64 0] 31)
  have hsl : w.heap.size < (w.alloc (.cells #[.int .i64 0, .int .i64 0, .string ⟨#[97]⟩, .string ⟨#[]⟩, .int .i64 0, .int .i64 0, .int .i64 1, .string ⟨#[98]⟩, .string ⟨#[]⟩, .int .i64 0] 31)).heap.size := by rw [World.size_alloc]; omega
  have HR1 := Lib.hid (show RlsAt _ _ (.slice (some ⟨w.heap.size, 0, none⟩) 2 2) rsA from hA)
  have HAL := Lib.hid al
  clear hA al
  generalize w.alloc _ = y0 at *
  refine (Two_any _ _ _ y0).mono ?_
  rintro e z0 ⟨rfl, hb⟩
  have NB := SchBlock.new z0 (.int .i64 0) (.int .u8 0) (.slice none 0 0)
  have AL := Lib.hid (hb.alloc hb.size (.cells #[.int .i64 0, .int .u8 0, .slice none 0 0] 28))
  have hzz := hb.size
  clear hb
  go_upto_region 2 with (first | (refine wpList_store_sch rfl _ _ rfl _ _ _ _ NB rfl 2 1 (some ⟨w.heap.size, 0, none⟩) 2 2 rfl ?_; intro W0 SB hg' hs'; clear NB))
  have hbb := AL.out.grown hg' AL.out.size (by simp; omega)
  have hal2 : Below w.heap.size w W0 := HAL.out.trans (hbb.mono HAL.out.size)
  have HRRA := Lib.hid (HR1.out.on hbb)
  have HSBA := Lib.hid SB
  have HB1 := Lib.hid (HB0.out.trans (hal2.mono HB0.out.size))
  have HT1 := Lib.hid (HT0.out.below hal2 H00.out)
  have H01 := Lib.hid (h0_of H00.out hal2)
  clear HB0 HT0 H00 hal2 hbb hg' hs' SB AL HR1 HAL hsl hzz
  go_wp2_with fail
  have hA := rls_new W0 rsB #[.int .i64 0, .int .i64 1, .string ⟨#[97]⟩, .string ⟨#[]⟩, .int .i64 0, .int .i64 1, .int .i64 0, .string ⟨#[]⟩, .string ⟨#[]⟩, .int .i64 0, .int .i64 1, .int .i64 1, .string ⟨#[]⟩, .string ⟨#[]⟩, .int .i64 0] rfl
  have al := (Below.refl W0.heap.size W0).alloc (Nat.le_refl _) (.cells #[.int .i64 0, .int .i64 1, .string ⟨#[97]⟩, .string ⟨#[]⟩, .int .i64 0, .int .i64 1, .int .i64 0, .string ⟨#[]⟩, .string ⟨#[]⟩, .int .i64 0, .int .i64 1, .int .i64 1, .string ⟨#[]⟩, .string ⟨#[]⟩, .int .i64 0] 31)
  have hsl : W0.heap.size < (W0.alloc (.cells #[.int .i64 0, .int .i64 1, .string ⟨#[97]⟩, .string ⟨#[]⟩, .int .i64 0, .int .i64 1, .int .i64 0, .string ⟨#[]⟩, .string ⟨#[]⟩, .int .i64 0, .int .i64 1, .int .i64 1, .string ⟨#[]⟩, .string ⟨#[]⟩, .int .i64 0] 31)).heap.size := by rw [World.size_alloc]; omega
  have HR1 := Lib.hid (show RlsAt _ _ (.slice (some ⟨W0.heap.size, 0, none⟩) 3 3) rsB from hA)
  have HAL := Lib.hid al
  clear hA al
  generalize W0.alloc _ = y1 at *
  refine (Two_any _ _ _ y1).mono ?_
  rintro e z1 ⟨rfl, hb⟩
  have NB := SchBlock.new z1 (.int .i64 0) (.int .u8 0) (.slice none 0 0)
  have AL := Lib.hid (hb.alloc hb.size (.cells #[.int .i64 0, .int .u8 0, .slice none 0 0] 28))
  have hzz := hb.size
  clear hb
  go_upto_region 3 with (first | (refine wpList_store_sch rfl _ _ rfl _ _ _ _ NB rfl 2 1 (some ⟨W0.heap.size, 0, none⟩) 3 3 rfl ?_; intro W1 SB hg' hs'; clear NB))
  have hbb := AL.out.grown hg' AL.out.size (by simp; omega)
  have hal2 : Below W0.heap.size W0 W1 := HAL.out.trans (hbb.mono HAL.out.size)
  have HRRB := Lib.hid (HR1.out.on hbb)
  have HSBB := Lib.hid SB
  have HRRA1 := Lib.hid (HRRA.out.on hal2)
  have HSBA1 := Lib.hid (HSBA.out.below hal2)
  clear HRRA HSBA
  have HRRA := HRRA1
  have HSBA := HSBA1
  clear HRRA1 HSBA1
  have HB2 := Lib.hid (HB1.out.trans (hal2.mono HB1.out.size))
  have HT2 := Lib.hid (HT1.out.below hal2 H01.out)
  have H02 := Lib.hid (h0_of H01.out hal2)
  clear HB1 HT1 H01 hal2 hbb hg' hs' SB AL HR1 HAL hsl hzz
  go_wp2_with fail
  have hA := rls_new W1 rsC #[.int .i64 0, .int .i64 0, .string ⟨#[97]⟩, .string ⟨#[]⟩, .int .i64 0, .int .i64 1, .int .i64 0, .string ⟨#[98]⟩, .string ⟨#[]⟩, .int .i64 0] rfl
  have al := (Below.refl W1.heap.size W1).alloc (Nat.le_refl _) (.cells #[.int .i64 0, .int .i64 0, .string ⟨#[97]⟩, .string ⟨#[]⟩, .int .i64 0, .int .i64 1, .int .i64 0, .string ⟨#[98]⟩, .string ⟨#[]⟩, .int .i64 0] 31)
  have hsl : W1.heap.size < (W1.alloc (.cells #[.int .i64 0, .int .i64 0, .string ⟨#[97]⟩, .string ⟨#[]⟩, .int .i64 0, .int .i64 1, .int .i64 0, .string ⟨#[98]⟩, .string ⟨#[]⟩, .int .i64 0] 31)).heap.size := by rw [World.size_alloc]; omega
  have HR1 := Lib.hid (show RlsAt _ _ (.slice (some ⟨W1.heap.size, 0, none⟩) 2 2) rsC from hA)
  have HAL := Lib.hid al
  clear hA al
  generalize W1.alloc _ = y2 at *
  refine (Two_any _ _ _ y2).mono ?_
  rintro e z2 ⟨rfl, hb⟩
  have NB := SchBlock.new z2 (.int .i64 0) (.int .u8 0) (.slice none 0 0)
  have AL := Lib.hid (hb.alloc hb.size (.cells #[.int .i64 0, .int .u8 0, .slice none 0 0] 28))
  have hzz := hb.size
  clear hb
  go_upto_region 4 with (first | (refine wpList_store_sch rfl _ _ rfl _ _ _ _ NB rfl 2 1 (some ⟨W1.heap.size, 0, none⟩) 2 2 rfl ?_; intro W2 SB hg' hs'; clear NB))
  have hbb := AL.out.grown hg' AL.out.size (by simp; omega)
  have hal2 : Below W1.heap.size W1 W2 := HAL.out.trans (hbb.mono HAL.out.size)
  have HRRC := Lib.hid (HR1.out.on hbb)
  have HSBC := Lib.hid SB
  have HRRA2 := Lib.hid (HRRA.out.on hal2)
  have HSBA2 := Lib.hid (HSBA.out.below hal2)
  clear HRRA HSBA
  have HRRA := HRRA2
  have HSBA := HSBA2
  clear HRRA2 HSBA2
  have HRRB2 := Lib.hid (HRRB.out.on hal2)
  have HSBB2 := Lib.hid (HSBB.out.below hal2)
  clear HRRB HSBB
  have HRRB := HRRB2
  have HSBB := HSBB2
  clear HRRB2 HSBB2
  have HB3 := Lib.hid (HB2.out.trans (hal2.mono HB2.out.size))
  have HT3 := Lib.hid (HT2.out.below hal2 H02.out)
  have H03 := Lib.hid (h0_of H02.out hal2)
  clear HB2 HT2 H02 hal2 hbb hg' hs' SB AL HR1 HAL hsl hzz
  have hA := rls_new W2 rsD #[.int .i64 0, .int .i64 0, .string ⟨#[97]⟩, .string ⟨#[]⟩, .int .i64 0] rfl
  have al := (Below.refl W2.heap.size W2).alloc (Nat.le_refl _) (.cells #[.int .i64 0, .int .i64 0, .string ⟨#[97]⟩, .string ⟨#[]⟩, .int .i64 0] 31)
  have hsz : (W2.alloc (.cells #[.int .i64 0, .int .i64 0, .string ⟨#[97]⟩, .string ⟨#[]⟩, .int .i64 0] 31)).heap.size = W2.heap.size + 1 := World.size_alloc _ _
  have NB := SchBlock.new (W2.alloc (.cells #[.int .i64 0, .int .i64 0, .string ⟨#[97]⟩, .string ⟨#[]⟩, .int .i64 0] 31)) (.int .i64 0) (.int .u8 0) (.slice none 0 0)
  rw [hsz] at NB
  have AL := Lib.hid ((Below.refl (W2.alloc (.cells #[.int .i64 0, .int .i64 0, .string ⟨#[97]⟩, .string ⟨#[]⟩, .int .i64 0] 31)).heap.size (W2.alloc (.cells #[.int .i64 0, .int .i64 0, .string ⟨#[97]⟩, .string ⟨#[]⟩, .int .i64 0] 31))).alloc (Nat.le_refl _) (.cells #[.int .i64 0, .int .u8 0, .slice none 0 0] 28))
  have HR1 := Lib.hid (show RlsAt _ _ (.slice (some ⟨W2.heap.size, 0, none⟩) 1 1) rsD from hA)
  have HAL := Lib.hid al
  have HSZ := Lib.hid hsz
  clear hA al hsz
  go_upto_region 5 with (first | (refine wpList_store_sch rfl _ _ rfl _ _ _ _ NB rfl 2 2 (some ⟨W2.heap.size, 0, none⟩) 1 1 rfl ?_; intro W3 SB hg' hs'; clear NB))
  have hbb := AL.out.grown hg' AL.out.size (by have := HSZ.out; simp at this ⊢)
  have hal2 : Below W2.heap.size W2 W3 := HAL.out.trans (hbb.mono HAL.out.size)
  have K0 := Lib.hid (show SanW w z0.heap.size z1.heap.size z2.heap.size (W2.heap.size + 1) w.heap.size W0.heap.size W1.heap.size W2.heap.size W3 from
    ⟨HT3.out.below hal2 H03.out, h0_of H03.out hal2, HSBA.out.below hal2, HSBB.out.below hal2, HSBC.out.below hal2, SB, HRRA.out.on hal2, HRRB.out.on hal2, HRRC.out.on hal2, HR1.out.on hbb, HB3.out.trans (hal2.mono HB3.out.size)⟩)
  clear HT3 H03 HSBA HSBB HSBC HRRA HRRB HRRC HB3 hal2 hbb hg' hs' SB AL HR1 HAL HSZ
  have CF := fun (m acc : Nat) (a : Option Addr) (c : Nat) (rs : List Rl) (W : World) (h1 : SanW w z0.heap.size z1.heap.size z2.heap.size (W2.heap.size + 1) w.heap.size W0.heap.size W1.heap.size W2.heap.size W) (h2 : m ≤ 1000) (h3 : acc < 256) (h4 : RlsAt W W.heap.size (.slice a rs.length c) rs) (h5 : rs.length ≤ c) (h6 : rs ∈ [rsA, rsB, rsC, rsD, []]) => Find_any m acc a c rs W h1.t h1.z h2 h3 h4 h5 (by have := (small_all rs h6).1; omega) (small_all rs h6).2
  have CS := fun (m acc : Nat) (a : Option Addr) (c : Nat) (rs : List Rl) (W : World) (h1 : SanW w z0.heap.size z1.heap.size z2.heap.size (W2.heap.size + 1) w.heap.size W0.heap.size W1.heap.size W2.heap.size W) (h2 : m ≤ 1000) (h3 : acc < 256) (h4 : RlsAt W W.heap.size (.slice a rs.length c) rs) (h5 : rs.length ≤ c) (h6 : rs ∈ [rsA, rsB, rsC, rsD, []]) => Sound_any m acc a c rs W h1.t h1.z h2 h3 h4 h5 (by have := (small_all rs h6).1; omega) (small_all rs h6).2
  obtain ⟨q0, q1, q2⟩ := K0.out.a.cells
  go_wp2_with fail
  refine (CF 2 1 (some ⟨w.heap.size, 0, none⟩) 2 rsA _ K0.out (by decide) (by decide) K0.out.ra (by decide) (by simp)).mono ?_
  rintro e v0 ⟨r0, rfl, hr, hb⟩
  have K1 := Lib.hid (K0.out.on hb)
  rw [repA] at hr
  have HR := Lib.hid hr
  clear hr hb K0 q0 q1 q2
  go_wp2_with fail
  have b0 := Below.refl v0.heap.size v0
  have n0 := nums_new (v0) [1] #[.int .i64 1] rfl
  have b1 := b0.alloc b0.size (.cells #[.int .i64 1] 3)
  have n1 := nums_new ((v0).alloc (.cells #[.int .i64 1] 3)) [1] #[.int .i64 1] rfl
  have b2 := b1.alloc b1.size (.cells #[.int .i64 1] 3)
  have n0' := n0.on ((Below.refl _ _).alloc (Nat.le_refl _) (.cells #[.int .i64 1] 3))
  clear n0
  have n0 := n0'
  clear n0'
  have N0 := Lib.hid n0
  have N1 := Lib.hid n1
  have K2 := Lib.hid (K1.out.on b2)
  have HRX := Lib.hid (HR.out.on b2)
  clear K1 HR b0 b1 b2 n0 n1
  have E0 := Lib.hid N0.out
  clear N0
  have E1 := Lib.hid N1.out
  clear N1
  have hze := World.size_alloc v0 (.cells #[.int .i64 1] 3)
  have EE := Lib.hid (show NumsAt _ _ (.slice (some ⟨v0.heap.size + 1, 0, none⟩) 1 1) [1] by rw [← hze]; exact E1.out)
  clear hze E1
  have E1 := EE
  clear EE
  refine (FSame_any ⟨[1], [1], []⟩ ⟨[1], [1], []⟩ r0 (.agg #[.slice (some ⟨v0.heap.size, 0, none⟩) 1 1, .slice (some ⟨v0.heap.size + 1, 0, none⟩) 1 1, .slice none 0 0]) _ HRX.out ⟨some ⟨v0.heap.size, 0, none⟩, some ⟨v0.heap.size + 1, 0, none⟩, none, 1, 1, 0, rfl, E0.out, E1.out, nums_none _⟩ (by decide) (by decide) (by decide)).mono ?_
  rintro e u2 ⟨rfl, hb⟩
  rw [sameR_self]
  have K3 := Lib.hid (K2.out.on hb)
  clear hb K2 HRX E0 E1
  obtain ⟨q0, q1, q2⟩ := K3.out.b.cells
  go_wp2_with fail
  refine (CF 2 1 (some ⟨W0.heap.size, 0, none⟩) 3 rsB _ K3.out (by decide) (by decide) K3.out.rb (by decide) (by simp)).mono ?_
  rintro e v3 ⟨r3, rfl, hr, hb⟩
  have K4 := Lib.hid (K3.out.on hb)
  rw [repB] at hr
  have HR := Lib.hid hr
  clear hr hb K3 q0 q1 q2
  go_wp2_with fail
  have b0 := Below.refl v3.heap.size v3
  have n2 := nums_new (v3) [2] #[.int .i64 2] rfl
  have b1 := b0.alloc b0.size (.cells #[.int .i64 2] 3)
  have N2 := Lib.hid n2
  have K5 := Lib.hid (K4.out.on b1)
  have HRX := Lib.hid (HR.out.on b1)
  clear K4 HR b0 b1 n2
  have E2 := Lib.hid N2.out
  clear N2
  refine (FSame_any ⟨[], [], [2]⟩ ⟨[], [], [2]⟩ r3 (.agg #[.slice none 0 0, .slice none 0 0, .slice (some ⟨v3.heap.size, 0, none⟩) 1 1]) _ HRX.out ⟨none, none, some ⟨v3.heap.size, 0, none⟩, 0, 0, 1, rfl, nums_none _, nums_none _, E2.out⟩ (by decide) (by decide) (by decide)).mono ?_
  rintro e u5 ⟨rfl, hb⟩
  rw [sameR_self]
  have K6 := Lib.hid (K5.out.on hb)
  clear hb K5 HRX E2
  obtain ⟨q0, q1, q2⟩ := K6.out.c.cells
  go_wp2_with fail
  refine (CF 2 1 (some ⟨W1.heap.size, 0, none⟩) 2 rsC _ K6.out (by decide) (by decide) K6.out.rc (by decide) (by simp)).mono ?_
  rintro e v6 ⟨r6, rfl, hr, hb⟩
  have K7 := Lib.hid (K6.out.on hb)
  rw [repCc] at hr
  have HR := Lib.hid hr
  clear hr hb K6 q0 q1 q2
  go_wp2_with fail
  have b0 := Below.refl v6.heap.size v6
  have n0 := nums_new (v6) [1] #[.int .i64 1] rfl
  have b1 := b0.alloc b0.size (.cells #[.int .i64 1] 3)
  have N0 := Lib.hid n0
  have K8 := Lib.hid (K7.out.on b1)
  have HRX := Lib.hid (HR.out.on b1)
  clear K7 HR b0 b1 n0
  have E0 := Lib.hid N0.out
  clear N0
  refine (FSame_any ⟨[1], [], []⟩ ⟨[1], [], []⟩ r6 (.agg #[.slice (some ⟨v6.heap.size, 0, none⟩) 1 1, .slice none 0 0, .slice none 0 0]) _ HRX.out ⟨some ⟨v6.heap.size, 0, none⟩, none, none, 1, 0, 0, rfl, E0.out, nums_none _, nums_none _⟩ (by decide) (by decide) (by decide)).mono ?_
  rintro e u8 ⟨rfl, hb⟩
  rw [sameR_self]
  have K9 := Lib.hid (K8.out.on hb)
  clear hb K8 HRX E0
  obtain ⟨q0, q1, q2⟩ := K9.out.d.cells
  go_wp2_with fail
  refine (CF 2 2 (some ⟨W2.heap.size, 0, none⟩) 1 rsD _ K9.out (by decide) (by decide) K9.out.rd (by decide) (by simp)).mono ?_
  rintro e v9 ⟨r9, rfl, hr, hb⟩
  have K10 := Lib.hid (K9.out.on hb)
  rw [repD] at hr
  have HR := Lib.hid hr
  clear hr hb K9 q0 q1 q2
  go_wp2_with fail
  have b0 := Below.refl v9.heap.size v9
  have n0 := nums_new (v9) [0] #[.int .i64 0] rfl
  have b1 := b0.alloc b0.size (.cells #[.int .i64 0] 3)
  have N0 := Lib.hid n0
  have K11 := Lib.hid (K10.out.on b1)
  have HRX := Lib.hid (HR.out.on b1)
  clear K10 HR b0 b1 n0
  have E0 := Lib.hid N0.out
  clear N0
  refine (FSame_any ⟨[0], [], []⟩ ⟨[0], [], []⟩ r9 (.agg #[.slice (some ⟨v9.heap.size, 0, none⟩) 1 1, .slice none 0 0, .slice none 0 0]) _ HRX.out ⟨some ⟨v9.heap.size, 0, none⟩, none, none, 1, 0, 0, rfl, E0.out, nums_none _, nums_none _⟩ (by decide) (by decide) (by decide)).mono ?_
  rintro e u11 ⟨rfl, hb⟩
  rw [sameR_self]
  have K12 := Lib.hid (K11.out.on hb)
  clear hb K11 HRX E0
  go_wp2_with fail
  refine (CF 0 0 none 0 [] _ K12.out (by decide) (by decide) ⟨none, 0, rfl, fun h => absurd h (by decide)⟩ (by decide) (by simp)).mono ?_
  rintro e v12 ⟨r12, rfl, hr, hb⟩
  have K13 := Lib.hid (K12.out.on hb)
  rw [repE] at hr
  have HR := Lib.hid hr
  clear hr hb K12
  go_wp2_with fail
  have b0 := Below.refl v12.heap.size v12
  have K14 := Lib.hid (K13.out.on b0)
  have HRX := Lib.hid (HR.out.on b0)
  clear K13 HR b0 
  refine (FSame_any ⟨[], [], []⟩ ⟨[], [], []⟩ r12 (.agg #[.slice none 0 0, .slice none 0 0, .slice none 0 0]) _ HRX.out ⟨none, none, none, 0, 0, 0, rfl, nums_none _, nums_none _, nums_none _⟩ (by decide) (by decide) (by decide)).mono ?_
  rintro e u14 ⟨rfl, hb⟩
  rw [sameR_self]
  have K15 := Lib.hid (K14.out.on hb)
  clear hb K14 HRX 
  obtain ⟨q0, q1, q2⟩ := K15.out.a.cells
  go_wp2_with fail
  refine (CS 2 1 (some ⟨w.heap.size, 0, none⟩) 2 rsA _ K15.out (by decide) (by decide) K15.out.ra (by decide) (by simp)).mono ?_
  rintro e v15 ⟨rfl, hb⟩
  have K16 := Lib.hid (K15.out.on hb)
  rw [soundA]
  clear hb K15 q0 q1 q2
  obtain ⟨q0, q1, q2⟩ := K16.out.b.cells
  go_wp2_with fail
  refine (CS 2 1 (some ⟨W0.heap.size, 0, none⟩) 3 rsB _ K16.out (by decide) (by decide) K16.out.rb (by decide) (by simp)).mono ?_
  rintro e v16 ⟨rfl, hb⟩
  have K17 := Lib.hid (K16.out.on hb)
  rw [soundB]
  clear hb K16 q0 q1 q2
  obtain ⟨q0, q1, q2⟩ := K17.out.c.cells
  go_wp2_with fail
  refine (CS 2 1 (some ⟨W1.heap.size, 0, none⟩) 2 rsC _ K17.out (by decide) (by decide) K17.out.rc (by decide) (by simp)).mono ?_
  rintro e v17 ⟨rfl, hb⟩
  have K18 := Lib.hid (K17.out.on hb)
  rw [soundCc]
  clear hb K17 q0 q1 q2
  obtain ⟨q0, q1, q2⟩ := K18.out.d.cells
  go_wp2_with fail
  refine (CS 2 2 (some ⟨W2.heap.size, 0, none⟩) 1 rsD _ K18.out (by decide) (by decide) K18.out.rd (by decide) (by simp)).mono ?_
  rintro e v18 ⟨rfl, hb⟩
  have K19 := Lib.hid (K18.out.on hb)
  rw [soundD]
  clear hb K18 q0 q1 q2
  go_wp2_with fail
  refine (CS 0 0 none 0 [] _ K19.out (by decide) (by decide) ⟨none, 0, rfl, fun h => absurd h (by decide)⟩ (by decide) (by simp)).mono ?_
  rintro e v19 ⟨rfl, hb⟩
  have K20 := Lib.hid (K19.out.on hb)
  rw [soundE]
  clear hb K19
  obtain ⟨q0, q1, q2⟩ := K20.out.a.cells
  go_wp2_with fail
  have n1 := nums_new v19 [0, 0, 1] #[.int .i64 0, .int .i64 0, .int .i64 1] rfl
  have b1 := (Below.refl v19.heap.size v19).alloc (Nat.le_refl _) (.cells #[.int .i64 0, .int .i64 0, .int .i64 1] 3)
  have E1 := Lib.hid n1
  have K21 := Lib.hid (K20.out.on b1)
  clear n1 b1 K20
  refine (Proves_yes 2 1 (some ⟨w.heap.size, 0, none⟩) 2 rsA ⟨[], [0, 0, 1], []⟩ (.agg #[.slice none 0 0, .slice (some ⟨v19.heap.size, 0, none⟩) 3 3, .slice none 0 0]) _ K21.out.t K21.out.z validA (by decide) K21.out.ra (by decide) (small_all rsA (by simp)).2 ⟨none, some ⟨v19.heap.size, 0, none⟩, none, 0, 3, 0, rfl, nums_none _, E1.out, nums_none _⟩ (by decide) (by decide) (by decide)).mono ?_
  rintro e p21 ⟨rfl, hb⟩
  rw [prA1]
  have K22 := Lib.hid (K21.out.on hb)
  clear hb K21 q0 q1 q2 E1
  obtain ⟨q0, q1, q2⟩ := K22.out.a.cells
  go_wp2_with fail
  have n1 := nums_new p21 [0] #[.int .i64 0] rfl
  have b1 := (Below.refl p21.heap.size p21).alloc (Nat.le_refl _) (.cells #[.int .i64 0] 3)
  have E1 := Lib.hid n1
  have K23 := Lib.hid (K22.out.on b1)
  clear n1 b1 K22
  refine (Proves_yes 2 1 (some ⟨w.heap.size, 0, none⟩) 2 rsA ⟨[], [0], []⟩ (.agg #[.slice none 0 0, .slice (some ⟨p21.heap.size, 0, none⟩) 1 1, .slice none 0 0]) _ K23.out.t K23.out.z validA (by decide) K23.out.ra (by decide) (small_all rsA (by simp)).2 ⟨none, some ⟨p21.heap.size, 0, none⟩, none, 0, 1, 0, rfl, nums_none _, E1.out, nums_none _⟩ (by decide) (by decide) (by decide)).mono ?_
  rintro e p23 ⟨rfl, hb⟩
  rw [prA2]
  have K24 := Lib.hid (K23.out.on hb)
  clear hb K23 q0 q1 q2 E1
  obtain ⟨q0, q1, q2⟩ := K24.out.a.cells
  go_wp2_with fail
  have n0 := nums_new p23 [0] #[.int .i64 0] rfl
  have b1 := (Below.refl p23.heap.size p23).alloc (Nat.le_refl _) (.cells #[.int .i64 0] 3)
  have E0 := Lib.hid n0
  have K25 := Lib.hid (K24.out.on b1)
  clear n0 b1 K24
  refine (Proves_yes 2 1 (some ⟨w.heap.size, 0, none⟩) 2 rsA ⟨[0], [], []⟩ (.agg #[.slice (some ⟨p23.heap.size, 0, none⟩) 1 1, .slice none 0 0, .slice none 0 0]) _ K25.out.t K25.out.z validA (by decide) K25.out.ra (by decide) (small_all rsA (by simp)).2 ⟨some ⟨p23.heap.size, 0, none⟩, none, none, 1, 0, 0, rfl, E0.out, nums_none _, nums_none _⟩ (by decide) (by decide) (by decide)).mono ?_
  rintro e p25 ⟨rfl, hb⟩
  rw [prA3]
  have K26 := Lib.hid (K25.out.on hb)
  clear hb K25 q0 q1 q2 E0
  obtain ⟨q0, q1, q2⟩ := K26.out.c.cells
  go_wp2_with fail
  refine (Proves_yes 2 1 (some ⟨W1.heap.size, 0, none⟩) 2 rsC ⟨[], [], []⟩ (.agg #[.slice none 0 0, .slice none 0 0, .slice none 0 0]) _ K26.out.t K26.out.z validC (by decide) K26.out.rc (by decide) (small_all rsC (by simp)).2 ⟨none, none, none, 0, 0, 0, rfl, nums_none _, nums_none _, nums_none _⟩ (by decide) (by decide) (by decide)).mono ?_
  rintro e p26 ⟨rfl, hb⟩
  rw [prC1]
  have K27 := Lib.hid (K26.out.on hb)
  clear hb K26 q0 q1 q2 
  go_wp2_with fail
  refine (Proves_no 0 0 none 0 [] none none none 0 0 0 0 0 0 _ K27.out.t K27.out.z (by decide) (by decide) validE ⟨none, 0, rfl, fun h => absurd h (by decide)⟩ (by decide) (by decide) (small_all [] (by simp)).2).mono ?_
  rintro e p27 ⟨rfl, hb⟩
  have K28 := Lib.hid (K27.out.on hb)
  clear hb K27 
  obtain ⟨q0, q1, q2⟩ := K28.out.d.cells
  go_wp2_with fail
  have n1 := nums_new p27 [0] #[.int .i64 0] rfl
  have b1 := (Below.refl p27.heap.size p27).alloc (Nat.le_refl _) (.cells #[.int .i64 0] 3)
  have E1 := Lib.hid n1
  have K29 := Lib.hid (K28.out.on b1)
  clear n1 b1 K28
  refine (Proves_yes 2 2 (some ⟨W2.heap.size, 0, none⟩) 1 rsD ⟨[], [0], []⟩ (.agg #[.slice none 0 0, .slice (some ⟨p27.heap.size, 0, none⟩) 1 1, .slice none 0 0]) _ K29.out.t K29.out.z validD (by decide) K29.out.rd (by decide) (small_all rsD (by simp)).2 ⟨none, some ⟨p27.heap.size, 0, none⟩, none, 0, 1, 0, rfl, nums_none _, E1.out, nums_none _⟩ (by decide) (by decide) (by decide)).mono ?_
  rintro e p29 ⟨rfl, hb⟩
  rw [prD1]
  have K30 := Lib.hid (K29.out.on hb)
  clear hb K29 q0 q1 q2 E1
  go_wp2_with fail
  go_ret
  exact ⟨rfl, K30.out.w⟩
end Go.Proofs.YtadaijepalhohabDoor
