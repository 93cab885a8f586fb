/-
  flaw.Find, flaw.Sound.
-/
import Derived.Test.YtadaijepalhohabDoorGF
import Derived.Test.YtadaijepalhohabDoorFV
namespace Go.Proofs.YtadaijepalhohabDoor
open Go.RowKit
open Pl

theorem info37 : (Tryd.prog.info? 37).map (·.size) = some 3 := by kernel_rfl
theorem wpList_store_rp {ops : Array Oper} {rest : List Oper} {o : Oper} {a : Act} {W : World} {Q : Exit → Act → World → Prop} (hgd : o.guard = none) (x y : Operand) (ho : o.op = .store 37 x y)
    (b : Nat) (c0 c1 c2 : Value) (hb : RpBlock W b c0 c1 c2) (hx : a.eval x = .pointer (some ⟨b, 0, none⟩)) (a1 a2 a3 : Option Addr) (n1 n2 n3 d1 d2 d3 : Nat) (hy : a.eval y = .agg #[.slice a1 n1 d1, .slice a2 n2 d2, .slice a3 n3 d3])
    (hK : ∀ W', RpBlock W' b (.slice a1 n1 d1) (.slice a2 n2 d2) (.slice a3 n3 d3) → W.grownBy W' (some b) → W'.heap.size = W.heap.size → wpList Tryd.prog ops Q rest (a.put o.dst undef) W') : wpList Tryd.prog ops Q (o :: rest) a W := by
  refine wpList_store_row hgd 37 x y ho b _ hx hy 37 _ hb info37 rfl (by simp [Value.oneCell']) (hK _ ?_ ?_ ?_)
  · unfold RpBlock at hb ⊢
    exact setRow_heap W b _ _ 37 _ hb
  · refine ⟨rfl, rfl, rfl, by simp, fun i hi hne => ?_⟩
    simp only [World.setRow, Array.getElem?_modify]
    rw [if_neg (fun e => hne (by rw [e]))]
  · simp
theorem ret_rp {fn : Func} {p : Tmp} (h : fn.results = #[.cell p 37]) {R : Ending → World → Prop} {a : Act} {W : World} {b : Nat} {c0 c1 c2 : Value}
    (hp : a.tmps.getD p undef = .pointer (some ⟨b, 0, none⟩)) (hd : a.defers = []) (hb : RpBlock W b c0 c1 c2)
    (hR : R (.returned (.agg #[c0, c1, c2])) W) : bodyPost Tryd.prog fn R .ret a W := by
  refine bodyPost_ret ?_ hd hR
  have hp' : a.tmps[p]?.getD undef = .pointer (some ⟨b, 0, none⟩) := by simpa using hp
  have hl := run_loadVar_row (P := Tryd.prog) W b 37 37 #[c0, c1, c2] (0, 0) _ hb Tryd.underlying37 rfl info37
  simp [results, h, hp', asAddr, hl]
section
variable {P : Program} {ops : Array Oper} {C : World → Prop} {Q : Exit → Act → World → Prop} {dep : Nat → Bool}
/-- The last operation of a drawn region, as a walk has it. -/
theorem wpOp_list {i : Nat} {o : Oper} {a : Act} {w : World} (hi : ops[i]? = some o) (hg : o.guard = none) (hd : dep i = true) (h : wpList P ops Q [o] a w) : wpSeqI P ops C dep Q [i] a w := by
  refine seqI_step ?_
  unfold wpOp
  simp only [hi]
  rw [if_pos (by simp [Region.wanted, hg])]
  rw [wpList, if_pos (by simp [Region.wanted, hg])] at h
  refine h.imp (fun h => Oper.wp_mono (fun a' w' hh => ⟨fun hk => ?_, hh⟩) h) id
  rw [hd] at hk; cases hk
end
theorem stuckL_eq (m acc : Nat) (rs : List Rl) : stuckL (lMs m acc rs) rs = stuckC m acc rs := rfl
theorem NumsOwn.at' {W : World} {b : Nat} {a : Option Addr} {c : Nat} {xs : List Int} (h : NumsOwn W b (.slice a xs.length c) xs) : NumsAt W W.heap.size (.slice a xs.length c) xs := h.at
set_option maxHeartbeats 2000000 in
set_option maxRecDepth 100000 in
theorem Find_any (m acc : Nat) (a : Option Addr) (c : Nat) (rs : List Rl) (w : World) (hT : StrTab w) (h0 : 0 < w.heap.size) (hm : m ≤ 1000) (hacc : acc < 256) (hx : RlsAt w w.heap.size (.slice a rs.length c) rs) (hcap : rs.length ≤ c) (hl : rs.length ≤ 100000)
    (hz : ∀ x ∈ rs, x.inp.length ≤ maxLen ∧ x.out.length ≤ maxLen) :
    Calls Tryd.prog 8 #[.agg #[.int .i64 (m : Nat), .int .u8 (acc : Nat), .slice a rs.length c]] w fun e w' => ∃ v, e = .returned v ∧ RepAt w' v (repC m acc rs) ∧ Below w.heap.size w w' := by
  have b1 := (Below.refl w.heap.size w).alloc (Nat.le_refl _) (.cells #[.int .i64 (m : Nat), .int .u8 (acc : Nat), .slice a rs.length c] 28)
  have b2 := b1.alloc b1.size (.cells #[.slice none 0 0, .slice none 0 0, .slice none 0 0] 37)
  have s1 := (SchBlock.new w (.int .i64 (m : Nat)) (.int .u8 (acc : Nat)) (.slice a rs.length c)).below ((Below.refl _ _).alloc (Nat.le_refl _) (.cells #[.slice none 0 0, .slice none 0 0, .slice none 0 0] 37))
  have r1 := RpBlock.new (w.alloc (.cells #[.int .i64 (m : Nat), .int .u8 (acc : Nat), .slice a rs.length c] 28)) (.slice none 0 0) (.slice none 0 0) (.slice none 0 0)
  rw [World.size_alloc] at r1
  have CV := fun W (h : Below w.heap.size w W) => Lib.hid (Valid_any m acc a c rs W (hT.below h h0) (Nat.lt_of_lt_of_le h0 h.size) (hx.on h) hcap (by unfold maxLen; omega) hz (by omega) (by omega) (by omega) (by omega))
  have S1 := Lib.hid s1
  have R1 := Lib.hid r1
  have B2 := Lib.hid b2
  have HX := Lib.hid hx
  obtain ⟨s0, sa, s2⟩ := s1.cells
  clear hT h0 hx hz s1 r1 b1 b2
  cases hv : validB m acc rs with
  | false =>
    rw [hv] at CV
    have HN := Lib.hid (show repC m acc rs = ⟨[], [], []⟩ by unfold repC; rw [hv]; rfl)
    clear hv
    go_enter Tryd.func8, Tryd.ntmps8
    go_upto_region 1 with fail
    generalize (w.alloc _).alloc _ = x1 at *
    go_wp2_with fail
    refine ((CV x1 B2.out).out).mono ?_
    rintro e x2 ⟨rfl, hb⟩
    have R2 := Lib.hid (R1.out.below hb)
    have B3 := Lib.hid (B2.out.trans (hb.mono B2.out.size))
    clear hb CV S1 R1 B2 s0 sa s2
    have NB := R2.out
    go_wp2_with (first | (refine wpList_store_rp rfl _ _ rfl _ _ _ _ NB rfl none none none 0 0 0 0 0 0 rfl ?_; intro W7 RB hg' hs'; clear NB))
    refine ret_rp rfl rfl rfl RB ?_
    refine ⟨_, rfl, ?_, B3.out.grown hg' B3.out.size (by simp)⟩
    rw [HN.out]
    exact ⟨none, none, none, 0, 0, 0, rfl, ⟨none, 0, rfl, fun h => absurd h (by decide)⟩, ⟨none, 0, rfl, fun h => absurd h (by decide)⟩, ⟨none, 0, rfl, fun h => absurd h (by decide)⟩⟩
  | true =>
    obtain ⟨⟨hm1, hm8⟩, hIM, hI8, hl64⟩ := valid_in hv
    have hR : rMs m rs < 256 := rnds_lt (f := rStep) (fun m x h1 h2 => rStep_lt h1 h2) rs hI8 _ 1 (by decide)
    have hL : lMs m acc rs < 256 := rnds_lt (f := lStep) (fun m x h1 h2 => lStep_lt h1 h2) rs hI8 _ acc hacc
    have CK := fun W (h : Below w.heap.size w W) => Lib.hid (kindsOf_any m acc a c rs W hm1 hm8 hacc (HX.out.on h) (by unfold maxLen; omega) hI8)
    have CD := fun W (h : Below w.heap.size w W) => Lib.hid (dead_any m acc (rMs m rs) (lMs m acc rs) a c rs W hR hL (HX.out.on h) hl hI8)
    have CS := fun W (h : Below w.heap.size w W) => Lib.hid (Stuck_any m acc (rMs m rs) (lMs m acc rs) a c rs W hm1 hm8 hL (HX.out.on h) hl hIM)
    have CE := fun W (h : Below w.heap.size w W) => Lib.hid (Endless_any m acc (rMs m rs) (lMs m acc rs) a c rs W hm1 hm8 hR hL (HX.out.on h) hl hIM)
    rw [hv] at CV
    have HN := Lib.hid (show repC m acc rs = ⟨pickN (deadK (rMs m rs) (lMs m acc rs)) rs rs.length, ints (stuckL (lMs m acc rs) rs), ints (endC (rMs m rs &&& lMs m acc rs) rs m)⟩ by unfold repC; rw [hv]; rfl)
    change ∀ W, _ → Hid (Calls Tryd.prog 19 _ _ fun e w' => e = .returned (.agg #[.int .u8 ((rMs m rs : Nat) : Int), .int .u8 ((lMs m acc rs : Nat) : Int)]) ∧ Below _ _ w') at CK
    generalize rMs m rs = r at *
    generalize lMs m acc rs = l at *
    clear hv hIM hI8 hR hL
    go_enter Tryd.func8, Tryd.ntmps8
    go_upto_region 1 with fail
    generalize (w.alloc _).alloc _ = x1 at *
    go_wp2_with fail
    refine ((CV x1 B2.out).out).mono ?_
    rintro e x2 ⟨rfl, hb⟩
    have S2 := Lib.hid (S1.out.below hb)
    have R2 := Lib.hid (R1.out.below hb)
    have B3 := Lib.hid (B2.out.trans (hb.mono B2.out.size))
    clear hb CV S1 R1 B2 s0 sa s2
    obtain ⟨s0, sa, s2⟩ := S2.out.cells
    go_wp2_with fail
    refine ((CK x2 B3.out).out).mono ?_
    rintro e x3 ⟨rfl, hb⟩
    have S3 := Lib.hid (S2.out.below hb)
    have R3 := Lib.hid (R2.out.below hb)
    have B4 := Lib.hid (B3.out.trans (hb.mono B3.out.size))
    clear hb CK S2 R2 B3 s0 sa s2
    have NB : KBlock (x3.alloc (.cells #[.int .u8 0, .int .u8 0] 51)) x3.heap.size 0 0 := KBlock.new x3 0 0
    have AL := Lib.hid ((Below.refl x3.heap.size x3).alloc (Nat.le_refl _) (.cells #[.int .u8 0, .int .u8 0] 51))
    go_upto_region 4 with (first | (refine wpList_store_k rfl _ _ rfl _ _ _ NB rfl r l rfl ?_; intro W7 KB hg' hs'; clear NB))
    have hbb := AL.out.grown hg' AL.out.size (by simp)
    have S4 := Lib.hid (S3.out.below hbb)
    have R4 := Lib.hid (R3.out.below hbb)
    have B5 := Lib.hid (B4.out.trans (hbb.mono B4.out.size))
    have KB4 := Lib.hid KB
    clear hbb hg' hs' AL KB S3 R3 B4
    generalize x3.heap.size = gk at *
    have FS := Lib.hid (show ∀ W, Below W7.heap.size W7 W → (W.cell? ⟨w.heap.size, 0, none⟩ = some (.int .i64 (m : Nat)) ∧ W.cell? ⟨w.heap.size, 1, none⟩ = some (.int .u8 (acc : Nat)) ∧ W.cell? ⟨w.heap.size, 2, none⟩ = some (.slice a rs.length c)) ∧ W.cell? ⟨gk, 0, none⟩ = some (.int .u8 (r : Nat)) ∧ W.cell? ⟨gk, 1, none⟩ = some (.int .u8 (l : Nat)) from fun W h => ⟨(S4.out.below h).cells, (KB4.out.below h).cells⟩)
    refine wp_normal ?_
    refine wp_region_pick (C := fun W => Below W7.heap.size W7 W) [0, 1, 3, 4, 6, 7] [2, 5, 8, 9, 10] (fun j => decide (9 ≤ j)) (by kernel_rfl) (by kernel_rfl) (by kernel_rfl) rfl (by kernel_rfl) (Below.refl _ _).drew (fun c d v a w h => by cases h.1) ?_
    refine hoistI_step (.agg #[.int .i64 (m : Nat), .int .u8 (acc : Nat), .slice a rs.length c]) rfl (fun W hW => by obtain ⟨⟨f0, f1, f2⟩, f3, f4⟩ := FS.out W hW; go_simp) ?_
    refine hoistI_step (.agg #[.int .u8 (r : Nat), .int .u8 (l : Nat)]) rfl (fun W hW => by obtain ⟨⟨f0, f1, f2⟩, f3, f4⟩ := FS.out W hW; go_simp) ?_
    refine hoistI_step (.agg #[.int .i64 (m : Nat), .int .u8 (acc : Nat), .slice a rs.length c]) rfl (fun W hW => by obtain ⟨⟨f0, f1, f2⟩, f3, f4⟩ := FS.out W hW; go_simp) ?_
    refine hoistI_step (.agg #[.int .u8 (r : Nat), .int .u8 (l : Nat)]) rfl (fun W hW => by obtain ⟨⟨f0, f1, f2⟩, f3, f4⟩ := FS.out W hW; go_simp) ?_
    refine hoistI_step (.agg #[.int .i64 (m : Nat), .int .u8 (acc : Nat), .slice a rs.length c]) rfl (fun W hW => by obtain ⟨⟨f0, f1, f2⟩, f3, f4⟩ := FS.out W hW; go_simp) ?_
    refine hoistI_step (.agg #[.int .u8 (r : Nat), .int .u8 (l : Nat)]) rfl (fun W hW => by obtain ⟨⟨f0, f1, f2⟩, f3, f4⟩ := FS.out W hW; go_simp) ?_
    have HB7 := Lib.hid (Below.refl W7.heap.size W7).drew
    have HZ7 := Lib.hid (show w.heap.size + 2 ≤ W7.heap.size from lt_of_heap R4.out)
    refine hoistI_done (seqI_step ?_)
    refine wpOp_call 20 #[.agg #[.int .i64 (m : Nat), .int .u8 (acc : Nat), .slice a rs.length c], .agg #[.int .u8 (r : Nat), .int .u8 (l : Nat)]] rfl rfl (by go_simp) ((CD _ (B5.out.trans (HB7.out.mono B5.out.size))).out) ?_
    rintro e W8 ⟨v1, rfl, o1, hb8⟩
    obtain ⟨a1, c1, rfl⟩ := o1.shape
    have HB8 := Lib.hid (HB7.out.trans (hb8.mono HB7.out.size))
    have N1 := Lib.hid (o1.base (b' := w.heap.size + 2) (Nat.le_trans HZ7.out HB7.out.size))
    clear hb8 o1
    refine ⟨_, rfl, fun _ => HB8.out, seqI_step ?_⟩
    refine wpOp_call 21 #[.agg #[.int .i64 (m : Nat), .int .u8 (acc : Nat), .slice a rs.length c], .agg #[.int .u8 (r : Nat), .int .u8 (l : Nat)]] rfl rfl (by go_simp) ((CS _ (B5.out.trans (HB8.out.mono B5.out.size))).out) ?_
    rintro e W9 ⟨v2, rfl, o2, -, hb9⟩
    obtain ⟨a2, c2, rfl⟩ := o2.shape
    have HB9 := Lib.hid (HB8.out.trans (hb9.mono HB8.out.size))
    have N12 := Lib.hid (N1.out.below hb9)
    have N2 := Lib.hid (o2.base (b' := w.heap.size + 2) (Nat.le_trans HZ7.out HB8.out.size))
    clear hb9 o2
    refine ⟨_, rfl, fun _ => HB9.out, seqI_step ?_⟩
    refine wpOp_call 22 #[.agg #[.int .i64 (m : Nat), .int .u8 (acc : Nat), .slice a rs.length c], .agg #[.int .u8 (r : Nat), .int .u8 (l : Nat)]] rfl rfl (by go_simp) ((CE _ (B5.out.trans (HB9.out.mono B5.out.size))).out) ?_
    rintro e W10 ⟨v3, rfl, o3, -, hb10⟩
    obtain ⟨a3, c3, rfl⟩ := o3.shape
    have HB10 := Lib.hid (HB9.out.trans (hb10.mono HB9.out.size))
    have N13 := Lib.hid (N12.out.below hb10)
    have N23 := Lib.hid (N2.out.below hb10)
    have N3 := Lib.hid (o3.base (b' := w.heap.size + 2) (Nat.le_trans HZ7.out HB9.out.size))
    clear hb10 o3
    refine ⟨_, rfl, fun _ => HB10.out, seqI_step ?_⟩
    obtain ⟨D, hD⟩ : ∃ D, D = pickN (deadK r l) rs rs.length := ⟨_, rfl⟩
    obtain ⟨E2, hE2⟩ : ∃ D, D = ints (stuckL l rs) := ⟨_, rfl⟩
    obtain ⟨E3, hE3⟩ : ∃ D, D = ints (endC (r &&& l) rs m) := ⟨_, rfl⟩
    rw [← hD, ← hE2, ← hE3] at HN
    rw [← hD] at N13
    rw [← hE2] at N23
    rw [← hE3] at N3
    rw [← hD, ← hE2, ← hE3]
    clear hD hE2 hE3 N1 N12 N2
    refine wpOp_value (w' := W10) (.agg #[.slice a1 D.length c1, .slice a2 E2.length c2, .slice a3 E3.length c3]) rfl rfl (by go_simp) ⟨fun hh => absurd hh (by decide), ?_⟩
    have NB := R4.out.below HB10.out
    have BB := Lib.hid (B5.out.trans (HB10.out.mono B5.out.size))
    refine wpOp_list rfl rfl (by decide) ?_
    refine wpList_store_rp rfl _ _ rfl _ _ _ _ NB (by go_simp) a1 a2 a3 D.length E2.length E3.length c1 c2 c3 (by go_simp) ?_
    intro W11 RB hg' hs'
    refine ⟨rfl, ?_⟩
    have BF := Lib.hid (BB.out.grown hg' BB.out.size (by simp))
    have HG := Lib.hid hg'
    have HRB := Lib.hid RB
    have HS := Lib.hid hs'
    clear NB hg' hs' RB S4 R4 KB4 FS HB7 HB8 HB9 HB10 B5
    go_wp2_with fail
    refine ret_rp rfl (by go_simp) (by go_simp) HRB.out ?_
    refine ⟨_, rfl, ?_, BF.out⟩
    rw [HN.out]
    have hk : ∀ g, w.heap.size + 2 ≤ g → g < W10.heap.size → W11.heap[g]? = W10.heap[g]? := fun g h1 h2 => HG.out.block g h2 (fun e => by simp at e; omega)
    exact ⟨a1, a2, a3, c1, c2, c3, rfl, (N13.out.keepAt hk).at, (N23.out.keepAt hk).at, (N3.out.keepAt hk).at⟩
theorem andnot_all : (List.range 256).all (fun m => (List.range 256).all fun n => bits BinOp.andNot IntKind.u8 (m : Int) (n : Int) == ((m &&& (255 - n) : Nat) : Int)) = true := by decide +kernel
theorem andnot_nat (m n : Nat) (hm : m < 256) (hn : n < 256) : bits BinOp.andNot IntKind.u8 (m : Int) (n : Int) = ((m &&& (255 - n) : Nat) : Int) := by
  have h := List.all_eq_true.1 (List.all_eq_true.1 andnot_all m (List.mem_range.2 hm)) n (List.mem_range.2 hn)
  simpa using h
set_option maxHeartbeats 2000000 in
set_option maxRecDepth 100000 in
theorem Sound_any (m acc : Nat) (a : Option Addr) (c : Nat) (rs : List Rl) (w : World) (hT : StrTab w) (h0 : 0 < w.heap.size) (hm : m ≤ 1000) (hacc : acc < 256) (hx : RlsAt w w.heap.size (.slice a rs.length c) rs) (hcap : rs.length ≤ c) (hl : rs.length ≤ 100000)
    (hz : ∀ x ∈ rs, x.inp.length ≤ maxLen ∧ x.out.length ≤ maxLen) :
    Calls Tryd.prog 10 #[.agg #[.int .i64 (m : Nat), .int .u8 (acc : Nat), .slice a rs.length c]] w fun e w' => e = .returned (.int .i64 (soundC m acc rs)) ∧ Below w.heap.size w w' := by
  have b1 := (Below.refl w.heap.size w).alloc (Nat.le_refl _) (.cells #[.int .i64 (m : Nat), .int .u8 (acc : Nat), .slice a rs.length c] 28)
  have s1 := SchBlock.new w (.int .i64 (m : Nat)) (.int .u8 (acc : Nat)) (.slice a rs.length c)
  have CV := fun W (h : Below w.heap.size w W) => Lib.hid (Valid_any m acc a c rs W (hT.below h h0) (Nat.lt_of_lt_of_le h0 h.size) (hx.on h) hcap (by unfold maxLen; omega) hz (by omega) (by omega) (by omega) (by omega))
  have S1 := Lib.hid s1
  have B2 := Lib.hid b1
  have HX := Lib.hid hx
  obtain ⟨s0, sa, s2⟩ := s1.cells
  clear hT h0 hx hz s1 b1
  cases hv : validB m acc rs with
  | false =>
    rw [hv] at CV
    have HN := Lib.hid (show soundC m acc rs = 20 by unfold soundC; rw [hv]; rfl)
    clear hv
    go_enter Tryd.func10, Tryd.ntmps10
    go_upto_region 1 with fail
    generalize w.alloc _ = x1 at *
    go_wp2_with fail
    refine ((CV x1 B2.out).out).mono ?_
    rintro e x2 ⟨rfl, hb⟩
    have B3 := Lib.hid (B2.out.trans (hb.mono B2.out.size))
    clear hb CV S1 B2 s0 sa s2
    go_wp2_with fail
    go_ret
    exact ⟨by rw [HN.out]; rfl, B3.out⟩
  | true =>
    obtain ⟨⟨hm1, hm8⟩, hIM, hI8, hl64⟩ := valid_in hv
    have hR : rMs m rs < 256 := rnds_lt (f := rStep) (fun m x h1 h2 => rStep_lt h1 h2) rs hI8 _ 1 (by decide)
    have hL : lMs m acc rs < 256 := rnds_lt (f := lStep) (fun m x h1 h2 => lStep_lt h1 h2) rs hI8 _ acc hacc
    have CK := fun W (h : Below w.heap.size w W) => Lib.hid (kindsOf_any m acc a c rs W hm1 hm8 hacc (HX.out.on h) (by unfold maxLen; omega) hI8)
    have CE := fun W (h : Below w.heap.size w W) => Lib.hid (Endless_any m acc (rMs m rs) (lMs m acc rs) a c rs W hm1 hm8 hR hL (HX.out.on h) hl hIM)
    have CA := fun W => Lib.hid (hasM_any (lMs m acc rs) 0 hL (by decide) W)
    rw [hv] at CV
    have HN := Lib.hid (show soundC m acc rs = if (lMs m acc rs).testBit 0 = true then (if rMs m rs &&& (255 - lMs m acc rs) = 0 then (if endC (rMs m rs &&& lMs m acc rs) rs m = [] then 0 else 41) else 40) else 50 by unfold soundC; rw [if_pos hv]; rfl)
    have AN := Lib.hid (andnot_nat (rMs m rs) (lMs m acc rs) hR hL)
    change ∀ W, _ → Hid (Calls Tryd.prog 19 _ _ fun e w' => e = .returned (.agg #[.int .u8 ((rMs m rs : Nat) : Int), .int .u8 ((lMs m acc rs : Nat) : Int)]) ∧ Below _ _ w') at CK
    generalize soundC m acc rs = Z at *
    generalize rMs m rs = r at *
    generalize lMs m acc rs = l at *
    have HOY := nonil_yes
    have HON := nonil_no
    clear hv hIM hI8 hR hL
    go_enter Tryd.func10, Tryd.ntmps10
    go_upto_region 1 with fail
    generalize w.alloc _ = x1 at *
    go_wp2_with fail
    refine ((CV x1 B2.out).out).mono ?_
    rintro e x2 ⟨rfl, hb⟩
    have S2 := Lib.hid (S1.out.below hb)
    have B3 := Lib.hid (B2.out.trans (hb.mono B2.out.size))
    clear hb CV S1 B2 s0 sa s2
    obtain ⟨s0, sa, s2⟩ := S2.out.cells
    go_wp2_with fail
    refine ((CK x2 B3.out).out).mono ?_
    rintro e x3 ⟨rfl, hb⟩
    have S3 := Lib.hid (S2.out.below hb)
    have B4 := Lib.hid (B3.out.trans (hb.mono B3.out.size))
    clear hb CK S2 B3 s0 sa s2
    have NB : KBlock (x3.alloc (.cells #[.int .u8 0, .int .u8 0] 51)) x3.heap.size 0 0 := KBlock.new x3 0 0
    have AL := Lib.hid ((Below.refl x3.heap.size x3).alloc (Nat.le_refl _) (.cells #[.int .u8 0, .int .u8 0] 51))
    go_upto_region 4 with (first | (refine wpList_store_k rfl _ _ rfl _ _ _ NB rfl r l rfl ?_; intro W7 KB hg' hs'; clear NB))
    have hbb := AL.out.grown hg' AL.out.size (by simp)
    have S4 := Lib.hid (S3.out.below hbb)
    have B5 := Lib.hid (B4.out.trans (hbb.mono B4.out.size))
    have KB4 := Lib.hid KB
    clear hbb hg' hs' AL KB S3 B4
    generalize x3.heap.size = gk at *
    obtain ⟨s0, sa, s2⟩ := S4.out.cells
    obtain ⟨k0, k1⟩ := KB4.out.cells
    go_wp2_with fail
    refine ((CA W7).out).mono ?_
    rintro e W8 ⟨rfl, rfl⟩
    cases hb0 : l.testBit 0 with
    | false =>
      have HM := Lib.hid (show Z = 50 by rw [HN.out, hb0]; rfl)
      clear hb0
      go_wp2_with fail
      go_ret
      exact ⟨by rw [HM.out]; rfl, B5.out⟩
    | true =>
      have HM := Lib.hid (show Z = (if r &&& (255 - l) = 0 then (if endC (r &&& l) rs m = [] then 0 else 41) else 40) by rw [HN.out, if_pos hb0])
      clear hb0 HN
      obtain ⟨q, hq⟩ : ∃ q, q = r &&& (255 - l) := ⟨_, rfl⟩
      rw [← hq] at AN HM
      clear hq
      have AN2 := AN.out
      by_cases hq0 : q = 0
      · subst hq0
        have HM2 := Lib.hid (show Z = (if endC (r &&& l) rs m = [] then 0 else 41) by rw [HM.out, if_pos rfl])
        have AN3 : bits BinOp.andNot IntKind.u8 (r : Int) (l : Int) = 0 := AN2
        clear AN2 HM AN
        go_wp2_with fail
        refine ((CE W8 B5.out).out).mono ?_
        rintro e W9 ⟨v, rfl, o3, n3, hb9⟩
        have B6 := Lib.hid (B5.out.trans (hb9.mono B5.out.size))
        obtain ⟨xe, hxe⟩ : ∃ xe, xe = endC (r &&& l) rs m := ⟨_, rfl⟩
        rw [← hxe] at o3 n3 HM2
        by_cases hn : xe = []
        · obtain rfl := n3 hn
          have HM3 := Lib.hid (show Z = 0 by rw [HM2.out, if_pos hn])
          clear o3 n3 hxe hn hb9 HM2
          go_wp2_with fail
          go_ret
          exact ⟨by rw [HM3.out]; rfl, B6.out⟩
        · obtain ⟨pr, cr, rfl⟩ := o3.some (fun e => hn (ints_ne.1 e))
          have HM3 := Lib.hid (show Z = 41 by rw [HM2.out, if_neg hn])
          clear o3 n3 hxe hn hb9 HM2
          go_wp2_with fail
          go_ret
          exact ⟨by rw [HM3.out]; rfl, B6.out⟩
      · have HM2 := Lib.hid (show Z = 40 by rw [HM.out, if_neg hq0])
        have hqn : ((q : Int) != 0) = true := by
          have : ¬ ((q : Int) = 0) := by omega
          simpa using this
        clear hq0 HM AN
        go_wp2_with fail
        go_ret
        exact ⟨by rw [HM2.out]; rfl, B5.out⟩
end Go.Proofs.YtadaijepalhohabDoor
