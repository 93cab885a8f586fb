/-
  flaw.kindsOf: the modes that are reached, and those that are live, as sets.
-/
import Derived.Test.YtadaijepalhohabDoorFA
import Derived.Test.YtadaijepalhohabDoorTH
import Derived.Deep.RegionWith
namespace Go.Proofs.YtadaijepalhohabDoor
open Go.RowKit
open Pl

/-- One rule looked at: what is reached, what is live. -/
def rStep (m : Nat) (x : Rl) : Nat := if m.testBit x.src.toNat then m ||| 2 ^ x.dst.toNat else m
def lStep (m : Nat) (x : Rl) : Nat := if m.testBit x.dst.toNat then m ||| 2 ^ x.src.toNat else m
/-- k rounds over all rules. -/
def rnds (f : Nat → Rl → Nat) (rs : List Rl) : Nat → Nat → Nat
  | 0, m => m
  | k + 1, m => rs.foldl f (rnds f rs k m)
def In8 (x : Rl) : Prop := (0 ≤ x.src ∧ x.src < 8) ∧ (0 ≤ x.dst ∧ x.dst < 8)
theorem rStep_lt {m : Nat} {x : Rl} (hm : m < 256) (hx : In8 x) : rStep m x < 256 := by
  unfold rStep
  split
  · exact or_lt m _ hm (by have := hx.2; omega)
  · exact hm
theorem lStep_lt {m : Nat} {x : Rl} (hm : m < 256) (hx : In8 x) : lStep m x < 256 := by
  unfold lStep
  split
  · exact or_lt m _ hm (by have := hx.1; omega)
  · exact hm
theorem fold_lt {f : Nat → Rl → Nat} (hf : ∀ m x, m < 256 → In8 x → f m x < 256) : ∀ (rs : List Rl) (m : Nat), (∀ x ∈ rs, In8 x) → m < 256 → rs.foldl f m < 256
  | [], _, _, hm => hm
  | x :: r, m, h, hm => fold_lt hf r (f m x) (fun y hy => h y (List.mem_cons_of_mem _ hy)) (hf m x hm (h x (List.mem_cons_self ..)))
theorem rnds_lt {f : Nat → Rl → Nat} (hf : ∀ m x, m < 256 → In8 x → f m x < 256) (rs : List Rl) (h : ∀ x ∈ rs, In8 x) : ∀ (k m : Nat), m < 256 → rnds f rs k m < 256
  | 0, _, hm => hm
  | k + 1, m, hm => fold_lt hf rs _ h (rnds_lt hf rs h k m hm)
theorem fold_take {f : Nat → Rl → Nat} (rs : List Rl) (m i : Nat) (hi : i < rs.length) : (rs.take (i + 1)).foldl f m = f ((rs.take i).foldl f m) rs[i] := by
  rw [List.take_succ_eq_append_getElem hi, List.foldl_append]; rfl
theorem KBlock.free {W : World} {b r l : Nat} (h : KBlock W b r l) : W.frozen? ⟨b, 0, none⟩ = false ∧ W.frozen? ⟨b, 1, none⟩ = false := by
  unfold KBlock at h
  exact ⟨by simp [World.frozen?, h], by simp [World.frozen?, h]⟩
theorem KBlock.put0 {W : World} {b r l : Nat} (h : KBlock W b r l) (v : Nat) : KBlock (W.setCell ⟨b, 0, none⟩ (.int .u8 (v : Nat))) b v l := by
  unfold KBlock at h ⊢
  rw [heap_setCell_same W b 0 _ _ _ h]; rfl
theorem KBlock.put1 {W : World} {b r l : Nat} (h : KBlock W b r l) (v : Nat) : KBlock (W.setCell ⟨b, 1, none⟩ (.int .u8 (v : Nat))) b r v := by
  unfold KBlock at h ⊢
  rw [heap_setCell_same W b 1 _ _ _ h]; rfl
theorem KBlock.setCell {W : World} {b b' o r l : Nat} {u : Value} (h : KBlock W b r l) (hne : b' ≠ b) : KBlock (W.setCell ⟨b', o, none⟩ u) b r l := by
  unfold KBlock at h ⊢
  rw [heap_setCell_other W _ b _ (fun e => hne e.symm)]; exact h
theorem info51 : (Tryd.prog.info? 51).map (·.size) = some 2 := by kernel_rfl
theorem wpList_store_k {ops : Array Oper} {rest : List Oper} {o : Oper} {a : Act} {W : World} {Q : Exit → Act → World → Prop} (hgd : o.guard = none) (x y : Operand) (ho : o.op = .store 51 x y)
    (b r0 l0 : Nat) (hb : KBlock W b r0 l0) (hx : a.eval x = .pointer (some ⟨b, 0, none⟩)) (r l : Nat) (hy : a.eval y = .agg #[.int .u8 (r : Nat), .int .u8 (l : Nat)])
    (hK : ∀ W', KBlock W' b r l → W.grownBy W' (some b) → W'.heap.size = W.heap.size → wpList Tryd.prog ops Q rest (a.put o.dst undef) W') : wpList Tryd.prog ops Q (o :: rest) a W := by
  refine wpList_store_row hgd 51 x y ho b _ hx hy 51 _ hb info51 rfl (by simp [Value.oneCell']) (hK _ ?_ ?_ ?_)
  · unfold KBlock at hb ⊢
    exact setRow_heap W b _ _ 51 _ hb
  · refine ⟨rfl, rfl, rfl, by simp, fun i hi hne => ?_⟩
    simp only [World.setRow, Array.getElem?_modify]
    rw [if_neg (fun e => hne (by rw [e]))]
  · simp
theorem ret_k {fn : Func} {p : Tmp} (h : fn.results = #[.cell p 51]) {R : Ending → World → Prop} {a : Act} {W : World} {b r l : Nat}
    (hp : a.tmps.getD p undef = .pointer (some ⟨b, 0, none⟩)) (hd : a.defers = []) (hb : KBlock W b r l)
    (hR : R (.returned (.agg #[.int .u8 (r : Nat), .int .u8 (l : Nat)])) W) : bodyPost Tryd.prog fn R .ret a W := by
  refine bodyPost_ret ?_ hd hR
  have hp' : a.tmps[p]?.getD undef = .pointer (some ⟨b, 0, none⟩) := by simpa using hp
  have hl := run_loadVar_row (P := Tryd.prog) W b 51 51 _ (0, 0) _ hb Tryd.underlying51 rfl info51
  simp [results, h, hp', asAddr, hl]

theorem SchBlock.setCellK {W : World} {b b' o : Nat} {c0 c1 c2 u : Value} (h : SchBlock W b c0 c1 c2) (hne : b' ≠ b) : SchBlock (W.setCell ⟨b', o, none⟩ u) b c0 c1 c2 := by
  unfold SchBlock at h ⊢
  rw [heap_setCell_other W _ b _ (fun e => hne e.symm)]; exact h
theorem RlBlock.setCellK {W : World} {b b' o : Nat} {r : Rl} {u : Value} (h : RlBlock W b r) (hne : b' ≠ b) : RlBlock (W.setCell ⟨b', o, none⟩ u) b r := by
  unfold RlBlock at h ⊢
  rw [heap_setCell_other W _ b _ (fun e => hne e.symm)]; exact h
/-- What the loops of kindsOf keep. -/
def KRel (w : World) (m acc : Nat) (sv : Value) (gk r l : Nat) (W : World) : Prop :=
  SchBlock W w.heap.size (.int .i64 (m : Nat)) (.int .u8 (acc : Nat)) sv ∧ KBlock W (w.heap.size + 1) 0 0 ∧ KBlock W gk r l ∧ Below w.heap.size w W
theorem KRel.into {w W W' : World} {m acc gk r l : Nat} {sv : Value} (h : KRel w m acc sv gk r l W) (hb : Below W.heap.size W W') : KRel w m acc sv gk r l W' :=
  ⟨h.1.below hb, h.2.1.below hb, h.2.2.1.below hb, h.2.2.2.trans (hb.mono h.2.2.2.size)⟩
theorem KRel.put0 {w W : World} {m acc gk r l : Nat} {sv : Value} (h : KRel w m acc sv gk r l W) (hg : w.heap.size + 2 ≤ gk) (v : Nat) : KRel w m acc sv gk v l (W.setCell ⟨gk, 0, none⟩ (.int .u8 (v : Nat))) :=
  ⟨h.1.setCellK (by omega), h.2.1.setCell (by omega), h.2.2.1.put0 v, h.2.2.2.setCell (by show w.heap.size ≤ gk; omega) _⟩
theorem KRel.put1 {w W : World} {m acc gk r l : Nat} {sv : Value} (h : KRel w m acc sv gk r l W) (hg : w.heap.size + 2 ≤ gk) (v : Nat) : KRel w m acc sv gk r v (W.setCell ⟨gk, 1, none⟩ (.int .u8 (v : Nat))) :=
  ⟨h.1.setCellK (by omega), h.2.1.setCell (by omega), h.2.2.1.put1 v, h.2.2.2.setCell (by show w.heap.size ≤ gk; omega) _⟩

set_option maxHeartbeats 2000000 in
set_option maxRecDepth 100000 in
theorem kindsOf_any (m acc : Nat) (a : Option Addr) (c : Nat) (rs : List Rl) (w : World) (hm1 : 1 ≤ m) (hm8 : m ≤ 8) (hacc : acc < 256) (hx : RlsAt w w.heap.size (.slice a rs.length c) rs) (hl : rs.length ≤ maxLen) (hr : ∀ x ∈ rs, In8 x) :
    Calls Tryd.prog 19 #[.agg #[.int .i64 (m : Nat), .int .u8 (acc : Nat), .slice a rs.length c]] w fun e w' => e = .returned (.agg #[.int .u8 ((rnds rStep rs (m - 1) 1 : Nat) : Int), .int .u8 ((rnds lStep rs (m - 1) acc : Nat) : Int)]) ∧ Below w.heap.size w w' := by
  have b1 := (Below.refl w.heap.size w).alloc (Nat.le_refl _) (.cells #[.int .i64 (m : Nat), .int .u8 (acc : Nat), .slice a rs.length c] 28)
  have s1 := SchBlock.new w (.int .i64 (m : Nat)) (.int .u8 (acc : Nat)) (.slice a rs.length c)
  have HX := Lib.hid hx
  have HR := Lib.hid hr
  have HL := Lib.hid hl
  have k1 : KBlock ((w.alloc (.cells #[.int .i64 (m : Nat), .int .u8 (acc : Nat), .slice a rs.length c] 28)).alloc (.cells #[.int .u8 0, .int .u8 0] 51)) (w.heap.size + 1) 0 0 := by
    have := KBlock.new (w.alloc (.cells #[.int .i64 (m : Nat), .int .u8 (acc : Nat), .slice a rs.length c] 28)) 0 0
    rwa [World.size_alloc] at this
  have b2 := b1.alloc b1.size (.cells #[.int .u8 0, .int .u8 0] 51)
  have S1 := Lib.hid (s1.below ((Below.refl _ _).alloc (Nat.le_refl _) (.cells #[.int .u8 0, .int .u8 0] 51)))
  clear hx hr hl
  go_enter Tryd.func19, Tryd.ntmps19
  go_upto_region 1 with fail
  have B2 := Lib.hid b2
  have K1 := Lib.hid k1
  obtain ⟨s0, sa, s2⟩ := S1.out.cells
  clear b1 b2 s1 k1
  generalize (w.alloc _).alloc _ = x1 at *
  have s1' : ∀ ob, (x1.alloc ob).cell? ⟨w.heap.size, 1, none⟩ = some (.int .u8 (acc : Nat)) := fun ob => (World.cell?_alloc_past _ _ _ (World.block_lt_of_cell? _ _ sa)).trans sa
  go_cut [3] (fun p wx => p = .pointer (some ⟨x1.heap.size, 0, none⟩) ∧ KBlock wx x1.heap.size 1 acc ∧ Below x1.heap.size x1 wx)
  case first =>
   go_region_with (go_at_call 34; refine (onlyM_any 0 (by decide) _).mono ?_; rintro e xx ⟨rfl, rfl⟩)
   all_goals (try go_wp2_with fail)
   all_goals go_meet
   all_goals exact ⟨rfl, (KBlock.new x1 1 acc).below (Below.refl _ _).drew, ((Below.refl _ _).alloc (Nat.le_refl _) _).drew⟩
  case rest =>
    obtain ⟨rfl, hk, hb⟩ := hcut
    have hgk := lt_of_heap K1.out
    have K0 := Lib.hid (show KRel w m acc (.slice a rs.length c) x1.heap.size 1 acc wc from ⟨S1.out.below hb, K1.out.below hb, hk, B2.out.trans (hb.mono B2.out.size)⟩)
    have HGK : w.heap.size + 2 ≤ x1.heap.size := hgk
    clear hk hb S1 K1 B2 s0 sa s2 s1' hgk
    generalize x1.heap.size = gk at *
    obtain ⟨s0, sa, s2⟩ := K0.out.1.cells
    have hwm : IntKind.i64.wrap ((m : Int) - 1) = (m : Int) - 1 := IntWalk.i64_in _ (by omega)
    go_wp2_with fail
    clear s0 sa s2
    go_loopw [13] (fun jv wr => ∃ j : Nat, jv = .int .i64 (j : Nat) ∧ j ≤ m - 1 ∧ KRel w m acc (.slice a rs.length c) gk (rnds rStep rs j 1) (rnds lStep rs j acc) wr) (fun jv _ => m - 1 - (intOf jv).toNat)
    case atStart => exact ⟨0, rfl, Nat.zero_le _, K0.out⟩
    case round =>
      obtain ⟨j, rfl, hj, hrl⟩ := hrel
      have KR := Lib.hid hrl
      obtain ⟨s0, sa, s2⟩ := hrl.1.cells
      clear hrl K0
      have R0 := rnds_lt (f := rStep) (fun m x h1 h2 => rStep_lt h1 h2) rs HR.out j 1 (by decide)
      have L0 := rnds_lt (f := lStep) (fun m x h1 h2 => lStep_lt h1 h2) rs HR.out j acc hacc
      by_cases h1 : (j : Int) < (m : Int) - 1
      · obtain ⟨R, hR⟩ : ∃ R, R = rnds rStep rs j 1 := ⟨_, rfl⟩
        obtain ⟨L, hL⟩ : ∃ L, L = rnds lStep rs j acc := ⟨_, rfl⟩
        rw [← hR, ← hL] at KR
        rw [← hR] at R0
        rw [← hL] at L0
        have HRE := Lib.hid hR
        have HLE := Lib.hid hL
        clear hR hL
        go_wp2_with fail
        clear s0 sa s2
        go_loopw [18] (fun iv wr => ∃ i : Nat, iv = .int .i64 (i : Nat) ∧ i ≤ rs.length ∧ KRel w m acc (.slice a rs.length c) gk ((rs.take i).foldl rStep R) ((rs.take i).foldl lStep L) wr) (fun iv _ => rs.length - (intOf iv).toNat)
        case atStart => exact ⟨0, rfl, Nat.zero_le _, KR.out⟩
        case round =>
          obtain ⟨i, rfl, hi, hrl⟩ := hrel
          have KI := Lib.hid hrl
          clear hrl KR
          by_cases h2 : (i : Int) < (rs.length : Int)
          · have hil : i < rs.length := by omega
            obtain ⟨x, hxe⟩ : ∃ x, x = rs[i] := ⟨_, rfl⟩
            have hx8 : In8 x := by rw [hxe]; exact HR.out _ (List.getElem_mem hil)
            obtain ⟨a', c', hv, hP⟩ := HX.out.on KI.out.2.2.2
            obtain ⟨rfl, -⟩ : a = a' ∧ c = c' := by simpa using hv
            obtain ⟨b, off, ha, hlt, hc⟩ := hP (by omega)
            subst ha
            obtain ⟨p0, p1, p2, p3, p4⟩ := hc i hil
            rw [← hxe] at p0 p1 p2 p3 p4
            have r1l := fold_lt (f := rStep) (fun m x h1 h2 => rStep_lt h1 h2) (rs.take i) R (fun y hy => HR.out y (List.mem_of_mem_take hy)) R0
            have l1l := fold_lt (f := lStep) (fun m x h1 h2 => lStep_lt h1 h2) (rs.take i) L (fun y hy => HR.out y (List.mem_of_mem_take hy)) L0
            have HSR := fold_take (f := rStep) rs R i hil
            have HSL := fold_take (f := lStep) rs L i hil
            rw [← hxe] at HSR HSL
            obtain ⟨r1, hr1⟩ : ∃ r1, r1 = (rs.take i).foldl rStep R := ⟨_, rfl⟩
            obtain ⟨l1, hl1⟩ : ∃ l1, l1 = (rs.take i).foldl lStep L := ⟨_, rfl⟩
            rw [← hr1] at KI r1l HSR
            rw [← hl1] at KI l1l HSL
            obtain ⟨xs, xd, xi, xo, xc⟩ := x
            obtain ⟨⟨e0, e1⟩, e2, e3⟩ := hx8
            dsimp only at e0 e1 e2 e3
            obtain ⟨sN, hsN⟩ : ∃ n : Nat, xs = (n : Int) := ⟨xs.toNat, by omega⟩
            obtain ⟨dN, hdN⟩ : ∃ n : Nat, xd = (n : Int) := ⟨xd.toNat, by omega⟩
            subst hsN
            subst hdN
            have hs8 : sN < 8 := by omega
            have hd8 : dN < 8 := by omega
            dsimp only at p0 p1 p2 p3 p4
            have HSR := Lib.hid HSR
            have HSL := Lib.hid HSL
            have HI0 := Lib.hid hi
            obtain ⟨s0, sa, s2⟩ := KI.out.1.cells
            have i0 : (0 : Int) ≤ (i : Int) := by omega
            have hLm := HL.out
            unfold maxLen at hLm
            clear hxe e0 e1 e2 e3 hP hc hv hr1 hl1
            have NB : RlBlock (wr.alloc (.cells #[.int .i64 0, .int .i64 0, .string ⟨#[]⟩, .string ⟨#[]⟩, .int .i64 0] 31)) wr.heap.size ⟨0, 0, [], [], 0⟩ := heap_alloc_new wr _
            have AL := Lib.hid ((Below.refl wr.heap.size wr).alloc (Nat.le_refl _) (.cells #[.int .i64 0, .int .i64 0, .string ⟨#[]⟩, .string ⟨#[]⟩, .int .i64 0] 31))
            go_upto_region 7 with (first | (refine wpList_store_rl rfl _ _ rfl _ _ NB rfl ⟨(sN : Int), (dN : Int), xi, xo, xc⟩ rfl ?_; intro W7 RB hg' hs'; clear NB))
            have hbb := AL.out.grown hg' AL.out.size (by simp)
            have K7 := Lib.hid (KI.out.into hbb)
            have hgr : (w.heap.size + 2 ≤ gk ∧ w.heap.size + 2 ≤ wr.heap.size) ∧ gk < wr.heap.size := ⟨⟨HGK, by have := lt_of_heap KI.out.2.2.1; omega⟩, lt_of_heap KI.out.2.2.1⟩
            have RB7 := Lib.hid RB
            clear hbb hg' hs' AL RB p0 p1 p2 p3 p4 s0 sa s2 KI
            generalize wr.heap.size = gr at *
            obtain ⟨k0, k1⟩ := K7.out.2.2.1.cells
            obtain ⟨q0, q1, q2, q3, q4⟩ := RB7.out.cells
            dsimp only at q0 q1 q2 q3 q4
            go_wp2_with fail
            refine (hasM_any r1 sN r1l hs8 _).mono ?_
            rintro e W8 ⟨rfl, rfl⟩
            clear k0 k1 q0 q1 q2 q3 q4
            have OB := or_bit r1 dN r1l hd8
            have HOB := Lib.hid OB
            clear OB
            go_upto_if 26 with fail
            go_cut [] (fun wx => KRel w m acc (.slice (some ⟨b, off, none⟩) rs.length c) gk (rStep r1 ⟨(sN : Int), (dN : Int), xi, xo, xc⟩) l1 wx ∧ RlBlock wx gr ⟨(sN : Int), (dN : Int), xi, xo, xc⟩)
            case first =>
              cases h3 : r1.testBit sN with
              | true =>
                have HE := Lib.hid (show rStep r1 ⟨(sN : Int), (dN : Int), xi, xo, xc⟩ = r1 ||| 2 ^ dN by unfold rStep; rw [if_pos (show r1.testBit ((sN : Int)).toNat = true from h3)]; rfl)
                clear h3
                go_upto_region 8 with fail
                have CO := fun W => Lib.hid (onlyM_any dN hd8 W)
                have FW := Lib.hid (show ∀ W, Below W8.heap.size W8 W → (W.cell? ⟨gk, 0, none⟩ = some (.int .u8 (r1 : Nat)) ∧ W.frozen? ⟨gk, 0, none⟩ = false) ∧ W.cell? ⟨gr, 1, none⟩ = some (.int .i64 (dN : Nat)) from fun W h => ⟨⟨(K7.out.into h).2.2.1.cells.1, (K7.out.into h).2.2.1.free.1⟩, (RB7.out.below h).cells.2.1⟩)
                have C1 : ∀ W, Below W8.heap.size W8 W → Calls Tryd.prog 34 #[.int .i64 (dN : Nat)] W fun e w' => e = .returned (.int .u8 ((2 : Int) ^ dN)) ∧ Below W8.heap.size W8 w' := fun W h => ((CO W).out).mono fun e w' h' => ⟨h'.1, by rw [h'.2]; exact h⟩
                refine wp_normal ?_
                refine wp_region_phase (fun W => Below W8.heap.size W8 W) (fun W => KRel w m acc (.slice (some ⟨b, off, none⟩) rs.length c) gk (r1 ||| 2 ^ dN) l1 W ∧ RlBlock W gr ⟨(sN : Int), (dN : Int), xi, xo, xc⟩) 7 _ 33 32 (.pointer (some ⟨gk, 0, none⟩)) (.int .u8 ((r1 ||| 2 ^ dN : Nat) : Int)) 49 (by kernel_rfl) rfl rfl rfl rfl (by kernel_rfl) (by kernel_rfl) (Below.refl _ _).drew (fun W h => ?_) ?_
                · obtain ⟨⟨f0, fz⟩, f1⟩ := FW.out W h
                  refine ⟨W.setCell ⟨gk, 0, none⟩ (.int .u8 ((r1 ||| 2 ^ dN : Nat) : Int)), ?_, (K7.out.into h).put0 hgr.1.1 _, (RB7.out.below h).setCellK (by omega)⟩
                  go_simp
                · simp only [List.set_cons_succ, List.set_cons_zero, nopOf]
                  repeat (first | go_big_quiet_skip | (go_big_quiet_want; first | (go_big_quiet_op; go_big_quiet_on) | (refine quiet_value ?_ (fun W h => ?_) ?_; rotate_left; (· obtain ⟨⟨f0, fz⟩, f1⟩ := FW.out W h; go_simp; rfl); go_simp; go_big_quiet_on) | (refine quiet_call _ _ _ (fun W => ?_) C1 ?_; (· go_simp; done); go_simp; go_big_quiet_on)))
                  refine wpQuiet_nil ⟨rfl, by rw [← HOB.out]; rfl, ?_⟩
                  intro W h
                  refine ⟨trivial, ?_⟩
                  clear C1 FW CO K7 RB7
                  go_wp2_with fail
                  go_meet
                  exact ⟨by rw [HE.out]; exact h.1, h.2⟩
              | false =>
                have HE := Lib.hid (show rStep r1 ⟨(sN : Int), (dN : Int), xi, xo, xc⟩ = r1 by unfold rStep; rw [if_neg (show ¬ r1.testBit ((sN : Int)).toNat = true from fun e => by rw [show r1.testBit ((sN : Int)).toNat = r1.testBit sN from rfl, h3] at e; cases e)])
                clear h3
                go_wp2_with fail
                go_meet
                exact ⟨by rw [HE.out]; exact K7.out, RB7.out⟩
            case rest =>
              obtain ⟨hk9, hrb9⟩ := hcut
              obtain ⟨r2, hr2⟩ : ∃ r2, r2 = rStep r1 ⟨(sN : Int), (dN : Int), xi, xo, xc⟩ := ⟨_, rfl⟩
              rw [← hr2] at hk9 HSR
              have K9 := Lib.hid hk9
              have RB9 := Lib.hid hrb9
              have OC := or_bit l1 sN l1l hs8
              have HOC := Lib.hid OC
              obtain ⟨k0, k1⟩ := hk9.2.2.1.cells
              obtain ⟨q0, q1, q2, q3, q4⟩ := hrb9.cells
              dsimp only at q0 q1 q2 q3 q4
              clear hk9 hrb9 OC HOB K7 RB7 hr2
              generalize wc = W9 at *
              go_wp2_with fail
              refine (hasM_any l1 dN l1l hd8 _).mono ?_
              rintro e W9 ⟨rfl, rfl⟩
              clear k0 k1 q0 q1 q2 q3 q4
              cases h4 : l1.testBit dN with
              | true =>
                have HE := Lib.hid (show lStep l1 ⟨(sN : Int), (dN : Int), xi, xo, xc⟩ = l1 ||| 2 ^ sN by unfold lStep; rw [if_pos (show l1.testBit ((dN : Int)).toNat = true from h4)]; rfl)
                clear h4
                go_upto_region 10 with fail
                have CO := fun W => Lib.hid (onlyM_any sN hs8 W)
                have FW := Lib.hid (show ∀ W, Below W9.heap.size W9 W → (W.cell? ⟨gk, 1, none⟩ = some (.int .u8 (l1 : Nat)) ∧ W.frozen? ⟨gk, 1, none⟩ = false) ∧ W.cell? ⟨gr, 0, none⟩ = some (.int .i64 (sN : Nat)) from fun W h => ⟨⟨(K9.out.into h).2.2.1.cells.2, (K9.out.into h).2.2.1.free.2⟩, (RB9.out.below h).cells.1⟩)
                have C1 : ∀ W, Below W9.heap.size W9 W → Calls Tryd.prog 34 #[.int .i64 (sN : Nat)] W fun e w' => e = .returned (.int .u8 ((2 : Int) ^ sN)) ∧ Below W9.heap.size W9 w' := fun W h => ((CO W).out).mono fun e w' h' => ⟨h'.1, by rw [h'.2]; exact h⟩
                refine wp_normal ?_
                refine wp_region_phase (fun W => Below W9.heap.size W9 W) (fun W => KRel w m acc (.slice (some ⟨b, off, none⟩) rs.length c) gk r2 (l1 ||| 2 ^ sN) W ∧ RlBlock W gr ⟨(sN : Int), (dN : Int), xi, xo, xc⟩) 7 _ 45 44 (.pointer (some ⟨gk, 1, none⟩)) (.int .u8 ((l1 ||| 2 ^ sN : Nat) : Int)) 49 (by kernel_rfl) rfl rfl rfl rfl (by kernel_rfl) (by kernel_rfl) (Below.refl _ _).drew (fun W h => ?_) ?_
                · obtain ⟨⟨f0, fz⟩, f1⟩ := FW.out W h
                  refine ⟨W.setCell ⟨gk, 1, none⟩ (.int .u8 ((l1 ||| 2 ^ sN : Nat) : Int)), ?_, (K9.out.into h).put1 hgr.1.1 _, (RB9.out.below h).setCellK (by omega)⟩
                  go_simp
                · simp only [List.set_cons_succ, List.set_cons_zero, nopOf]
                  repeat (first | go_big_quiet_skip | (go_big_quiet_want; first | (go_big_quiet_op; go_big_quiet_on) | (refine quiet_value ?_ (fun W h => ?_) ?_; rotate_left; (· obtain ⟨⟨f0, fz⟩, f1⟩ := FW.out W h; go_simp; rfl); go_simp; go_big_quiet_on) | (refine quiet_call _ _ _ (fun W => ?_) C1 ?_; (· go_simp; done); go_simp; go_big_quiet_on)))
                  refine wpQuiet_nil ⟨rfl, by rw [← HOC.out]; rfl, ?_⟩
                  intro W h
                  refine ⟨trivial, ?_⟩
                  clear C1 FW CO K9 RB9
                  have K10 := Lib.hid h.1
                  clear h HOC
                  go_wp2_with fail
                  go_roundw
                  case rel => exact ⟨i + 1, by go_num, by omega, by rw [HSR.out, HSL.out, HE.out]; exact K10.out⟩
                  case measure => simp [intOf]; omega
              | false =>
                have HE := Lib.hid (show lStep l1 ⟨(sN : Int), (dN : Int), xi, xo, xc⟩ = l1 by unfold lStep; rw [if_neg (show ¬ l1.testBit ((dN : Int)).toNat = true from fun e => by rw [show l1.testBit ((dN : Int)).toNat = l1.testBit dN from rfl, h4] at e; cases e)])
                clear h4
                clear HOC RB9
                go_wp2_with fail
                go_roundw
                case rel => exact ⟨i + 1, by go_num, by omega, by rw [HSR.out, HSL.out, HE.out]; exact K9.out⟩
                case measure => simp [intOf]; omega
          · have hie : i = rs.length := by omega
            have HKJ := Lib.hid (show KRel w m acc (.slice a rs.length c) gk (rnds rStep rs (j + 1) 1) (rnds lStep rs (j + 1) acc) wr by
              have := KI.out
              rw [hie, List.take_length] at this
              unfold rnds
              rw [← HRE.out, ← HLE.out]
              exact this)
            clear KI hie
            go_wp2_with fail
            go_roundw
            case rel => exact ⟨j + 1, by go_num, by omega, HKJ.out⟩
            case measure => simp [intOf]; omega
      · have hje : j = m - 1 := by omega
        have HK0 := KR.out
        rw [hje] at HK0
        have HKF := Lib.hid HK0
        have HJE := Lib.hid hje
        obtain ⟨k0, k1⟩ := KR.out.2.2.1.cells
        have NB := KR.out.2.1
        clear HK0 hje s0 sa s2
        go_wp2_with (first | (refine wpList_store_k rfl _ _ rfl _ _ _ NB rfl _ _ rfl ?_; intro W7 KB hg' hs'; clear NB))
        refine ret_k rfl rfl rfl KB ?_
        exact ⟨by rw [HJE.out], HKF.out.2.2.2.grown hg' HKF.out.2.2.2.size (by simp)⟩
end Go.Proofs.YtadaijepalhohabDoor
