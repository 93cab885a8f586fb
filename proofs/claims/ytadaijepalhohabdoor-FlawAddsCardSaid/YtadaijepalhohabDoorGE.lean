/-
  flaw.firstChain: a search by breadth over a channel finds the first chain.
-/
import Derived.Test.YtadaijepalhohabDoorGD
namespace Go.Proofs.YtadaijepalhohabDoor
open Go.RowKit Go.Conc
open Pl

/-- At the outer loop's head. -/
def OuRel (p : Rl → Bool) (rs : List Rl) (st X m acc : Nat) (sv : Value) (w : World) (v : Value) (W : World) : Prop :=
  ∃ (S : Nat) (P Q : List Nat) (C : Nat → List Nat), v = .int .u8 (S : Nat) ∧ S < 256 ∧ (∀ t, t < 8 → (S.testBit t = true ↔ t ∈ P ++ Q)) ∧ (∀ d ∈ P ++ Q, d < m ∧ (C d).length ≤ P.length) ∧
    Out (edgeOf p rs) (rs.length + 2) st (fun t => X.testBit t = true) P Q C ∧ FcW w m acc sv P.length Q C (P ++ Q) W
/-- At the inner loop's head. -/
def InRel (p : Rl → Bool) (rs : List Rl) (st X m acc : Nat) (sv : Value) (w : World) (P : List Nat) (h : Nat) (v iv : Value) (W : World) : Prop :=
  ∃ (S i : Nat) (Q : List Nat) (C : Nat → List Nat), v = .int .u8 (S : Nat) ∧ iv = .int .i64 (i : Nat) ∧ i ≤ rs.length ∧ S < 256 ∧ (∀ t, t < 8 → (S.testBit t = true ↔ t ∈ P ++ h :: Q)) ∧ (∀ d ∈ P ++ h :: Q, d < m ∧ (C d).length ≤ P.length + 1) ∧ (C h).length ≤ P.length ∧
    Inn (edgeOf p rs) (rs.length + 2) st (fun t => X.testBit t = true) P h i Q C ∧ FcW w m acc sv (P.length + 1) Q C (P ++ h :: Q) W
set_option maxHeartbeats 2000000 in
set_option maxRecDepth 100000 in
theorem FirstChain_any (f : FuncId) (p : Rl → Bool) (hent : ∀ (args : Array Value) (W : World), (callFunc f args).run Tryd.prog W = .ok (.enter f args) W) (HF : ∀ (x : Rl) (W : World), Calls Tryd.prog f #[rlV x] W fun e w' => e = .returned (.bool (p x)) ∧ Below W.heap.size W w')
    (m acc st X : Nat) (a : Option Addr) (c : Nat) (rs : List Rl) (w : World) (hm1 : 1 ≤ m) (hm8 : m ≤ 8) (hst : st < m) (hX : X < 256) (hx : RlsAt w w.heap.size (.slice a rs.length c) rs) (hl : rs.length ≤ 100000) (hr : ∀ x ∈ rs, InM m x) :
    Calls Tryd.prog 36 #[.agg #[.int .i64 (m : Nat), .int .u8 (acc : Nat), .slice a rs.length c], .func (.func f) #[] #[], .int .i64 (st : Nat), .int .u8 (X : Nat)] w
      fun e w' => ∃ v, e = .returned v ∧ NumsOwn w' w.heap.size v (ints (fC p rs st (fun t => X.testBit t = true))) ∧ (fC p rs st (fun t => X.testBit t = true) = [] → v = .slice none 0 0) ∧ Below w.heap.size w w' := by
  have b1 := (Below.refl w.heap.size w).alloc (Nat.le_refl _) (.cells #[.int .i64 (m : Nat), .int .u8 (acc : Nat), .slice a rs.length c] 28)
  have s1 := SchBlock.new w (.int .i64 (m : Nat)) (.int .u8 (acc : Nat)) (.slice a rs.length c)
  have hz1 : (w.alloc (.cells #[.int .i64 (m : Nat), .int .u8 (acc : Nat), .slice a rs.length c] 28)).heap.size = w.heap.size + 1 := World.size_alloc _ _
  have HX := Lib.hid hx
  have HR := Lib.hid hr
  have HL := Lib.hid hl
  have HMC := fun W => make_chan m hm1 hm8 W
  have HML := fun W => make_lists m hm1 hm8 W
  obtain ⟨s0, sa, s2⟩ := s1.cells
  have S1 := Lib.hid s1
  have B1 := Lib.hid b1
  have hm0 : (m : Int) ≤ 8 := by omega
  have hstI : (st : Int) < (m : Int) := by omega
  have hst0 : (0 : Int) ≤ (st : Int) := by omega
  obtain ⟨R, hR⟩ : ∃ R, R = fC p rs st (fun t => X.testBit t = true) := ⟨_, rfl⟩
  rw [← hR]
  have HRE := Lib.hid hR
  clear hx hr hl s1 b1 hR
  go_enter Tryd.func36, Tryd.ntmps36
  go_upto_region 1 with fail
  generalize w.alloc _ = x1 at *
  go_upto_region 2 with fail
  have bl2 := (Below.refl x1.heap.size x1).alloc (Nat.le_refl _) (.chan m #[] false 0 0 false)
  have c2 : (x1.alloc (.chan m #[] false 0 0 false)).heap[x1.heap.size]? = some (.chan m #[] false 0 0 false) := heap_alloc_new x1 _
  rw [hz1] at c2
  have hz2 : (x1.alloc (.chan m #[] false 0 0 false)).heap.size = w.heap.size + 2 := by rw [World.size_alloc, hz1]
  have S2 := Lib.hid (S1.out.below bl2)
  have B2 := Lib.hid (B1.out.trans (bl2.mono B1.out.size))
  clear s0 sa s2 bl2 S1 B1 HMC
  generalize x1.alloc _ = x2 at *
  obtain ⟨s0, sa, s2⟩ := S2.out.cells
  go_upto_region 3 with fail
  have l3 : (x2.alloc (.cells (Array.replicate m (Value.slice none 0 0)) 35)).heap[x2.heap.size]? = some (.cells (Array.replicate m (Value.slice none 0 0)) 35 (0, 0)) := heap_alloc_new x2 _
  rw [hz2] at l3
  have bl3 := (Below.refl x2.heap.size x2).alloc (Nat.le_refl _) (.cells (Array.replicate m (Value.slice none 0 0)) 35)
  have c3 := (bl3.block (w.heap.size + 1) (by omega)).trans c2
  have K3 := Lib.hid (show FcW w m acc (.slice a rs.length c) 0 [] (fun _ => []) [st] (x2.alloc (.cells (Array.replicate m (Value.slice none 0 0)) 35)) from
    ⟨S2.out.below bl3, ⟨0, c3⟩, ListsAt.start l3 hst, B2.out.trans (bl3.mono B2.out.size), by rw [World.size_alloc, hz2]; exact Nat.le_refl _⟩)
  clear s0 sa s2 bl3 S2 B2 HML l3 c2 c3
  generalize x2.alloc _ = x3 at *
  clear hz1 hz2
  obtain ⟨sn, c3⟩ := K3.out.2.1
  refine wp_region_to ?_
  change OpsTo _ _ _ [0, 1, 2] _ _
  refine OpsTo.value rfl rfl (.chan (some (w.heap.size + 1))) (by go_simp; rfl) ?_
  refine OpsTo.value rfl rfl (.int .i64 (st : Nat)) (by go_simp; rfl) ?_
  refine OpsTo.send (c := w.heap.size + 1) (v := .int .i64 (st : Nat)) (z := .tuple #[]) rfl rfl (by go_simp; rfl) c3 (by simp [bufQ]; omega) ?_
  refine OpsTo.nil ?_
  rw [bufQ_push, List.nil_append]
  have K4 := Lib.hid (K3.out.chan (r' := 0) (s' := sn + 1) (Q' := [st]))
  clear K3 c3
  generalize x3.setChan _ _ _ _ _ _ _ = x4 at *
  have CO := fun W => Lib.hid (onlyM_any st (by omega) W)
  go_wp2_with fail
  refine ((CO x4).out).mono ?_
  rintro e x5 ⟨rfl, rfl⟩
  have hp2 : ((2 : Int) ^ st) = ((2 ^ st : Nat) : Int) := by push_cast; rfl
  rw [hp2]
  clear hp2 CO
  go_wp2_with fail
  go_loopw [11] (fun sv wr => OuRel p rs st X m acc (.slice a rs.length c) w sv wr) (fun _ wr => m - recvs wr (w.heap.size + 1))
  case atStart =>
    refine ⟨2 ^ st, [], [st], fun _ => [], rfl, ?_, fun t _ => ?_, fun d hd => ?_, Out.start _ _ _ _ (by omega), K4.out⟩
    · have := Nat.pow_lt_pow_right (a := 2) (by decide) (show st < 8 by omega)
      omega
    · rw [pow_bit]; simp
    · obtain rfl : d = st := by simpa using hd
      exact ⟨hst, Nat.le_refl _⟩
  case round =>
    obtain ⟨S, P, Q, C, rfl, hS, hbit, hlt, hout, hk⟩ := hrel
    have KW := Lib.hid hk
    have HBT := Lib.hid hbit
    have HLT := Lib.hid hlt
    obtain ⟨sq, cq⟩ := hk.2.1
    have HRC := Lib.hid hk.2.1.recvs
    have hlen0 := fun ty => run_len_chan (P := Tryd.prog) 68 ty Tryd.underlying68 cq
    have HPL := Lib.hid (nodup_len m (P ++ Q) hout.nd (fun d hd => (hlt d hd).1))
    clear hk hbit hlt K4
    cases Q with
    | nil =>
      have HN := Lib.hid (HRE.out.trans (fC_none hout.none))
      have hlen := fun ty => (show (Builtin.len_ #[68] ty #[Value.chan (some (w.heap.size + 1))]).run Tryd.prog wr = .ok (.int .i64 0) wr from hlen0 ty)
      clear hout hlen0
      go_wp2_with fail
      go_ret
      exact ⟨_, rfl, by rw [HN.out]; exact NumsOwn.nil _ _, fun _ => rfl, KW.out.2.2.2.1⟩
    | cons h Q =>
      obtain ⟨n, hn⟩ : ∃ n : Nat, n = Q.length + 1 := ⟨_, rfl⟩
      have hlen := fun ty => (show (Builtin.len_ #[68] ty #[Value.chan (some (w.heap.size + 1))]).run Tryd.prog wr = .ok (.int .i64 (n : Int)) wr by
        have h := hlen0 ty
        rw [bufQ_size, List.length_cons, ← hn] at h
        exact h)
      have hpos : (0 : Int) < (n : Int) := by omega
      have HO := Lib.hid hout
      clear hout hlen0 hn
      go_upto_region 6 with fail
      clear hlen hpos
      refine wp_region_to ?_
      change OpsTo _ _ _ [0, 1, 2] _ _
      refine OpsTo.value rfl rfl (.chan (some (w.heap.size + 1))) (by go_simp; rfl) ?_
      refine OpsTo.recv (c := w.heap.size + 1) (z := .int .i64 0) rfl rfl (by go_simp; rfl) cq (by rw [bufQ_size, List.length_cons]; omega) ?_
      rw [bufQ_head, bufQ_tail]
      refine OpsTo.value rfl rfl (.int .i64 (h : Nat)) (by go_simp; rfl) ?_
      refine OpsTo.nil ?_
      have K5 := Lib.hid (show FcW w m acc (.slice a rs.length c) (P.length + 1) Q C (P ++ h :: Q) (wr.setChan (w.heap.size + 1) m (bufQ Q) false sq (P.length + 1) false) from KW.out.chan)
      clear KW cq
      generalize wr.setChan _ _ _ _ _ _ _ = x6 at *
      obtain ⟨s0, sa, s2⟩ := K5.out.1.cells
      have HI := Lib.hid HO.out.enter
      have HHM := HLT.out h (by simp)
      have hhm : (h : Int) < (m : Int) := by omega
      have hh0 : (0 : Int) ≤ (h : Int) := by omega
      have HCL := Lib.hid HHM.2
      clear HHM
      go_wp2_with fail
      clear s0 sa s2
      go_loopw [11, 33] (fun sv iv wr => InRel p rs st X m acc (.slice a rs.length c) w P h sv iv wr) (fun _ iv _ => rs.length - (intOf iv).toNat)
      case atStart =>
        exact ⟨S, 0, Q, C, rfl, rfl, Nat.zero_le _, hS, HBT.out, fun d hd => ⟨(HLT.out d hd).1, by have := (HLT.out d hd).2; omega⟩, HCL.out, HI.out, K5.out⟩
      case round =>
        clear HBT HLT HI K5 HCL HO hS
        obtain ⟨S, i, Q, C, rfl, rfl, hi, hS, hbit, hlt, hcl, hinn, hk⟩ := hrel
        have KI := Lib.hid hk
        have HBT := Lib.hid hbit
        have HLT := Lib.hid hlt
        have HIN := Lib.hid hinn
        have HCL := Lib.hid hcl
        clear hk hbit hlt hinn hcl
        have i0 : (0 : Int) ≤ (i : Int) := by omega
        by_cases h1 : (i : Int) < (rs.length : Int)
        · have hil : i < rs.length := by omega
          obtain ⟨x, hxe⟩ : ∃ x, x = rs[i] := ⟨_, rfl⟩
          have hxm : InM m x := by rw [hxe]; exact HR.out _ (List.getElem_mem hil)
          obtain ⟨a', c', hv, hP⟩ := HX.out.on KI.out.2.2.2.1
          obtain ⟨rfl, -⟩ : a = a' ∧ c = c' := by simpa using hv
          obtain ⟨b, off, ha, hlt2, hc⟩ := hP (by omega)
          subst ha
          obtain ⟨p0, p1, p2, p3, p4⟩ := hc i hil
          rw [← hxe] at p0 p1 p2 p3 p4
          have HEA := Lib.hid (edgeOf_at (p := p) hil)
          rw [← hxe] at HEA
          obtain ⟨xs, xd, xi, xo, xc⟩ := x
          obtain ⟨⟨e0, e1⟩, e2, e3⟩ := hxm
          dsimp only at e0 e1 e2 e3
          obtain ⟨sN, hsN⟩ : ∃ n : Nat, xs = (n : Int) := ⟨xs.toNat, by omega⟩
          obtain ⟨dN, hdN⟩ : ∃ n : Nat, xd = (n : Int) := ⟨xd.toNat, by omega⟩
          subst hsN
          subst hdN
          have hdm : dN < m := by omega
          dsimp only at p0 p1 p2 p3 p4
          have CF := fun W => Lib.hid (HF ⟨(sN : Int), (dN : Int), xi, xo, xc⟩ W)
          have HEA2 := Lib.hid (show edgeOf p rs i = if p ⟨(sN : Int), (dN : Int), xi, xo, xc⟩ = true then some (sN, dN) else none from HEA.out)
          have hLm := HL.out
          clear hxe e0 e1 e2 e3 hP hc hv HEA
          have NB : RlBlock (wr.alloc (.cells #[.int .i64 0, .int .i64 0, .string ⟨#[]⟩, .string ⟨#[]⟩, .int .i64 0] 31)) wr.heap.size ⟨0, 0, [], [], 0⟩ := heap_alloc_new wr _
          have AL := Lib.hid ((Below.refl wr.heap.size wr).alloc (Nat.le_refl _) (.cells #[.int .i64 0, .int .i64 0, .string ⟨#[]⟩, .string ⟨#[]⟩, .int .i64 0] 31))
          go_upto_region 10 with (first | (refine wpList_store_rl rfl _ _ rfl _ _ NB rfl ⟨(sN : Int), (dN : Int), xi, xo, xc⟩ rfl ?_; intro W7 RB hg' hs'; clear NB))
          have hbb := AL.out.grown hg' AL.out.size (by simp)
          have K7 := Lib.hid (KI.out.into hbb)
          have hgr : w.heap.size + 3 ≤ wr.heap.size := KI.out.2.2.2.2
          have RB7 := Lib.hid RB
          clear hbb hg' hs' AL RB p0 p1 p2 p3 p4 KI hlt2
          generalize wr.heap.size = gr at *
          obtain ⟨q0, q1, q2, q3, q4⟩ := RB7.out.cells
          dsimp only at q0 q1 q2 q3 q4
          by_cases h3 : sN = h
          · have hne : ((sN : Int) != (h : Int)) = false := by rw [h3]; simp
            obtain ⟨bp, hbp⟩ : ∃ bp, bp = p ⟨(sN : Int), (dN : Int), xi, xo, xc⟩ := ⟨_, rfl⟩
            change ∀ W, Hid (Calls _ _ #[.agg #[.int .i64 (sN : Int), .int .i64 (dN : Int), .string (B xi), .string (B xo), .int .i64 xc]] W _) at CF
            rw [← hbp] at CF HEA2
            have HS := Lib.hid h3
            clear h3 hbp
            go_wp2_with fail
            refine ((CF _).out).mono ?_
            rintro e W8 ⟨rfl, hb8⟩
            have K8 := Lib.hid (K7.out.into hb8)
            have RB8 := Lib.hid (RB7.out.below hb8)
            clear hb8 CF K7 RB7 q0 q1 q2 q3 q4
            obtain ⟨q0, q1, q2, q3, q4⟩ := RB8.out.cells
            dsimp only at q0 q1 q2 q3 q4
            cases bp with
            | false =>
              have HNX := Lib.hid (HIN.out.next (fun b e => by rw [HEA2.out] at e; cases e))
              go_wp2_with fail
              go_roundw
              case rel => exact ⟨S, i + 1, Q, C, rfl, by go_num, by omega, hS, HBT.out, HLT.out, HCL.out, HNX.out, K8.out⟩
              case measure => simp [intOf]; omega
            | true =>
              have HE := Lib.hid (show edgeOf p rs i = some (h, dN) by rw [HEA2.out, ← HS.out]; rfl)
              have CX := fun W => Lib.hid (hasM_any X dN hX (by omega) W)
              go_wp2_with fail
              refine ((CX _).out).mono ?_
              rintro e W9 ⟨rfl, rfl⟩
              obtain ⟨va, vc, cl, ho⟩ := K8.out.2.2.1.get (d := h) (by simp)
              have HOW := Lib.hid ho
              clear CX HEA2
              cases hw : X.testBit dN with
              | true =>
                have HRN := Lib.hid (HRE.out.trans (fC_first (HIN.out.hit (by omega) (by omega) HE.out hw)))
                have CW := Lib.hid (With_any (ints (C h)) (i : Int) va vc W9 HOW.out.at (by rw [ints_len]; have := HCL.out; have := HPL.out; simp at this; omega) HOW.out.nilCap)
                clear hw
                go_wp2_with fail
                refine (CW.out).mono ?_
                rintro e W10 ⟨v, rfl, hov, hb10⟩
                have HV := Lib.hid hov
                have HB := Lib.hid (K8.out.2.2.2.1.trans (hb10.mono K8.out.2.2.2.1.size))
                have HZ := Lib.hid (show w.heap.size ≤ W9.heap.size from K8.out.2.2.2.1.size)
                clear hov hb10 CW
                go_wp2_with fail
                go_ret
                exact ⟨v, rfl, by rw [HRN.out, ints_snoc]; exact HV.out.base HZ.out, fun hh => by rw [HRN.out] at hh; simp at hh, HB.out⟩
              | false =>
                have HW := Lib.hid hw
                have CS := fun W => Lib.hid (hasM_any S dN hS (by omega) W)
                clear hw
                go_wp2_with fail
                refine ((CS _).out).mono ?_
                rintro e W10 ⟨rfl, rfl⟩
                clear CS
                cases hs : S.testBit dN with
                | true =>
                  have HNX := Lib.hid (HIN.out.next (fun b e => by
                    rw [HE.out] at e
                    obtain rfl : dN = b := by simpa using e
                    exact ⟨(HBT.out dN (by omega)).1 hs, by rw [HW.out]; simp⟩))
                  clear hs
                  go_wp2_with fail
                  go_roundw
                  case rel => exact ⟨S, i + 1, Q, C, rfl, by go_num, by omega, hS, HBT.out, HLT.out, HCL.out, HNX.out, K8.out⟩
                  case measure => simp [intOf]; omega
                | false =>
                  have HND := Lib.hid (show dN ∉ P ++ h :: Q from fun e => by rw [(HBT.out dN (by omega)).2 e] at hs; cases hs)
                  have HFD := Lib.hid (HIN.out.find (by omega) (by omega) HE.out (by rw [HW.out]; simp) HND.out)
                  have CO := fun W => Lib.hid (onlyM_any dN (by omega) W)
                  have OB := Lib.hid (or_bit S dN hS (by omega))
                  have HSL := Lib.hid (or_lt S dN hS (by omega))
                  clear hs
                  go_wp2_with fail
                  refine ((CO _).out).mono ?_
                  rintro e W11 ⟨rfl, rfl⟩
                  go_upto_region 15 with fail
                  rw [OB.out]
                  have FW := Lib.hid (show ∀ W, Below W11.heap.size W11 W → W.cell? ⟨gr, 1, none⟩ = some (.int .i64 (dN : Nat)) ∧ W.cell? ⟨w.heap.size + 2, h, none⟩ = some (.slice va (ints (C h)).length vc) from fun W hW => ⟨(RB8.out.below hW).cells.2.1, (hW.cell (p := ⟨w.heap.size + 2, h, none⟩) (World.block_lt_of_cell? _ _ cl)).trans cl⟩)
                  have CW := fun W (hW : Below W11.heap.size W11 W) => Lib.hid (With_any (ints (C h)) (i : Int) va vc W (HOW.out.below hW).at (by rw [ints_len]; have := HCL.out; have := HPL.out; simp at this; omega) HOW.out.nilCap)
                  have hd0 : (0 : Int) ≤ (dN : Int) := by omega
                  have hdm' : (dN : Int) < (m : Int) := by omega
                  clear q0 q1 q2 q3 q4 cl ho CO OB
                  refine wp_normal ?_
                  refine wp_region_pick (C := fun W => Below W11.heap.size W11 W) [0, 1, 2, 3, 4, 5, 6, 7] [8, 9, 10] (fun j => decide (10 ≤ j)) (by kernel_rfl) (by kernel_rfl) (by kernel_rfl) rfl (by kernel_rfl) (Below.refl _ _).drew (fun c d v a w h => by cases h.1) ?_
                  refine hoistI_step (.slice (some ⟨w.heap.size + 2, 0, none⟩) m m) rfl (fun W hW => by go_simp) ?_
                  refine hoistI_step (.pointer (some ⟨gr, 1, none⟩)) rfl (fun W hW => by go_simp) ?_
                  refine hoistI_step (.int .i64 (dN : Nat)) rfl (fun W hW => by obtain ⟨f0, f1⟩ := FW.out W hW; go_simp) ?_
                  refine hoistI_step (.slice (some ⟨w.heap.size + 2, 0, none⟩) m m) rfl (fun W hW => by go_simp) ?_
                  refine hoistI_step (.int .i64 (h : Nat)) rfl (fun W hW => by go_simp) ?_
                  refine hoistI_step (.pointer (some ⟨w.heap.size + 2, h, none⟩)) rfl (fun W hW => by go_simp) ?_
                  refine hoistI_step (.slice va (ints (C h)).length vc) rfl (fun W hW => by obtain ⟨f0, f1⟩ := FW.out W hW; go_simp) ?_
                  refine hoistI_step (.int .i64 (i : Nat)) rfl (fun W hW => by go_simp) ?_
                  refine hoistI_done (seqI_step ?_)
                  refine wpOp_call 48 #[.slice va (ints (C h)).length vc, .int .i64 (i : Nat)] rfl rfl (by go_simp) ((CW _ (Below.refl _ _).drew).out) ?_
                  rintro e W12 ⟨v, rfl, hov, hb12⟩
                  obtain ⟨v2, c2, rfl⟩ := hov.shape
                  refine ⟨_, rfl, fun _ => (Below.refl _ _).drew.trans (hb12.mono (Below.refl W11.heap.size W11).drew.size), ?_⟩
                  have hb := (Below.refl W11.heap.size W11).drew.trans (hb12.mono (Below.refl W11.heap.size W11).drew.size)
                  have K12 := Lib.hid (K8.out.into hb)
                  have RB12 := Lib.hid (RB8.out.below hb)
                  have HV := Lib.hid (show NumsOwn W12 (w.heap.size + 3) (.slice v2 (ints (C h) ++ [(i : Int)]).length c2) (ints (C h ++ [i])) by rw [ints_snoc]; exact hov.base K8.out.2.2.2.2)
                  obtain ⟨vv, hcz⟩ := K12.out.2.2.1.any (d := dN) hdm
                  have hfz := K12.out.2.2.1.free dN
                  have hcz' : W12.frozen? ⟨w.heap.size + 2, dN, none⟩ = false := hfz
                  refine seqI_step ?_
                  refine wpOp_value (w' := W12) (.pointer (some ⟨w.heap.size + 2, dN, none⟩)) rfl rfl (by go_simp) ⟨fun _ => hb, ?_⟩
                  refine seqI_step ?_
                  refine wpOp_skip (w' := W12.setCell ⟨w.heap.size + 2, dN, none⟩ (.slice v2 (ints (C h) ++ [(i : Int)]).length c2)) rfl rfl (by go_simp) ⟨fun hh => absurd hh (by decide), seqI_done ⟨rfl, ?_⟩⟩
                  have K13 := Lib.hid (K12.out.put (D' := P ++ h :: (Q ++ [dN])) hdm HND.out HV.out (fun d hd => by
                    have : d ∈ (P ++ h :: Q) ++ [dN] := by simpa using hd
                    rcases List.mem_append.1 this with q | q
                    · exact Or.inl q
                    · exact Or.inr (by simpa using q)))
                  have RB13 := Lib.hid (RB12.out.setCellK (b' := w.heap.size + 2) (o := dN) (u := .slice v2 (ints (C h) ++ [(i : Int)]).length c2) (by omega))
                  clear K12 RB12 hcz hfz hcz' HV hov hb hb12 FW CW K8 RB8
                  generalize W12.setCell _ _ = x13 at *
                  obtain ⟨q0, q1, q2, q3, q4⟩ := RB13.out.cells
                  dsimp only at q0 q1 q2 q3 q4
                  obtain ⟨s4, c4⟩ := K13.out.2.1
                  have HLQ := Lib.hid (nodup_len m (P ++ h :: (Q ++ [dN])) HFD.out.nd (fun d hd => by
                    have : d ∈ (P ++ h :: Q) ++ [dN] := by simpa using hd
                    rcases List.mem_append.1 this with q | q
                    · exact (HLT.out d q).1
                    · obtain rfl : d = dN := by simpa using q
                      exact hdm))
                  go_upto_region 16 with fail
                  refine wp_region_to ?_
                  change OpsTo _ _ _ [0, 1, 2, 3] _ _
                  refine OpsTo.value rfl rfl (.chan (some (w.heap.size + 1))) (by go_simp; rfl) ?_
                  refine OpsTo.value rfl rfl (.pointer (some ⟨gr, 1, none⟩)) (by go_simp; rfl) ?_
                  refine OpsTo.value rfl rfl (.int .i64 (dN : Nat)) (by go_simp; rfl) ?_
                  refine OpsTo.send (c := w.heap.size + 1) (v := .int .i64 (dN : Nat)) (z := .tuple #[]) rfl rfl (by go_simp; rfl) c4 (by rw [bufQ_size]; have := HLQ.out; simp at this; omega) ?_
                  refine OpsTo.nil ?_
                  rw [bufQ_push]
                  have K14 := Lib.hid (show FcW w m acc (.slice (some ⟨b, off, none⟩) rs.length c) (P.length + 1) (Q ++ [dN]) (put C dN (C h ++ [i])) (P ++ h :: (Q ++ [dN])) (x13.setChan (w.heap.size + 1) m (bufQ (Q ++ [dN])) false (s4 + 1) (P.length + 1) false) from K13.out.chan)
                  have HQ2 := Lib.hid (show put C dN (C h ++ [i]) h = C h from put_other C _ (fun e => HND.out (by rw [← e]; simp)))
                  clear K13 RB13 c4 q0 q1 q2 q3 q4
                  generalize x13.setChan _ _ _ _ _ _ _ = x14 at *
                  go_wp2_with fail
                  go_roundw
                  case rel =>
                    refine ⟨S ||| 2 ^ dN, i + 1, Q ++ [dN], put C dN (C h ++ [i]), rfl, by go_num, by omega, HSL.out, fun t ht => ?_, fun d hd => ?_, by rw [HQ2.out]; exact HCL.out, HFD.out, K14.out⟩
                    · rw [Nat.testBit_or, Bool.or_eq_true, HBT.out t ht, pow_bit]
                      simp
                      grind
                    · have hd2 : d ∈ (P ++ h :: Q) ++ [dN] := by simpa using hd
                      rcases List.mem_append.1 hd2 with q | q
                      · rw [put_other C _ (fun e => HND.out (by rw [← e]; exact q))]; exact HLT.out d q
                      · obtain rfl : d = dN := by simpa using q
                        rw [put_same]
                        exact ⟨hdm, by rw [List.length_append, List.length_singleton]; have := HCL.out; omega⟩
                  case measure => simp [intOf]; omega
          · have hne : ((sN : Int) != (h : Int)) = true := by
              have q : ¬ ((sN : Int) = (h : Int)) := by omega
              simpa using q
            have HNX := Lib.hid (HIN.out.next (fun b e => by
              rw [HEA2.out] at e
              split at e
              · have := Option.some.inj e
                exact absurd (Prod.mk.inj this).1 h3
              · cases e))
            clear h3 CF HEA2
            go_wp2_with fail
            go_roundw
            case rel => exact ⟨S, i + 1, Q, C, rfl, by go_num, by omega, hS, HBT.out, HLT.out, HCL.out, HNX.out, K7.out⟩
            case measure => simp [intOf]; omega
        · have hie : i = rs.length := by omega
          have HOE := Lib.hid (HIN.out.leave (by omega) (fun k a b e => by rw [hie]; exact edgeOf_lt k a b e))
          have HRC2 := Lib.hid KI.out.2.1.recvs
          go_wp2_with fail
          go_roundw
          case rel => exact ⟨S, P ++ [h], Q, C, rfl, hS, fun t ht => by rw [HBT.out t ht]; simp, fun d hd => by rw [List.length_append]; exact HLT.out d (by simpa using hd), HOE.out, by rw [List.length_append]; exact KI.out.sub fun d hd => by simpa using hd⟩
          case measure =>
            rw [HRC.out, HRC2.out]
            have := HPL.out
            simp at this
            omega
end Go.Proofs.YtadaijepalhohabDoor
