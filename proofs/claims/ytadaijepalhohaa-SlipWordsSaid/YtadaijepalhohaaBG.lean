/-
  SlipWords' walk.
-/
import Derived.Test.YtadaijepalhohaaBF
namespace Go.Proofs.Ytadaijepalhohaa
open Go.RowKit
open Pl

set_option maxHeartbeats 4000000 in
set_option maxRecDepth 100000 in
theorem SlipWords_any (c0 c1 c2 c3 : Nat) (ra : Option Addr) (rn rc : Nat) (a1 : Option Addr) (n1 k1 : Nat) (a2 : Option Addr) (n2 k2 : Nat) (w : World) (hx : c0 < 256 ∧ c1 < 256 ∧ c2 < 256 ∧ c3 < 256 ∧ rn ≤ maxLen ∧ TrisAt w w.heap.size (.slice ra rn rc) rn) (h1 : n1 ≤ maxLen ∧ U8At w w.heap.size (.slice a1 n1 k1) n1) (h2 : n2 ≤ maxLen ∧ U8ssAt w w.heap.size (.slice a2 n2 k2) n2) :
    Calls Try.prog 10 #[.agg #[.int .u8 (c0 : Nat), .int .u8 (c1 : Nat), .int .u8 (c2 : Nat), .int .u8 (c3 : Nat), .slice ra rn rc], .slice a1 n1 k1, .slice a2 n2 k2] w fun e w' => e = .returned (.bool true) ∧ Below w.heap.size w w' := by
  obtain ⟨hx0, hx1, hx2, hx3, hxn, hxt⟩ := hx
  have HX := Lib.hid hxt
  clear hxt
  obtain ⟨hn1, hu1⟩ := h1
  obtain ⟨hn2, hu2⟩ := h2
  have U1 := Lib.hid hu1
  have U2 := Lib.hid hu2
  clear hu1 hu2
  have B1 := Lib.hid ((Below.refl w.heap.size w).alloc (Nat.le_refl _) (.cells #[.int .u8 (c0 : Nat), .int .u8 (c1 : Nat), .int .u8 (c2 : Nat), .int .u8 (c3 : Nat), .slice ra rn rc] 25))
  have K0 := Blk.new w 25 [.int .u8 (c0 : Nat), .int .u8 (c1 : Nat), .int .u8 (c2 : Nat), .int .u8 (c3 : Nat), .slice ra rn rc]
  have K0 := Lib.hid K0
  go_enter Try.func10, Try.ntmps10
  go_upto_region 1 with fail
  generalize hgw : w.alloc _ = w1 at *
  clear hgw
  have CS := San_any w1
  go_wp2_with fail
  refine CS.mono ?_
  rintro e w2 ⟨rfl, hb⟩
  clear CS
  have K0 := Lib.hid (K0.out.below hb)
  have B2 := Lib.hid (B1.out.trans (hb.mono B1.out.size))
  clear hb B1
  have q0 := K0.out.cell 0
  have q1 := K0.out.cell 1
  have q2 := K0.out.cell 2
  have q3 := K0.out.cell 3
  have q4 := K0.out.cell 4
  simp only [List.getElem?_cons_succ, List.getElem?_cons_zero] at q0 q1 q2 q3 q4
  have CM := Made_any c0 c1 c2 c3 ra rn rc w2 hx0 hx1 hx2 hx3 (HX.out.on B2.out) hxn
  clear hx0 hx2 hx3
  go_wp2_with fail
  refine CM.mono ?_
  rintro e w3 ⟨⟨s, sa, sc, rfl, hs, hso⟩, hb⟩
  have B3 := Lib.hid (B2.out.trans (hb.mono B2.out.size))
  have HS := Lib.hid hs
  have b4 := (Below.refl w3.heap.size w3).alloc (Nat.le_refl _) (.cells #[.int .i64 s.swap, .int .i64 s.drop, .int .i64 s.add, .int .i64 s.put, .slice sa s.alike.length sc] 32)
  have AL := Lib.hid (hso.at.on b4)
  have SB := Lib.hid (SlBlock.new w3 s (.slice sa s.alike.length sc))
  have K0 := Lib.hid ((K0.out.below hb).below b4)
  have B4 := Lib.hid (B3.out.trans (b4.mono B3.out.size))
  clear CM hb hs hso b4 q0 q1 q2 q3 q4 B2 B3
  go_upto_region 3 with fail
  generalize hgw : w3.alloc _ = w4 at *
  generalize hgb : w3.heap.size = sb at *
  clear hgw hgb
  have PK := fun (W : World) (h : Below w4.heap.size w4 W) => (show AlsAt W W.heap.size (.slice sa s.alike.length sc) s.alike from AL.out.on h)
  have PC := fun (W : World) (h : Below w4.heap.size w4 W) => (SB.out.below h).cells
  have CT := Text_any a1 n1 k1 8 w4 (U1.out.on B4.out) hn1 (by decide)
  go_wp2_with fail
  refine CT.mono ?_
  rintro e w5 ⟨⟨ta, rfl, hta⟩, hb⟩
  have B5 := Lib.hid hb
  clear CT hb
  have CT := Words_any a2 n2 k2 12 w5 (U2.out.on (B4.out.trans (B5.out.mono B4.out.size))) hn2 (by decide)
  go_wp2_with fail
  refine CT.mono ?_
  rintro e w6 ⟨⟨ws, wa, wc, rfl, hwl, hw5, hwa⟩, hb⟩
  have B6 := Lib.hid (B5.out.trans (hb.mono B5.out.size))
  have WS := Lib.hid hwa
  have W5 := Lib.hid hw5
  clear CT hb U1 U2 B5 hwa hw5
  have LS : s.alike.length ≤ 1000000 := Nat.le_trans HS.out.len (by decide)
  have k1c := (K0.out.below B6.out).cell 1
  simp only [List.getElem?_cons_succ, List.getElem?_cons_zero] at k1c
  obtain ⟨mo, hmo⟩ : ∃ mo, mo = c1 / 8 := ⟨_, rfl⟩
  have e1 : (c1 : Int) / 8 = (mo : Int) := by omega
  have e2 : (c1 : Int).tdiv 8 = (mo : Int) := by rw [Int.tdiv_eq_ediv_of_nonneg (by omega)]; exact e1
  have e3 : (0 : Int) ≤ (mo : Int) := by omega
  have e4 : (mo : Int) ≤ 31 := by omega
  have e5 : (0 : Int) ≤ (c1 : Int) := by omega
  have e6 : (c1 : Int) ≤ 255 := by omega
  obtain ⟨q0, q1, q2, q3, q4⟩ := PC w6 B6.out
  clear hmo
  go_upto_region 6 with fail
  first | rw [e1] | rw [e2] | skip
  have CN := Nearest_any s HS.out.bd sa sc ta ws wa wc mo w6 (PK w6 B6.out) LS (by omega) WS.out (by omega) (fun m hm => Nat.le_trans (W5.out m hm) (by decide))
  clear e1 e2 e5 e6 k1c hx1
  go_wp2_with fail
  refine CN.mono ?_
  rintro e w7 ⟨⟨nv, R, rfl, hR, hf⟩, hb⟩
  have B7 := Lib.hid (B6.out.trans (hb.mono B6.out.size))
  have WS := Lib.hid (WS.out.on hb)
  have FR := Lib.hid hf
  have HR := Lib.hid hR
  obtain ⟨fa, fc, rfl, -⟩ := hf
  clear CN hb hR q0 q1 q2 q3 q4 B6
  have rl : R.length ≤ ws.length := by rw [HR.out.1]; exact nearL_len s ta mo ws ws.length
  have g0 : ¬ (ws.length < R.length) := by omega
  have RR := Lib.hid (Below.refl w7.heap.size w7)
  go_wp2_with fail
  go_loopw [13, 14] (fun cv iv wr => ∃ i n : Nat, iv = .int .i64 (i : Nat) ∧ cv = .int .i64 (n : Nat) ∧ i ≤ ws.length ∧ n = (nearL s ta mo ws i).length ∧ Below w7.heap.size w7 wr) (fun _ iv _ => ws.length - (intOf iv).toNat)
  case atStart => exact ⟨0, 0, rfl, rfl, Nat.zero_le _, rfl, RR.out⟩
  case round =>
    obtain ⟨i, n, rfl, rfl, hi, hn, hb⟩ := hrel
    have n12 : n ≤ ws.length := by have := nearL_len s ta mo ws i; omega
    have HNN := Lib.hid hn
    clear hn
    clear RR
    have HB := Lib.hid hb
    have BD := Lib.hid (B7.out.trans (hb.mono B7.out.size))
    clear hb
    have i0' : (0 : Int) ≤ (i : Int) := by omega
    by_cases h1 : (i : Int) < (ws.length : Int)
    · have hiw : i < ws.length := by omega
      obtain ⟨a', c', hv, hP⟩ := WS.out
      obtain ⟨rfl, rfl⟩ : wa = a' ∧ wc = c' := by simpa using hv
      obtain ⟨b, off, ha, hlt, hc⟩ := hP (by omega)
      subst ha
      have p0 := hc i hiw
      have hm := W5.out _ (List.getElem_mem hiw)
      have HN0 := nearL_succ s ta mo ws i hiw
      obtain ⟨m, hme⟩ : ∃ m, m = ws[i] := ⟨_, rfl⟩
      rw [← hme] at p0 hm HN0
      obtain ⟨d, hd⟩ : ∃ d, d = D s m ta := ⟨_, rfl⟩
      have C1 := Lib.hid (show ∀ W, Below wr.heap.size wr W → Calls Try.prog 15 #[.agg #[.int .i64 s.swap, .int .i64 s.drop, .int .i64 s.add, .int .i64 s.put, .slice sa s.alike.length sc], .string (B ta), .string (B m)] W fun e w' => e = .returned (.int .i64 d) ∧ Below wr.heap.size wr w' from fun W h => (Distance_any s HS.out.bd sa sc ta m W (PK W (BD.out.trans (h.mono BD.out.size))) LS (by omega) (by omega)).mono fun e w' h2 => ⟨by rw [h2.1, hd], h.trans (h2.2.mono h.size)⟩)
      rw [← hd] at HN0
      have FW := Lib.hid (show ∀ W, Below wr.heap.size wr W → (W.cell? ⟨sb, 0, none⟩ = some (.int .i64 s.swap) ∧ W.cell? ⟨sb, 1, none⟩ = some (.int .i64 s.drop) ∧ W.cell? ⟨sb, 2, none⟩ = some (.int .i64 s.add) ∧ W.cell? ⟨sb, 3, none⟩ = some (.int .i64 s.put) ∧ W.cell? ⟨sb, 4, none⟩ = some (.slice sa s.alike.length sc)) ∧ W.cell? ⟨b, off + i, none⟩ = some (.string (B m)) from fun W h => ⟨PC W (BD.out.trans (h.mono BD.out.size)), ((HB.out.trans (h.mono HB.out.size)).cell (p := ⟨b, _, none⟩) hlt).trans p0⟩)
      have HN := Lib.hid HN0
      clear hc hP hv hlt hme hd p0 hm HN0
      by_cases hdm : d ≤ (mo : Int)
      · have HE := Lib.hid (show n + 1 = (nearL s ta mo ws (i + 1)).length by rw [HN.out, if_pos hdm, List.length_append, HNN.out]; rfl)
        go_upto_region 13 with fail
        refine wp_normal ?_
        refine wp_region_class (C := fun W => Below wr.heap.size wr W) (by kernel_rfl) (by kernel_rfl) (Below.refl _ _).drew ?_
        repeat (first | go_big_quiet_skip | (go_big_quiet_want; first | (go_big_quiet_op; go_big_quiet_on) | (refine quiet_value ?_ (fun W h => ?_) ?_; rotate_left; (· obtain ⟨⟨f0, f1, f2, f3, f4⟩, f5⟩ := FW.out W h; go_simp; rfl); go_simp; go_big_quiet_on) | (refine quiet_call _ _ _ (fun W => ?_) C1.out ?_; (· go_simp; done); go_simp; go_big_quiet_on)))
        refine wpQuiet_nil ?_
        intro W hb
        refine ⟨rfl, ?_⟩
        have HW := Lib.hid (HB.out.trans (hb.mono HB.out.size))
        clear hb FW C1
        go_wp2_with fail
        go_roundw
        case rel => exact ⟨i + 1, n + 1, by go_num, by go_num, by omega, HE.out, HW.out⟩
        case measure => simp [intOf]; omega
      · have HE := Lib.hid (show n = (nearL s ta mo ws (i + 1)).length by rw [HN.out, if_neg hdm, List.append_nil, HNN.out])
        go_upto_region 13 with fail
        refine wp_normal ?_
        refine wp_region_class (C := fun W => Below wr.heap.size wr W) (by kernel_rfl) (by kernel_rfl) (Below.refl _ _).drew ?_
        repeat (first | go_big_quiet_skip | (go_big_quiet_want; first | (go_big_quiet_op; go_big_quiet_on) | (refine quiet_value ?_ (fun W h => ?_) ?_; rotate_left; (· obtain ⟨⟨f0, f1, f2, f3, f4⟩, f5⟩ := FW.out W h; go_simp; rfl); go_simp; go_big_quiet_on) | (refine quiet_call _ _ _ (fun W => ?_) C1.out ?_; (· go_simp; done); go_simp; go_big_quiet_on)))
        refine wpQuiet_nil ?_
        intro W hb
        refine ⟨rfl, ?_⟩
        have HW := Lib.hid (HB.out.trans (hb.mono HB.out.size))
        clear hb FW C1
        go_wp2_with fail
        go_roundw
        case rel => exact ⟨i + 1, n, by go_num, rfl, by omega, HE.out, HW.out⟩
        case measure => simp [intOf]; omega
    · have HI := Lib.hid (show i = ws.length by omega)
      have HC := Lib.hid (show n = R.length by rw [HNN.out, HI.out]; exact HR.out.1.symm)
      have R2 := Lib.hid HB.out
      rw [HC.out]
      go_wp2_with fail
      go_loopw [15] (fun jv wr => ∃ j : Nat, jv = .int .i64 (j : Nat) ∧ j ≤ R.length ∧ Below w7.heap.size w7 wr) (fun jv _ => R.length - (intOf jv).toNat)
      case atStart => exact ⟨0, rfl, Nat.zero_le _, R2.out⟩
      case round =>
        obtain ⟨j, rfl, hj, hb⟩ := hrel
        clear R2
        have HB2 := Lib.hid hb
        have BD2 := Lib.hid (B7.out.trans (hb.mono B7.out.size))
        clear hb
        have j0' : (0 : Int) ≤ (j : Int) := by omega
        by_cases h2 : (j : Int) < (R.length : Int)
        · have hjr : j < R.length := by omega
          obtain ⟨a', c', hv, hP⟩ := FR.out
          obtain ⟨rfl, rfl⟩ : fa = a' ∧ fc = c' := by simpa using hv
          obtain ⟨b, off, ha, hlt, hc⟩ := hP (by omega)
          subst ha
          have hmem := (HR.out.2.1 R[j]).1 (List.getElem_mem hjr)
          obtain ⟨q, hq, -, hqm, hqe⟩ := (nearL_mem s ta mo ws ws.length (Nat.le_refl _) _).1 hmem
          obtain ⟨p0, p1⟩ := hc j hjr
          have hb2 := HB2.out
          have p0' := (hb2.cell (p := ⟨b, off + j * 2, none⟩) hlt).trans p0
          have p1' := (hb2.cell (p := ⟨b, off + j * 2 + 1, none⟩) hlt).trans p1
          rw [hqe] at p0' p1'
          dsimp only at p0' p1'
          obtain ⟨d, hd⟩ : ∃ d, d = D s ws[q] ta := ⟨_, rfl⟩
          rw [← hd] at hqm p1' hqe
          obtain ⟨aw, cw, hvw, hPw⟩ := WS.out
          obtain ⟨rfl, rfl⟩ : wa = aw ∧ wc = cw := by simpa using hvw
          obtain ⟨bw, ow, haw, hltw, hcw⟩ := hPw (by omega)
          subst haw
          have x0 := hcw q hq
          have hm := W5.out _ (List.getElem_mem hq)
          obtain ⟨m, hme⟩ : ∃ m, m = ws[q] := ⟨_, rfl⟩
          rw [← hme] at hd x0 hm
          have X0 := Lib.hid x0
          have HDD := Lib.hid hd
          have HQE := Lib.hid hqe
          clear hc hP hv hcw hPw hvw hme x0 p0 p1 hmem hd hqe
          go_upto_region 19 with fail
          have FB := Lib.hid (Blk.new wr 57 [.int .i64 (q : Nat), .int .i64 d])
          have b9 := (Below.refl wr.heap.size wr).alloc (Nat.le_refl _) (.cells #[.int .i64 (q : Nat), .int .i64 d] 57)
          have HB9 := Lib.hid (HB2.out.trans (b9.mono HB2.out.size))
          have BD9 := Lib.hid (BD2.out.trans (b9.mono BD2.out.size))
          have lr := hlt
          clear b9 p0' p1' hb2
          generalize hgw : wr.alloc _ = w9 at *
          generalize hgb : wr.heap.size = fg at *
          clear hgw hgb
          have C1 := Lib.hid (show ∀ W, Below w9.heap.size w9 W → Calls Try.prog 15 #[.agg #[.int .i64 s.swap, .int .i64 s.drop, .int .i64 s.add, .int .i64 s.put, .slice sa s.alike.length sc], .string (B ta), .string (B m)] W fun e w' => e = .returned (.int .i64 d) ∧ Below w9.heap.size w9 w' from fun W h => (Distance_any s HS.out.bd sa sc ta m W (PK W (BD9.out.trans (h.mono BD9.out.size))) LS (by omega) (by omega)).mono fun e w' h2 => ⟨by rw [h2.1, HDD.out], h.trans (h2.2.mono h.size)⟩)
          have FW := Lib.hid (show ∀ W, Below w9.heap.size w9 W → (W.cell? ⟨sb, 0, none⟩ = some (.int .i64 s.swap) ∧ W.cell? ⟨sb, 1, none⟩ = some (.int .i64 s.drop) ∧ W.cell? ⟨sb, 2, none⟩ = some (.int .i64 s.add) ∧ W.cell? ⟨sb, 3, none⟩ = some (.int .i64 s.put) ∧ W.cell? ⟨sb, 4, none⟩ = some (.slice sa s.alike.length sc)) ∧ W.cell? ⟨bw, ow + q, none⟩ = some (.string (B m)) ∧ W.cell? ⟨fg, 0, none⟩ = some (.int .i64 (q : Nat)) ∧ W.cell? ⟨fg, 1, none⟩ = some (.int .i64 d) from fun W h => ⟨PC W (BD9.out.trans (h.mono BD9.out.size)), ((HB9.out.trans (h.mono HB9.out.size)).cell (p := ⟨bw, _, none⟩) hltw).trans X0.out, (FB.out.below h).cell 0, (FB.out.below h).cell 1⟩)
          have c1 : ¬ ((q : Int) < 0) := by omega
          have c2 : ¬ (ws.length ≤ q) := by omega
          have c3 : ¬ ((mo : Int) < d) := by omega
          have q0' : (0 : Int) ≤ (q : Int) := by omega
          have q1' : (q : Int) < (ws.length : Int) := by omega
          refine wp_normal ?_
          refine wp_region_class (C := fun W => Below w9.heap.size w9 W) (by kernel_rfl) (by kernel_rfl) (Below.refl _ _).drew ?_
          repeat (first | go_big_quiet_skip | (go_big_quiet_want; first | (go_big_quiet_op; go_big_quiet_on) | (refine quiet_value ?_ (fun W h => ?_) ?_; rotate_left; (· obtain ⟨⟨f0, f1, f2, f3, f4⟩, f5, f6, f7⟩ := FW.out W h; go_simp; rfl); go_simp; go_big_quiet_on) | (refine quiet_call _ _ _ (fun W => ?_) C1.out ?_; (· go_simp; done); go_simp; go_big_quiet_on)))
          refine wpQuiet_nil ?_
          intro W hb
          refine ⟨rfl, ?_⟩
          have FB := Lib.hid (FB.out.below hb)
          have HB9 := Lib.hid (HB9.out.trans (hb.mono HB9.out.size))
          clear FW C1 hb BD9
          by_cases hj0 : j = 0
          · subst hj0
            go_upto_region 21 with fail
            have FW := Lib.hid (show ∀ W', Below W.heap.size W W' → True from fun _ _ => trivial)
            refine wp_normal ?_
            refine wp_region_class (C := fun W' => Below W.heap.size W W') (by kernel_rfl) (by kernel_rfl) (Below.refl _ _).drew ?_
            repeat (first | go_big_quiet_skip | (go_big_quiet_want; first | (go_big_quiet_op; go_big_quiet_on) | (refine quiet_value ?_ (fun W' h => ?_) ?_; rotate_left; (· obtain f0 := FW.out W' h; go_simp; rfl); go_simp; go_big_quiet_on)))
            refine wpQuiet_nil ?_
            intro W' hb
            refine ⟨rfl, ?_⟩
            have HW := Lib.hid (HB9.out.trans (hb.mono HB9.out.size))
            clear hb FW
            go_wp2_with fail
            go_roundw
            case rel => exact ⟨1, by go_num, by omega, HW.out⟩
            case measure => simp [intOf]; omega
          · obtain ⟨jp, rfl⟩ : ∃ jp, j = jp + 1 := ⟨j - 1, by omega⟩
            have hjp : jp < R.length := by omega
            have hlt := (List.pairwise_iff_getElem.1 HR.out.2.2) jp (jp + 1) hjp hjr (by omega)
            obtain ⟨a'', c'', hv, hP⟩ := FR.out
            obtain ⟨b'', off'', ha, hlt2, hc⟩ := hP (by omega)
            obtain ⟨rfl, rfl⟩ : b = b'' ∧ off = off'' := by
              obtain ⟨e1, -⟩ : some (⟨b, off, none⟩ : Addr) = a'' ∧ fc = c'' := by simpa using hv
              rw [ha] at e1
              simpa using e1
            obtain ⟨p0, p1⟩ := hc jp hjp
            have P0 := Lib.hid p0
            have P1 := Lib.hid p1
            rw [HQE.out] at hlt
            obtain ⟨yw, hyw⟩ : ∃ x, x = R[jp].word := ⟨_, rfl⟩
            obtain ⟨yc, hyc⟩ : ∃ x, x = R[jp].cost := ⟨_, rfl⟩
            unfold ltF at hlt
            rw [← hyw, ← hyc] at hlt
            rw [← hyw] at p0
            rw [← hyc] at p1
            have P0 := Lib.hid p0
            have P1 := Lib.hid p1
            have HLT := Lib.hid hlt2
            clear hyw hyc p0 p1 hc hP hv ha hlt2
            dsimp only at hlt
            have wj : IntKind.i64.wrap ((jp : Int) + 1 - 1) = (jp : Int) := by rw [IntWalk.i64_in _ (by omega)]; omega
            have wj2 : IntKind.i64.wrap (jp : Int) = (jp : Int) := IntWalk.i64_in _ (by omega)
            have jp0 : (0 : Int) ≤ (jp : Int) := by omega
            have jp1 : (jp : Int) < (R.length : Int) := by omega
            have FW := Lib.hid (show ∀ W', Below W.heap.size W W' → (W'.cell? ⟨b, off + jp * 2, none⟩ = some (.int .i64 yw) ∧ W'.cell? ⟨b, off + jp * 2 + 1, none⟩ = some (.int .i64 yc)) ∧ W'.cell? ⟨fg, 0, none⟩ = some (.int .i64 (q : Nat)) ∧ W'.cell? ⟨fg, 1, none⟩ = some (.int .i64 d) from fun W' h => ⟨⟨((HB9.out.trans (h.mono HB9.out.size)).cell (p := ⟨b, _, none⟩) HLT.out).trans P0.out, ((HB9.out.trans (h.mono HB9.out.size)).cell (p := ⟨b, _, none⟩) HLT.out).trans P1.out⟩, (FB.out.below h).cell 0, (FB.out.below h).cell 1⟩)
            by_cases hcc : yc = d
            · subst hcc
              have u1 : ¬ ((q : Int) ≤ yw) := by omega
              have u2 : ¬ (yc < yc) := by omega
              clear hlt
              go_upto_region 21 with fail
              refine wp_normal ?_
              refine wp_region_class (C := fun W' => Below W.heap.size W W') (by kernel_rfl) (by kernel_rfl) (Below.refl _ _).drew ?_
              repeat (first | go_big_quiet_skip | (go_big_quiet_want; first | (go_big_quiet_op; go_big_quiet_on) | (refine quiet_value ?_ (fun W' h => ?_) ?_; rotate_left; (· obtain ⟨⟨f0, f1⟩, f2, f3⟩ := FW.out W' h; go_simp; rfl); go_simp; go_big_quiet_on)))
              refine wpQuiet_nil ?_
              intro W' hb
              refine ⟨rfl, ?_⟩
              have HW := Lib.hid (HB9.out.trans (hb.mono HB9.out.size))
              clear hb FW
              go_wp2_with fail
              go_roundw
              case rel => exact ⟨jp + 1 + 1, by go_num, by omega, HW.out⟩
              case measure => simp [intOf]; omega
            · have u1 : ¬ (d < yc) := by omega
              have u2 : ¬ (yc = d) := hcc
              have u3 : (yc == d) = false := by simpa using hcc
              clear hlt
              go_upto_region 21 with fail
              refine wp_normal ?_
              refine wp_region_class (C := fun W' => Below W.heap.size W W') (by kernel_rfl) (by kernel_rfl) (Below.refl _ _).drew ?_
              repeat (first | go_big_quiet_skip | (go_big_quiet_want; first | (go_big_quiet_op; go_big_quiet_on) | (refine quiet_value ?_ (fun W' h => ?_) ?_; rotate_left; (· obtain ⟨⟨f0, f1⟩, f2, f3⟩ := FW.out W' h; go_simp; rfl); go_simp; go_big_quiet_on)))
              refine wpQuiet_nil ?_
              intro W' hb
              refine ⟨rfl, ?_⟩
              have HW := Lib.hid (HB9.out.trans (hb.mono HB9.out.size))
              clear hb FW
              go_wp2_with fail
              go_roundw
              case rel => exact ⟨jp + 1 + 1, by go_num, by omega, HW.out⟩
              case measure => simp [intOf]; omega
        · have HJ := Lib.hid HC.out
          have DD := Lib.hid (B4.out.trans (BD2.out.mono B4.out.size))
          have hnr : n = R.length := HC.out
          go_wp2_with fail
          go_ret
          exact ⟨rfl, DD.out⟩
end Go.Proofs.Ytadaijepalhohaa
