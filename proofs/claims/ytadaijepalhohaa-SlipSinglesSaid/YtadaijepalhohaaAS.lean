/-
  Same; Back; Words.
-/
import Derived.Test.YtadaijepalhohaaAR
namespace Go.Proofs.Ytadaijepalhohaa
open Go.RowKit
open Pl

theorem neq_fd (x y : Fd) (W : World) : (binOp .neq 57 (fdV x) (fdV y)).run Try.prog W = .ok (.bool (!decide (x = y))) W := by
  have h : (binOp .neq 57 (fdV x) (fdV y)).run Try.prog W = .ok (.bool (!(x.word == y.word && x.cost == y.cost))) W := by
    rw [run_neq_struct, show (10000 : Nat) = 9999 + 1 from rfl, run_equalIn_agg W 9999 57 _ _ (by kernel_rfl) (by kernel_rfl)]
    simp [Program.fieldsOf, Try.underlying57, Op.eqFields, go_sem]
    by_cases h1 : x.word = y.word <;> by_cases h2 : x.cost = y.cost <;> simp [h1, h2]
  have key : (x.word == y.word && x.cost == y.cost) = decide (x = y) := by
    rw [Bool.eq_iff_iff]
    obtain ⟨a, b⟩ := x
    obtain ⟨a', b'⟩ := y
    simp only [Bool.and_eq_true, beq_iff_eq, decide_eq_true_eq, Fd.mk.injEq]
  rw [h, key]
theorem take_snoc_fd {xs ys : List Fd} {i : Nat} (h : xs.take i = ys.take i) (h1 : i < xs.length) (h2 : i < ys.length) (he : xs[i] = ys[i]) : xs.take (i + 1) = ys.take (i + 1) := by
  rw [List.take_succ_eq_append_getElem h1, List.take_succ_eq_append_getElem h2, h, he]
set_option maxHeartbeats 1000000 in
set_option maxRecDepth 100000 in
theorem Same_any (xs ys : List Fd) (a b : Option Addr) (c d : Nat) (w : World) (hx : FdsAt w w.heap.size (.slice a xs.length c) xs) (hy : FdsAt w w.heap.size (.slice b ys.length d) ys) (hl : xs.length ≤ 1000000) :
    Calls Try.prog 17 #[.slice a xs.length c, .slice b ys.length d] w fun e w' => e = .returned (.bool (decide (xs = ys))) ∧ Below w.heap.size w w' := by
  by_cases hxy : xs.length = ys.length
  · have HX := Lib.hid hx
    have HY := Lib.hid hy
    have HXY := Lib.hid hxy
    have hne : ((xs.length : Int) != (ys.length : Int)) = false := by
      have h : (xs.length : Int) = (ys.length : Int) := by omega
      simp [h]
    clear hx hy hxy
    go_enter Try.func17, Try.ntmps17
    go_wp2_with fail
    go_loopw [5] (fun iv wr => ∃ i : Nat, iv = .int .i64 (i : Nat) ∧ i ≤ xs.length ∧ xs.take i = ys.take i ∧ Below w.heap.size w wr) (fun iv _ => xs.length - (intOf iv).toNat)
    case atStart => exact ⟨0, rfl, Nat.zero_le _, rfl, Below.refl _ _⟩
    case round =>
      obtain ⟨i, rfl, hi, ht, hb⟩ := hrel
      have HB := Lib.hid hb
      have HT := Lib.hid ht
      clear hb ht
      have i0 : (0 : Int) ≤ (i : Int) := by omega
      by_cases h1 : (i : Int) < (xs.length : Int)
      · have hix : i < xs.length := by omega
        have hiy : i < ys.length := by have := HXY.out; omega
        have h1y : (i : Int) < (ys.length : Int) := by omega
        obtain ⟨a', c', hv, hP⟩ := HX.out.on HB.out
        obtain ⟨rfl, -⟩ : a = a' ∧ c = c' := by simpa using hv
        obtain ⟨b1, o1, ha, hl1, hc⟩ := hP (by omega)
        subst ha
        obtain ⟨a'', c'', hv', hP'⟩ := HY.out.on HB.out
        obtain ⟨rfl, -⟩ : b = a'' ∧ d = c'' := by simpa using hv'
        obtain ⟨b2, o2, ha', hl2, hc'⟩ := hP' (by omega)
        subst ha'
        obtain ⟨p1, p2⟩ := hc i hix
        obtain ⟨p3, p4⟩ := hc' i hiy
        obtain ⟨x, hxe⟩ : ∃ x, x = xs[i] := ⟨_, rfl⟩
        obtain ⟨y, hye⟩ : ∃ y, y = ys[i] := ⟨_, rfl⟩
        rw [← hxe] at p1 p2
        rw [← hye] at p3 p4
        have NE := fun W => neq_fd x y W
        have FW := Lib.hid (show ∀ W, Below wr.heap.size wr W → (W.cell? ⟨b1, o1 + i * 2, none⟩ = some (.int .i64 x.word) ∧ W.cell? ⟨b1, o1 + i * 2 + 1, none⟩ = some (.int .i64 x.cost)) ∧ W.cell? ⟨b2, o2 + i * 2, none⟩ = some (.int .i64 y.word) ∧ W.cell? ⟨b2, o2 + i * 2 + 1, none⟩ = some (.int .i64 y.cost) from fun W h => ⟨⟨(Below.cell h (p := ⟨b1, _, none⟩) hl1).trans p1, (Below.cell h (p := ⟨b1, _, none⟩) hl1).trans p2⟩, (Below.cell h (p := ⟨b2, _, none⟩) hl2).trans p3, (Below.cell h (p := ⟨b2, _, none⟩) hl2).trans p4⟩)
        by_cases he : x = y
        · have HN := Lib.hid (take_snoc_fd HT.out hix hiy (by rw [← hxe, ← hye, he]))
          rw [decide_eq_true he] at NE
          clear hc hc' hP hP' hv hv' hxe hye he p1 p2 p3 p4
          go_upto_region 6 with fail
          refine wp_normal ?_
          refine wp_region_class (C := fun W => Below wr.heap.size wr W) (by kernel_rfl) (by kernel_rfl) (Below.refl _ _).drew ?_
          repeat (first | go_big_quiet_skip | (go_big_quiet_want; first | (go_big_quiet_op; go_big_quiet_on) | (refine quiet_value ?_ (fun W h => ?_) ?_; rotate_left; (· obtain ⟨⟨f0, f1⟩, f2, f3⟩ := FW.out W h; go_simp; rfl); go_simp; go_big_quiet_on)))
          refine wpQuiet_nil ?_
          intro W h
          refine ⟨rfl, ?_⟩
          have HW := Lib.hid (HB.out.trans (h.mono HB.out.size))
          clear h FW
          go_wp2_with fail
          go_roundw
          case rel => exact ⟨i + 1, by go_num, by omega, HN.out, HW.out⟩
          case measure => simp [intOf]; omega
        · have HN := Lib.hid (show decide (xs = ys) = false from decide_eq_false (fun e => he (by rw [hxe, hye]; simp [e])))
          rw [decide_eq_false he] at NE
          clear hc hc' hP hP' hv hv' hxe hye he p1 p2 p3 p4
          go_upto_region 6 with fail
          refine wp_normal ?_
          refine wp_region_class (C := fun W => Below wr.heap.size wr W) (by kernel_rfl) (by kernel_rfl) (Below.refl _ _).drew ?_
          repeat (first | go_big_quiet_skip | (go_big_quiet_want; first | (go_big_quiet_op; go_big_quiet_on) | (refine quiet_value ?_ (fun W h => ?_) ?_; rotate_left; (· obtain ⟨⟨f0, f1⟩, f2, f3⟩ := FW.out W h; go_simp; rfl); go_simp; go_big_quiet_on)))
          refine wpQuiet_nil ?_
          intro W h
          refine ⟨rfl, ?_⟩
          have HW := Lib.hid (HB.out.trans (h.mono HB.out.size))
          clear h FW
          go_wp2_with fail
          go_ret
          exact ⟨by rw [HN.out]; rfl, HW.out⟩
      · have HN := Lib.hid (show decide (xs = ys) = true from decide_eq_true (by
          have h := HT.out
          have e : i = xs.length := by omega
          rw [e, List.take_length, HXY.out, List.take_length] at h
          exact h))
        go_wp2_with fail
        go_ret
        exact ⟨by rw [HN.out]; rfl, HB.out⟩
  · have HN := Lib.hid (show decide (xs = ys) = false from decide_eq_false (fun e => hxy (by rw [e])))
    have hne : ((xs.length : Int) != (ys.length : Int)) = true := by
      have : ¬ ((xs.length : Int) = (ys.length : Int)) := by omega
      simpa using this
    clear hx hy hxy
    go_enter Try.func17, Try.ntmps17
    go_wp2_with fail
    go_ret
    exact ⟨by rw [HN.out]; rfl, Below.refl _ _⟩
set_option maxHeartbeats 2000000 in
set_option maxRecDepth 100000 in
theorem Back_any (s : List UInt8) (w : World) (hs : s.length ≤ 1000) :
    Calls Try.prog 22 #[.string (B s)] w fun e w' => e = .returned (.string (B s.reverse)) ∧ Below w.heap.size w w' := by
  obtain ⟨i0, hi0, hz0, hz1, hz2⟩ := info_parts infoU8
  have hsz := size_B s
  have RR := Lib.hid (show BtsOwn (w.alloc (.cells #[] 5)) w.heap.size (.slice (some ⟨w.heap.size, 0, none⟩) 0 0) [] ∧ Below w.heap.size w (w.alloc (.cells #[] 5)) from ⟨BtsOwn.new w, (Below.refl _ _).alloc (Nat.le_refl _) _⟩)
  go_enter Try.func22, Try.ntmps22
  go_wp2_with fail
  go_loopw [3, 4] (fun v iv wr => ∃ (k : Nat), iv = .int .i64 ((k : Int) - 1) ∧ k ≤ s.length ∧ BtsOwn wr w.heap.size v (s.drop k).reverse ∧ Below w.heap.size w wr) (fun _ iv _ => ((intOf iv) + 1).toNat)
  case atStart => exact ⟨s.length, rfl, Nat.le_refl _, by rw [List.drop_length]; exact RR.out.1, RR.out.2⟩
  case round =>
    obtain ⟨k, rfl, hk, hown, hb⟩ := hrel
    obtain ⟨va, vc, rfl⟩ := hown.shape
    have OW := Lib.hid hown
    have HB := Lib.hid hb
    clear hown hb RR
    by_cases h1 : (0 : Int) ≤ (k : Int) - 1
    · obtain ⟨kp, rfl⟩ : ∃ kp, k = kp + 1 := ⟨k - 1, by omega⟩
      have kp0 : (0 : Int) ≤ (kp : Int) := by omega
      have hks : kp < s.length := by omega
      have ks : (kp : Int) < (s.length : Int) := by omega
      have IX := fun W => str_B s kp hks W
      have hdr : s.drop kp = s[kp] :: s.drop (kp + 1) := List.drop_eq_getElem_cons hks
      obtain ⟨x, hx⟩ : ∃ x, x = s[kp] := ⟨_, rfl⟩
      rw [← hx] at IX hdr
      have hrv : (s.drop kp).reverse = (s.drop (kp + 1)).reverse ++ [x] := by rw [hdr, List.reverse_cons]
      have HRV := Lib.hid hrv
      have hll : (s.drop (kp + 1)).reverse.length ≤ 1000 := by rw [List.length_reverse, List.length_drop]; omega
      obtain ⟨l, hl⟩ : ∃ l, l = (s.drop (kp + 1)).reverse := ⟨_, rfl⟩
      rw [← hl] at OW HRV hll ⊢
      have hmx : l.length + 1 ≤ maxLen := by unfold maxLen; omega
      have hby : (l.length + 1) * 1 ≤ 140737488355328 := by omega
      have hba : w.heap.size ≤ (wr.alloc (.cells #[u8V x] 5)).heap.size := by have := HB.out.size; simp; omega
      have own1 := Lib.hid (World.ownsRow.alloc OW.out (.cells #[u8V x] 5))
      have nw := Lib.hid (heap_alloc_new wr (.cells #[u8V x] 5))
      have hob := Lib.hid OW.out.blk
      have hbl := Lib.hid (HB.out.alloc HB.out.size (.cells #[u8V x] 5))
      have e1 : ((kp + 1 : Nat) : Int) - 1 = (kp : Int) := by omega
      rw [e1]
      have HE1 := Lib.hid (show (kp : Int) - 1 = (kp : Int) - 1 from rfl)
      clear hdr hrv hl hx e1 HE1 hll
      go_wp2_with (first
        | (at_builtin; refine wpList_append_own _ rfl _ _ 26 rfl w.heap.size 5 i0 _ 1 1 Try.underlying26 hi0 hz0 hz1 hz2 rfl (by decide) _ _ _ rfl own1.out ⟨wr.heap.size, 0, none⟩ 1 1 [u8V x] rfl rfl (World.news_of_block (cs := #[u8V x]) (t := 5) (fr := (0, 0)) nw.out) (by simp [Value.oneCell']) hmx hby hba ?_; intro v2 w4 hown2 hgrow2 hnil2)
        | fail)
      have RN := Lib.hid (show BtsOwn w4 w.heap.size v2 (s.drop kp).reverse ∧ Below w.heap.size w w4 from ⟨by rw [HRV.out]; exact BtsOwn.snoc hown2, hbl.out.grown hgrow2 hba (fun k hk => hob.out k hk)⟩)
      clear hown2 hgrow2 hnil2 own1 nw hob hbl
      go_roundw
      case rel => exact ⟨kp, by go_num, by omega, RN.out.1, RN.out.2⟩
      case measure => simp [intOf]
    · have hk0 : k = 0 := by omega
      subst hk0
      have STR := OW.out.str
      rw [List.drop_zero, List.length_reverse] at STR
      rw [show (((0 : Nat) : Int) - 1) = -1 from rfl]
      clear h1
      go_wp2_with fail
      go_ret
      exact ⟨rfl, HB.out⟩
end Go.Proofs.Ytadaijepalhohaa
