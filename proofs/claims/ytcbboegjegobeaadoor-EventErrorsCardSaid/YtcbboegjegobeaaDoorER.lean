/-
  The walk of the law EventErrors: it answers true, whatever its list of raw events, its text and its two bytes are.
-/
import Derived.Test.YtcbboegjegobeaaDoorRS
import Derived.Test.YtcbboegjegobeaaDoorES
import Derived.Deep.DeepCutAuto
import Derived.Deep.CutBlock
namespace Go.Proofs.YtcbboegjegobeaaDoor
open Go.RowKit
open Pl

theorem scrP_valid : ∀ (ps : List (List UInt8)), ∀ ev ∈ (scrP ps).1, validB ev = true
  | [], ev, h => by cases h
  | [p], ev, h => by cases h
  | p :: q :: r, ev, h => by
    cases hp : parseS p with
    | none => rw [scrP_bad hp] at h; cases h
    | some x =>
      rw [scrP_good hp] at h
      rcases List.mem_cons.1 h with rfl | h
      · exact (parse_back hp).1
      · exact scrP_valid (q :: r) ev h
theorem scrP_few : ∀ (ps : List (List UInt8)), (scrP ps).1.length ≤ ps.length
  | [] => Nat.le_refl _
  | [_] => Nat.zero_le _
  | p :: q :: r => by
    cases hp : parseS p with
    | none => rw [scrP_bad hp]; exact Nat.zero_le _
    | some x =>
      rw [scrP_good hp]
      have := scrP_few (q :: r)
      simp at this ⊢; omega
theorem joinN_split : ∀ (s cur : List UInt8), joinN (splitS 10 cur s) = cur ++ (s ++ [10])
  | [], cur => by simp [splitS, joinN]
  | x :: r, cur => by
    by_cases h : x = 10
    · subst h
      rw [split_step_eq, joinN_cons, joinN_split r []]; simp
    · rw [split_step_ne h, joinN_split r _]; simp
theorem joinN_take (ps : List (List UInt8)) (j : Nat) : (joinN (ps.take j)).length ≤ (joinN ps).length := by
  have h : joinN ps = joinN (ps.take j) ++ joinN (ps.drop j) := by
    unfold joinN; rw [← List.flatMap_append, List.take_append_drop]
  rw [h, List.length_append]; omega
theorem joinN_take_succ (ps : List (List UInt8)) (j : Nat) (h : j < ps.length) : joinN (ps.take (j + 1)) = joinN (ps.take j) ++ (ps[j] ++ [10]) := by
  rw [List.take_succ_eq_append_getElem h, joinN_snoc]
/-- The package's Script, in the same words as the reference's. -/
theorem EScript_any (s : List UInt8) (hs : s.length ≤ 100000) (m : Int) (w : World) (hm : MaxVar w m) (hw0 : 0 < w.heap.size) :
    Calls Tryd.prog 19 #[.string (B s)] w (RsPost s w) := by
  obtain ⟨evs, hevs⟩ : ∃ evs, evs = (scrP (splitS 10 [] s)).1 := ⟨_, rfl⟩
  obtain ⟨ok, hok⟩ : ∃ ok, ok = (scrP (splitS 10 [] s)).2 := ⟨_, rfl⟩
  have h : scrP (splitS 10 [] s) = (evs, ok) := by rw [hevs, hok]
  have hsc : scr (s.length + 1) s = (evs, ok) := by rw [scr_parts _ _ (Nat.lt_succ_self _), h]
  refine (script_is s evs ok hsc (by omega) m w hm hw0).mono ?_
  rintro e w' ⟨⟨a, n, c, rfl, hE, hn⟩, hb⟩
  exact ⟨evs, ok, a, n, c, h, rfl, hE, hn, hb⟩
/-- What Script hands back, its events and its answer being known. -/
theorem RsPost.at {s : List UInt8} {w w' : World} {e : Ending} {evs : List Ev} {ok : Bool} (h : RsPost s w e w') (hk : scrP (splitS 10 [] s) = (evs, ok)) : ∃ (a : Option Addr) (c : Nat), e = .returned (.tuple #[.slice a (if ok then evs else []).length c, .int .i64 (evs.length : Nat), .int .i64 (if ok then 0 else 3)]) ∧ EvsAt w' (.slice a (if ok then evs else []).length c) (if ok then evs else []) ∧ Below w.heap.size w w' := by
  obtain ⟨evs', ok', a, n, c, h1, h2, h3, h4, h5⟩ := h
  rw [hk] at h1
  cases h1
  subst h4
  exact ⟨a, c, h2, h3, h5⟩

theorem RsPost.atT {s : List UInt8} {w w' : World} {e : Ending} {evs : List Ev} (h : RsPost s w e w') (hk : scrP (splitS 10 [] s) = (evs, true)) : ∃ (a : Option Addr) (c : Nat), e = .returned (.tuple #[.slice a evs.length c, .int .i64 (evs.length : Nat), .int .i64 0]) ∧ EvsAt w' (.slice a evs.length c) evs ∧ Below w.heap.size w w' := h.at hk
theorem RsPost.atF {s : List UInt8} {w w' : World} {e : Ending} {evs : List Ev} (h : RsPost s w e w') (hk : scrP (splitS 10 [] s) = (evs, false)) : ∃ (a : Option Addr) (c : Nat), e = .returned (.tuple #[.slice a 0 c, .int .i64 (evs.length : Nat), .int .i64 3]) ∧ EvsAt w' (.slice a 0 c) [] ∧ Below w.heap.size w w' := h.at hk

set_option maxHeartbeats 4000000 in
set_option maxRecDepth 100000 in
theorem errors_any (mx : Int) (la : Option Addr) (ln lc : Nat) (s : List UInt8) (w0 w1 : Int) (w : World) (hT : PowTab w) (hm : MaxVar w mx) (hw0 : 0 < w.heap.size)
    (hx : RawsAt w w.heap.size (.slice la ln lc) ln) (hln : ln ≤ maxLen) (h0 : 0 ≤ w0 ∧ w0 ≤ 255) (h1 : 0 ≤ w1 ∧ w1 ≤ 255) (hs : s.length ≤ 30) :
    Calls Tryd.prog 8 #[.slice la ln lc, .string (B s), .agg #[.int .u8 w0, .int .u8 w1]] w fun e w' => e = .returned (.bool true) ∧ Below w.heap.size w w' := by
  have hA : Below w.heap.size w (w.alloc (.cells #[.int .u8 w0, .int .u8 w1] 26)) := (Below.refl _ _).alloc (Nat.le_refl _) _
  have C0 := Lib.hid (sanity_any mx (w.alloc (.cells #[.int .u8 w0, .int .u8 w1] 26)) (hT.below hA) (hm.below hA hw0) (Nat.lt_of_lt_of_le hw0 hA.size))
  have HX := Lib.hid (hx.on hA)
  have W1 := Lib.hid (heap_alloc_new w (.cells #[.int .u8 w0, .int .u8 w1] 26))
  have HA := Lib.hid hA
  have HM := Lib.hid hm
  have Hw0 := Lib.hid hw0
  have HLN := Lib.hid hln
  have hss : ¬ (30 : Int) < ((B s).size : Int) := by rw [size_B]; omega
  clear hA hT hm hw0 hx hln
  go_enter Tryd.func8, Tryd.ntmps8
  go_wp2_with fail
  refine (C0.out).mono ?_
  rintro e x0 ⟨rfl, hb⟩
  have HX0 := Lib.hid (HX.out.on hb)
  have W0 := Lib.hid ((hb.block _ (lt_of_heap W1.out)).trans W1.out)
  have HB0 := Lib.hid (HA.out.trans (hb.mono HA.out.size))
  clear hb C0 HX W1 HA
  go_wp2_with fail
  refine (lines_evs la ln lc 6 _ HX0.out HLN.out (by omega)).mono ?_
  rintro e x1 ⟨A, ga, ca, rfl, -, hAl, hAv, hb⟩
  have W2 := Lib.hid ((hb.block _ (lt_of_heap W0.out)).trans W0.out)
  have HB1 := Lib.hid (HB0.out.trans (hb.mono HB0.out.size))
  have htl := linesS_len A hAv
  have htl' : (B (linesS A)).size ≤ 1656 := by rw [size_B]; omega
  clear hb HX0 W0 HB0 hAv HLN htl
  generalize linesS A = t at *
  have q0 : x1.cell? ⟨w.heap.size, 0, none⟩ = some (.int .u8 w0) := by simp [World.cell?, W2.out]
  have q1 : x1.cell? ⟨w.heap.size, 1, none⟩ = some (.int .u8 w1) := by simp [World.cell?, W2.out]
  obtain ⟨h00, h01⟩ := h0
  obtain ⟨h10, h11⟩ := h1
  go_upto_region 5 with fail
  go_cut [10] (fun s10 wx => ∃ i : Nat, s10 = .int .i64 i ∧ i ≤ (B t).size ∧ wx = x1)
  case first =>
    obtain ⟨i, hi⟩ : ∃ i : Nat, w0 % (((B t).size : Int) + 1) = (i : Int) := ⟨(w0 % (((B t).size : Int) + 1)).toNat, by have := Int.emod_nonneg w0 (show (((B t).size : Int) + 1) ≠ 0 by omega); omega⟩
    have hil : (i : Int) ≤ (B t).size := by have := Int.emod_lt_of_pos w0 (show 0 < ((B t).size : Int) + 1 by omega); omega
    go_wp2_with fail
    go_meet
    exact ⟨i, by rw [hi], by omega, rfl⟩
  case rest =>
    obtain ⟨i, rfl, hi, rfl⟩ := hcut
    have hi0 : (0 : Int) ≤ (i : Int) := by omega
    have hi1 : (i : Int) ≤ ((B t).size : Int) := by omega
    go_upto_region 6 with fail
    generalize wc = x1 at *
    go_cut [11] (fun s11 wx => ∃ k : Nat, s11 = .int .i64 k ∧ k ≤ (B t).size ∧ wx = x1)
    case first =>
      go_wp2_with fail
      go_meet
      exact ⟨(min ((i : Int) + w1 % 8) ((B t).size : Int)).toNat, congrArg (Value.int IntKind.i64) (by omega), by omega, rfl⟩
    case rest =>
      obtain ⟨k, rfl, hk, rfl⟩ := hcut
      have hk0 : (0 : Int) ≤ (k : Int) := by omega
      have hk1 : (k : Int) ≤ ((B t).size : Int) := by omega
      go_upto_region 7 with fail
      generalize wc = x1 at *
      go_cut [12] (fun s12 wx => ∃ tx : List UInt8, s12 = .string (B tx) ∧ tx.length ≤ 5000 ∧ Below x1.heap.size x1 wx)
      case first =>
        go_region_with fail
        all_goals
          go_wp2_with fail
          go_meet
          refine ⟨_, (congrArg Value.string (B_toList _)).symm, ?_, (Below.refl x1.heap.size x1).drew⟩
          rw [length_toList, ByteArray.size_append, ByteArray.size_append, ByteArray.size_extract, ByteArray.size_extract, size_B s]
          omega
      case rest =>
        obtain ⟨tx, rfl, htx, hb⟩ := hcut
        have HB2 := Lib.hid (HB1.out.trans (hb.mono HB1.out.size))
        clear hb HB1 W2 q0 q1 hi hi0 hi1 hk hk0 hk1 htl' h00 h01 h10 h11
        generalize wc = x2 at *
        obtain ⟨ps, hps⟩ : ∃ ps, ps = splitS 10 [] tx := ⟨_, rfl⟩
        obtain ⟨evs, hevs⟩ : ∃ evs, evs = (scrP ps).1 := ⟨_, rfl⟩
        obtain ⟨ok, hok⟩ : ∃ ok, ok = (scrP ps).2 := ⟨_, rfl⟩
        have hP : scrP ps = (evs, ok) := by rw [hevs, hok]
        have HPs := Lib.hid hps
        have HP := Lib.hid (show scrP (splitS 10 [] tx) = (evs, ok) by rw [← hps]; exact hP)
        have HPp := Lib.hid hP
        have hpl : ps.length ≤ 5001 := by have := (parts_len 10 tx []).2; rw [← hps] at this; omega
        have HVl := Lib.hid (show ∀ ev ∈ evs, ev.p.length ≤ maxLen from fun ev he => by
          rw [hevs] at he
          have := valid_pts (scrP_valid ps ev he)
          unfold maxLen; omega)
        have hel : evs.length ≤ 5001 := by
          cases ok with
          | true => 
            have := scrP_few ps
            rw [hP] at this
            exact Nat.le_trans this hpl
          | false => 
            have := scrP_few ps
            rw [hP] at this
            exact Nat.le_trans this hpl
        clear hps hevs hok hP
        have CE := fun W hm hw => Lib.hid (EScript_any tx (by omega) mx W hm hw)
        cases ok with
        | true =>
          go_wp2_with fail
          refine ((CE _ (HM.out.below HB2.out Hw0.out) (Nat.lt_of_lt_of_le Hw0.out HB2.out.size)).out).mono ?_
          intro e x3 h
          obtain ⟨a3, c3, rfl, hE3, hb⟩ := h.atT HP.out
          have HB3 := Lib.hid (HB2.out.trans (hb.mono HB2.out.size))
          have HE3 := Lib.hid hE3
          clear h hE3 hb CE HB2
          go_wp2_with fail
          refine (RScript_any tx _ (by omega)).mono ?_
          intro e x4 h
          obtain ⟨a4, c4, rfl, hE4, hb⟩ := h.atT HP.out
          have HB4 := Lib.hid (HB3.out.trans (hb.mono HB3.out.size))
          have HE34 := Lib.hid (HE3.out.below hb)
          have HE4 := Lib.hid hE4
          clear h hE4 hb HB3 HE3
          go_wp2_with fail
          refine (SameAll_eq _ _ evs _ HE34.out HE4.out (by unfold maxLen; omega) HVl.out).mono ?_
          rintro e x5 ⟨rfl, hb⟩
          have HB5 := Lib.hid (HB4.out.trans (hb.mono HB4.out.size))
          clear hb HB4 HE34 HE4
          have hnn : (((evs.length : Nat) : Int) != (evs.length : Int)) = false := by simp
          go_wp2_with fail
          go_ret
          exact ⟨rfl, HB5.out⟩
        | false =>
          go_wp2_with fail
          refine ((CE _ (HM.out.below HB2.out Hw0.out) (Nat.lt_of_lt_of_le Hw0.out HB2.out.size)).out).mono ?_
          intro e x3 h
          obtain ⟨a3, c3, rfl, hE3, hb⟩ := h.atF HP.out
          have HB3 := Lib.hid (HB2.out.trans (hb.mono HB2.out.size))
          have HE3 := Lib.hid hE3
          clear h hE3 hb CE HB2
          go_wp2_with fail
          refine (RScript_any tx _ (by omega)).mono ?_
          intro e x4 h
          obtain ⟨a4, c4, rfl, hE4, hb⟩ := h.atF HP.out
          have HB4 := Lib.hid (HB3.out.trans (hb.mono HB3.out.size))
          have HE34 := Lib.hid (HE3.out.below hb)
          have HE4 := Lib.hid hE4
          clear h hE4 hb HB3 HE3
          go_wp2_with fail
          refine (SameAll_eq _ _ [] _ HE34.out HE4.out (Nat.zero_le _) (fun _ h => by cases h)).mono ?_
          rintro e x5 ⟨rfl, hb⟩
          have HB5 := Lib.hid (HB4.out.trans (hb.mono HB4.out.size))
          clear hb HB4 HE34 HE4
          have hnn : (((evs.length : Nat) : Int) != (evs.length : Int)) = false := by simp
          have CS := fun W => Lib.hid (Split_any (B tx) 10 W (by rw [size_B]; omega))
          go_wp2_with fail
          refine ((CS _).out).mono ?_
          rintro e x6 ⟨v, rfl, hO, hne, hb⟩
          rw [toList_B, ← HPs.out] at hO
          obtain ⟨g, c, rfl, hc1, hc2⟩ := hO.ptr hne
          have HF6 := Lib.hid hO.at
          have HB6 := Lib.hid (HB5.out.trans (hb.mono HB5.out.size))
          clear CS hO hne hb HB5
          obtain ⟨hlt, hW, hlast⟩ := scrP_wrong ps evs (by have := (parts_len 10 tx []).1; rw [← HPs.out] at this; intro e; rw [e] at this; simp at this) HPp.out
          have HW := Lib.hid hW
          have HLast := Lib.hid hlast
          clear hW hlast
          have HJ := Lib.hid (show ∀ j, (joinN (ps.take j)).length ≤ 5001 from fun j => by
            have h1 := joinN_take ps j
            have h2 := congrArg List.length (joinN_split tx [])
            rw [← HPs.out] at h2
            simp at h2; omega)
          have HPz := Lib.hid (show ∀ (j : Nat) (h : j < ps.length), ps[j].length ≤ 5000 from fun j h => by
            have := parts_small 10 tx [] ps[j] (by rw [← HPs.out]; exact List.getElem_mem h)
            simp at this; omega)
          have HNl := Lib.hid (show ∀ p ∈ ps, noNl p = true from fun p hp => by rw [HPs.out] at hp; exact parts_noNl tx [] rfl p hp)
          have q2 : ∀ (j : Nat) (h : j < ps.length), x6.cell? ⟨g, j, none⟩ = some (.string (B ps[j])) := fun j h => by
            obtain ⟨a0, c0, hv, hc⟩ := HF6.out
            obtain ⟨b0, off, ha, _, hc⟩ := hc (by omega)
            obtain ⟨h1, -⟩ : some (⟨g, 0, none⟩ : Addr) = a0 ∧ c = c0 := by simpa using hv
            rw [← h1] at ha
            obtain ⟨rfl, rfl⟩ : g = b0 ∧ 0 = off := by simpa using ha
            have := hc j h
            rwa [Nat.zero_add] at this
          have Q2 := Lib.hid q2
          clear q2
          go_upto_block 0 with fail
          go_cut [20, 21] (fun sb i wx => sb = .string (B (joinN (ps.take evs.length))) ∧ wx = x6)
          case first =>
            go_wp2_with fail
            go_loop [20, 21] (fun sb i => ∃ j : Nat, i = .int .i64 j ∧ sb = .string (B (joinN (ps.take j))) ∧ j ≤ evs.length) (fun _ i => evs.length - (intOf i).toNat)
            case atStart => exact ⟨0, rfl, rfl, Nat.zero_le _⟩
            case round =>
              obtain ⟨j, rfl, rfl, hj⟩ := hrel
              by_cases hje : j < evs.length
              · have hjp : j < ps.length := by omega
                have hq := Q2.out j hjp
                have hz := HPz.out j hjp
                have HS := Lib.hid (joinN_take_succ ps j hjp)
                have hj0 : (0 : Int) ≤ (j : Int) := by omega
                have hj1 : (j : Int) < (ps.length : Int) := by omega
                have hj2 : (j : Int) < (evs.length : Int) := by omega
                have hjl := HJ.out j
                generalize ps[j] = p at *
                generalize joinN (ps.take j) = jn at *
                have HS1 := Lib.hid (show (B p).size + (⟨#[10]⟩ : ByteArray).size ≤ 9223372036854775807 by rw [size_B]; have : (⟨#[10]⟩ : ByteArray).size = 1 := rfl; omega)
                have HS2 := Lib.hid (show (B jn).size + (B p ++ (⟨#[10]⟩ : ByteArray)).size ≤ 9223372036854775807 by
                  have e : B p ++ (⟨#[10]⟩ : ByteArray) = B (p ++ [10]) := B_app _ [10]
                  rw [e, size_B, size_B, List.length_append]; simp; omega)
                go_wp2_with (first
                  | (refine cat_step rfl _ _ _ rfl (B p) ⟨#[10]⟩ rfl rfl HS1.out ?_)
                  | (refine cat_step rfl _ _ _ rfl (B jn) (B p ++ ⟨#[10]⟩) rfl rfl HS2.out ?_))
                go_round
                case rel => exact ⟨j + 1, by go_num, by rw [HS.out, ← B_app, ← B_app]; rfl, by omega⟩
                case measure => simp [intOf]; omega
              · have hj2 : ¬ (j : Int) < (evs.length : Int) := by omega
                obtain rfl : j = evs.length := by omega
                go_wp2_with fail
                go_meet
                exact ⟨rfl, rfl⟩
          case rest =>
            obtain ⟨rfl, rfl⟩ := hcut
            generalize wc = x6 at *
            have hq := Q2.out _ hlt
            have hz := HPz.out _ hlt
            have hjl := HJ.out evs.length
            have HTn := Lib.hid (show ∀ p ∈ ps.take evs.length, noNl p = true from fun p hp => HNl.out p (List.mem_of_mem_take hp))
            have HPB := Lib.hid (show scrP (splitS 10 [] (joinN (ps.take evs.length))) = (evs, true) by
              have h := split_join (ps.take evs.length) [] HTn.out
              rw [List.append_nil] at h
              rw [h, HW.out _ (by simp [splitS])]
              simp [splitS, scrP])
            have hpn := HNl.out _ (List.getElem_mem hlt)
            have HPZ := Lib.hid (show parseS ps[evs.length] = none → scrP (splitS 10 [] (joinN (ps.take evs.length) ++ (ps[evs.length] ++ 10 :: [101, 114, 97, 115, 101, 10]))) = (evs, false) from fun hp => by
              have e : splitS 10 [] [101, 114, 97, 115, 101, 10] = [[101, 114, 97, 115, 101], []] := by decide
              rw [split_join _ _ HTn.out, splitn_at _ [] _ hpn, List.nil_append, e, HW.out _ (by simp), scrP_bad hp]
              simp)
            have HZl := Lib.hid (show (joinN (ps.take evs.length) ++ (ps[evs.length] ++ 10 :: [101, 114, 97, 115, 101, 10])).length ≤ 20000 by
              rw [List.length_append, List.length_append]; simp only [List.length_cons, List.length_nil]; omega)
            have hn0 : (0 : Int) ≤ (evs.length : Int) := by omega
            have hn1 : (evs.length : Int) < (ps.length : Int) := by omega
            have HLs := Lib.hid (show evs.length = ps.length - 1 ∨ parseS ps[evs.length] = none from HLast.out)
            clear HF6 HJ HPz HNl Q2 HTn hpn HW HLast HPs HP HPp HVl
            generalize ps[evs.length] = pn at *
            generalize joinN (ps.take evs.length) = jn at *
            have CB := fun W hm hw => Lib.hid (EScript_any jn (by omega) mx W hm hw)
            have CZ := fun W hm hw => Lib.hid (EScript_any (jn ++ (pn ++ 10 :: [101, 114, 97, 115, 101, 10])) (by have := HZl.out; omega) mx W hm hw)
            have HZe := Lib.hid (show B jn ++ B pn ++ (⟨#[10]⟩ : ByteArray) ++ (⟨#[101, 114, 97, 115, 101, 10]⟩ : ByteArray) = B (jn ++ (pn ++ 10 :: [101, 114, 97, 115, 101, 10])) by
              show B jn ++ B pn ++ B [10] ++ B [101, 114, 97, 115, 101, 10] = _
              rw [B_app, B_app, B_app]; simp)
            have HS1 := Lib.hid (show (B jn).size + (B pn).size ≤ 9223372036854775807 by rw [size_B, size_B]; omega)
            have HS2 := Lib.hid (show (B jn ++ B pn).size + (⟨#[10]⟩ : ByteArray).size ≤ 9223372036854775807 by
              have : (⟨#[10]⟩ : ByteArray).size = 1 := rfl
              rw [B_app, size_B, List.length_append]; omega)
            have HS3 := Lib.hid (show (B jn ++ B pn ++ (⟨#[10]⟩ : ByteArray)).size + (⟨#[101, 114, 97, 115, 101, 10]⟩ : ByteArray).size ≤ 9223372036854775807 by
              have h6 : (⟨#[101, 114, 97, 115, 101, 10]⟩ : ByteArray).size = 6 := rfl
              have e : B jn ++ B pn ++ (⟨#[10]⟩ : ByteArray) = B ((jn ++ pn) ++ [10]) := by rw [← B_app, ← B_app]; rfl
              rw [e, size_B, List.length_append, List.length_append]; simp; omega)
            clear hjl HZl
            go_wp2_with fail
            refine ((CB _ (HM.out.below HB6.out Hw0.out) (Nat.lt_of_lt_of_le Hw0.out HB6.out.size)).out).mono ?_
            intro e x7 h
            obtain ⟨a7, c7, rfl, -, hb⟩ := h.atT HPB.out
            have HB7 := Lib.hid (HB6.out.trans (hb.mono HB6.out.size))
            have hq7 := (hb.cell (p := ⟨g, evs.length, none⟩) (World.block_lt_of_cell? _ _ hq)).trans hq
            clear h hb CB HB6 hq HPB
            go_wp2_with (first
              | (refine cat_step rfl _ _ _ rfl (B jn) (B pn) rfl rfl HS1.out ?_)
              | (refine cat_step rfl _ _ _ rfl (B jn ++ B pn) ⟨#[10]⟩ rfl rfl HS2.out ?_)
              | (refine cat_step rfl _ _ _ rfl (B jn ++ B pn ++ ⟨#[10]⟩) ⟨#[101, 114, 97, 115, 101, 10]⟩ rfl rfl HS3.out ?_)
              | fail)
            rw [HZe.out]
            refine ((CZ _ (HM.out.below HB7.out Hw0.out) (Nat.lt_of_lt_of_le Hw0.out HB7.out.size)).out).mono ?_
            intro e x8 h
            have hnn2 : (((evs.length : Nat) : Int) == (evs.length : Int)) = true := by simp
            cases hp : parseS pn with
            | none =>
              obtain ⟨a8, c8, rfl, -, hb⟩ := h.atF (HPZ.out hp)
              have HB8 := Lib.hid (HB7.out.trans (hb.mono HB7.out.size))
              have hq8 := (hb.cell (p := ⟨g, evs.length, none⟩) (World.block_lt_of_cell? _ _ hq7)).trans hq7
              have CP := fun W => Lib.hid (parse_bad pn hp (by omega) W)
              clear h hb CZ HB7 hq7 HPZ hp HLs
              go_wp2_with fail
              refine ((CP _).out).mono ?_
              rintro e x9 ⟨rfl, hb⟩
              have HB9 := Lib.hid ((HB8.out.trans (hb.mono HB8.out.size)).alloc (Nat.le_trans HB8.out.size hb.size) (.cells #[.int .i64 0, .string ⟨#[]⟩, .slice none 0 0, .string ⟨#[]⟩, .int .i64 0, .int .i64 0] 31))
              clear hb CP HB8 hq8
              by_cases hl : ((evs.length : Nat) : Int) = (ps.length : Int) - 1
              · have hlb : (((evs.length : Nat) : Int) == (ps.length : Int) - 1) = true := by rw [beq_iff_eq]; exact hl
                clear hl
                go_wp2_with fail
                go_ret
                exact ⟨rfl, HB9.out⟩
              · have hlb : (((evs.length : Nat) : Int) == (ps.length : Int) - 1) = false := by rw [beq_eq_false_iff_ne]; exact hl
                clear hl
                go_wp2_with fail
                go_ret
                exact ⟨rfl, HB9.out⟩
            | some ev =>
              obtain ⟨evs', ok', a8, n8, c8, -, rfl, -, -, hb⟩ := h
              have HB8 := Lib.hid (HB7.out.trans (hb.mono HB7.out.size))
              have hq8 := (hb.cell (p := ⟨g, evs.length, none⟩) (World.block_lt_of_cell? _ _ hq7)).trans hq7
              have CP := fun W => Lib.hid (parse_good pn ev hp (by omega) W)
              have hlb : (((evs.length : Nat) : Int) == (ps.length : Int) - 1) = true := by
                rcases HLs.out with h | h
                · rw [beq_iff_eq]; omega
                · rw [hp] at h; cases h
              generalize (if ok' = true then (0 : Int) else 3) = r8 at *
              clear hb CZ HB7 hq7 HPZ hp HLs
              go_wp2_with fail
              refine ((CP _).out).mono ?_
              rintro e x9 ⟨⟨a9, c9, rfl, -⟩, hb⟩
              have HB9 := Lib.hid ((HB8.out.trans (hb.mono HB8.out.size)).alloc (Nat.le_trans HB8.out.size hb.size) (.cells #[.int .i64 ev.kind, .string (B ev.keys), .slice a9 ev.p.length c9, .string (B ev.text), .int .i64 ev.n, .int .i64 ev.l] 31))
              clear hb CP HB8 hq8
              go_wp2_with fail
              go_ret
              exact ⟨rfl, HB9.out⟩
end Go.Proofs.YtcbboegjegobeaaDoor
