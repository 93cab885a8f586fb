/-
  The writers of event.
-/
import Derived.Test.YtmioocmjlbjfpaaDoorT
namespace Go.Proofs.YtmioocmjlbjfpaaDoor
open Go.RowKit
open Pl

theorem B_sp (s : List UInt8) : (⟨#[32]⟩ : ByteArray) ++ B s = B (32 :: s) := by
  rw [← B_toList ((⟨#[32]⟩ : ByteArray) ++ B s)]; simp [B]
theorem ret_str {a b : ByteArray} (h : a = b) : Ending.returned (.string a) = .returned (.string b) := by rw [h]

set_option maxHeartbeats 400000 in
theorem writeNothing_any (kd : Int) (keys : List UInt8) (va : Option Addr) (vn vc : Nat) (text : List UInt8) (n l : Int) (w : World) :
    Calls Tryd.prog 50 #[.agg #[.int .i64 kd, .string (B keys), .slice va vn vc, .string (B text), .int .i64 n, .int .i64 l]] w fun e w' => e = .returned (.string (B [])) ∧ Below w.heap.size w w' := by
  go_enter Tryd.func50, Tryd.ntmps50
  go_wp2_with fail
  go_ret
  exact ⟨rfl, (Below.refl _ _).alloc (Nat.le_refl _) _⟩
set_option maxHeartbeats 400000 in
theorem writeKeys_any (kd : Int) (keys : List UInt8) (va : Option Addr) (vn vc : Nat) (text : List UInt8) (n l : Int) (w : World) (hk : (B keys).size ≤ 100) :
    Calls Tryd.prog 28 #[.agg #[.int .i64 kd, .string (B keys), .slice va vn vc, .string (B text), .int .i64 n, .int .i64 l]] w fun e w' => e = .returned (.string (B (32 :: keys))) ∧ Below w.heap.size w w' := by
  go_enter Tryd.func28, Tryd.ntmps28
  go_wp2_with fail
  go_ret
  exact ⟨ret_str (B_sp keys), (Below.refl _ _).alloc (Nat.le_refl _) _⟩
set_option maxHeartbeats 400000 in
theorem writeText_any (kd : Int) (keys : List UInt8) (va : Option Addr) (vn vc : Nat) (text : List UInt8) (n l : Int) (w : World) (hk : (B text).size ≤ 100) :
    Calls Tryd.prog 32 #[.agg #[.int .i64 kd, .string (B keys), .slice va vn vc, .string (B text), .int .i64 n, .int .i64 l]] w fun e w' => e = .returned (.string (B (32 :: text))) ∧ Below w.heap.size w w' := by
  go_enter Tryd.func32, Tryd.ntmps32
  go_wp2_with fail
  go_ret
  exact ⟨ret_str (B_sp text), (Below.refl _ _).alloc (Nat.le_refl _) _⟩

theorem NumsAt.one (W : World) (n : Nat) : NumsAt (W.alloc (.cells #[.int .i64 (n : Int)] 3)) (.slice (some ⟨W.heap.size, 0, none⟩) 1 1) [n] := by
  refine ⟨_, 1, rfl, fun _ => ⟨W.heap.size, rfl, by simp, fun i hi => ?_⟩⟩
  obtain rfl : i = 0 := by simpa using hi
  have hh := heap_alloc_new W (.cells #[.int .i64 (n : Int)] 3)
  simp only [World.cell?, hh]; rfl
theorem NumsAt.two (W : World) (n l : Nat) : NumsAt (W.alloc (.cells #[.int .i64 (n : Int), .int .i64 (l : Int)] 3)) (.slice (some ⟨W.heap.size, 0, none⟩) 2 2) [n, l] := by
  refine ⟨_, 2, rfl, fun _ => ⟨W.heap.size, rfl, by simp, fun i hi => ?_⟩⟩
  have hi' : i < 2 := hi
  have hh := heap_alloc_new W (.cells #[.int .i64 (n : Int), .int .i64 (l : Int)] 3)
  rcases (show i = 0 ∨ i = 1 by omega) with rfl | rfl <;> (simp only [World.cell?, hh]; rfl)

set_option maxHeartbeats 1000000 in
set_option maxRecDepth 100000 in
theorem writeHold_any (kd : Int) (keys : List UInt8) (va : Option Addr) (vn vc : Nat) (text : List UInt8) (n l : Nat) (w : World) (hn : n ≤ 1000000) (hl : l ≤ 1000000) (hT : PowTab w) :
    Calls Tryd.prog 35 #[.agg #[.int .i64 kd, .string (B keys), .slice va vn vc, .string (B text), .int .i64 (n : Int), .int .i64 (l : Int)]] w fun e w' => e = .returned (.string (B (wrNums [n, l]))) ∧ Below w.heap.size w w' := by
  have h1 : Below w.heap.size w (w.alloc (.cells #[.int .i64 kd, .string (B keys), .slice va vn vc, .string (B text), .int .i64 (n : Int), .int .i64 (l : Int)] 31)) := (Below.refl _ _).alloc (Nat.le_refl _) _
  have h2 := h1.alloc h1.size (.cells #[.int .i64 (n : Int), .int .i64 (l : Int)] 3)
  have HN := Lib.hid (NumsAt.two (w.alloc (.cells #[.int .i64 kd, .string (B keys), .slice va vn vc, .string (B text), .int .i64 (n : Int), .int .i64 (l : Int)] 31)) n l)
  have HT := Lib.hid (hT.below h2)
  have H2 := Lib.hid h2
  have C := fun v w hv hT => Lib.hid (writeNumbers_any v [n, l] w hv (by intro m hm; simp at hm; omega) (by simp) hT)
  clear h1 h2 hT hn hl
  go_enter Tryd.func35, Tryd.ntmps35
  go_wp2_with fail
  refine ((C _ _ (by simpa using HN.out) HT.out).out).mono ?_
  rintro e w' ⟨rfl, hb⟩
  have HB := Lib.hid (H2.out.trans (hb.mono H2.out.size))
  clear hb C
  go_wp2_with fail
  go_ret
  exact ⟨rfl, HB.out⟩
set_option maxHeartbeats 1000000 in
set_option maxRecDepth 100000 in
theorem writeChoose_any (kd : Int) (keys : List UInt8) (va : Option Addr) (vn vc : Nat) (text : List UInt8) (n : Nat) (l : Int) (w : World) (hn : n ≤ 1000000) (hT : PowTab w) :
    Calls Tryd.prog 37 #[.agg #[.int .i64 kd, .string (B keys), .slice va vn vc, .string (B text), .int .i64 (n : Int), .int .i64 l]] w fun e w' => e = .returned (.string (B (wrNums [n]))) ∧ Below w.heap.size w w' := by
  have h1 : Below w.heap.size w (w.alloc (.cells #[.int .i64 kd, .string (B keys), .slice va vn vc, .string (B text), .int .i64 (n : Int), .int .i64 l] 31)) := (Below.refl _ _).alloc (Nat.le_refl _) _
  have h2 := h1.alloc h1.size (.cells #[.int .i64 (n : Int)] 3)
  have HN := Lib.hid (NumsAt.one (w.alloc (.cells #[.int .i64 kd, .string (B keys), .slice va vn vc, .string (B text), .int .i64 (n : Int), .int .i64 l] 31)) n)
  have HT := Lib.hid (hT.below h2)
  have H2 := Lib.hid h2
  have C := fun v w hv hT => Lib.hid (writeNumbers_any v [n] w hv (by intro m hm; simp at hm; omega) (by simp) hT)
  clear h1 h2 hT hn
  go_enter Tryd.func37, Tryd.ntmps37
  go_wp2_with fail
  refine ((C _ _ (by simpa using HN.out) HT.out).out).mono ?_
  rintro e w' ⟨rfl, hb⟩
  have HB := Lib.hid (H2.out.trans (hb.mono H2.out.size))
  clear hb C
  go_wp2_with fail
  go_ret
  exact ⟨rfl, HB.out⟩

def flatP (ps : List (Int × Int)) : List Nat := ps.flatMap fun p => [p.1.toNat, p.2.toNat]
theorem flatP_take (ps : List (Int × Int)) (k : Nat) (h : k < ps.length) : flatP (ps.take (k + 1)) = flatP (ps.take k) ++ [ps[k].1.toNat, ps[k].2.toNat] := by
  unfold flatP
  rw [List.take_succ_eq_append_getElem h, List.flatMap_append]; simp
theorem flatP_len (ps : List (Int × Int)) : (flatP ps).length = 2 * ps.length := by
  induction ps with
  | nil => rfl
  | cons p r ih => simp [flatP] at ih ⊢; omega
theorem inside_of (ps : List (Int × Int)) (h : insideB ps = true) (k : Nat) (hk : k < ps.length) : (0 ≤ ps[k].1 ∧ ps[k].1 ≤ 1000) ∧ 0 ≤ ps[k].2 ∧ ps[k].2 ≤ 1000 := by
  rw [insideB, List.all_eq_true] at h
  have := h ps[k] (List.getElem_mem hk)
  rw [Bool.and_eq_true] at this
  exact ⟨hasB_true.1 this.1, hasB_true.1 this.2⟩
theorem flatP_bd (ps : List (Int × Int)) (h : insideB ps = true) : ∀ n ∈ flatP ps, n ≤ 1000000 := by
  intro n hn
  unfold flatP at hn
  rw [List.mem_flatMap] at hn
  obtain ⟨p, hp, hn⟩ := hn
  obtain ⟨k, hk, rfl⟩ := List.getElem_of_mem hp
  have := inside_of ps h k hk
  simp at hn
  omega
theorem nats_app2 (xs : List Nat) (a b : Nat) : nats (xs ++ [a, b]) = nats xs ++ [.int .i64 (a : Int), .int .i64 (b : Int)] := by simp [nats]
theorem own_nums {W : World} {base : Nat} {v : Value} {xs : List Nat} (h : W.ownsRow base 3 1 v xs.length (nats xs)) : NumsAt W v xs := by
  obtain ⟨a, c, rfl⟩ := own_shape h
  refine ⟨a, c, rfl, fun hp => ?_⟩
  obtain ⟨g, cap, hv, _, hlt, hc⟩ := nums_cells h hp
  cases hv
  exact ⟨g, rfl, hlt, hc⟩

set_option maxHeartbeats 1000000 in
set_option maxRecDepth 100000 in
theorem writePoints_any (kd : Int) (keys : List UInt8) (va : Option Addr) (vc : Nat) (ps : List (Int × Int)) (text : List UInt8) (n l : Int) (w : World) (hP : PtsAt w w.heap.size (.slice va ps.length vc) ps) (hin : insideB ps = true) (hl : ps.length ≤ 100) (hT : PowTab w) :
    Calls Tryd.prog 30 #[.agg #[.int .i64 kd, .string (B keys), .slice va ps.length vc, .string (B text), .int .i64 n, .int .i64 l]] w fun e w' => e = .returned (.string (B (wrNums (flatP ps)))) ∧ Below w.heap.size w w' := by
  obtain ⟨i0, hi, hz0, hz1, hz2⟩ := info_parts info3
  obtain ⟨a', c', hav, hP⟩ := hP
  cases hav
  have HP := Lib.hid hP
  have HI := Lib.hid hin
  have HT := Lib.hid hT
  have C := fun v w hv hT => Lib.hid (writeNumbers_any v (flatP ps) w hv (flatP_bd ps hin) (by rw [flatP_len]; omega) hT)
  have hb0 := Lib.hid (show Below w.heap.size w (w.alloc (.cells #[.int .i64 kd, .string (B keys), .slice va ps.length vc, .string (B text), .int .i64 n, .int .i64 l] 31)) from (Below.refl _ _).alloc (Nat.le_refl _) _)
  clear hP hin hT
  go_enter Tryd.func30, Tryd.ntmps30
  go_wp2_with fail
  go_loopw [3, 9] (fun v i wr => ∃ k : Nat, i = .int .i64 k ∧ k ≤ ps.length ∧ wr.ownsRow (w.heap.size + 1) 3 1 v (flatP (ps.take k)).length (nats (flatP (ps.take k))) ∧ Below w.heap.size w wr ∧ w.heap.size + 1 ≤ wr.heap.size) (fun _ i _ => ps.length - (intOf i).toNat)
  case atStart => exact ⟨0, rfl, Nat.zero_le _, ⟨rfl, Or.inl ⟨rfl, rfl⟩⟩, hb0.out, by simp⟩
  case round =>
    obtain ⟨k, rfl, hk, hown, hbr, hsr⟩ := hrel
    obtain ⟨na, nc, rfl⟩ := own_shape hown
    by_cases hlt : k < ps.length
    · obtain ⟨b, off, ha, hb, hc⟩ := HP.out (by omega)
      subst ha
      have hbd := inside_of ps HI.out k hlt
      have hx : wr.cell? ⟨b, off + k * 2, none⟩ = some (.int .i64 (ps[k].1.toNat : Int)) := by
        rw [Int.toNat_of_nonneg hbd.1.1]; exact ((bcell hbr).1 b _ hb).trans (hc k hlt).1
      have hy : wr.cell? ⟨b, off + k * 2 + 1, none⟩ = some (.int .i64 (ps[k].2.toNat : Int)) := by
        rw [Int.toNat_of_nonneg hbd.2.1]; exact ((bcell hbr).1 b _ hb).trans (hc k hlt).2
      have Hs := Lib.hid (flatP_take ps k hlt)
      have hfl := flatP_len (ps.take k)
      have hfl2 := List.length_take_le k ps
      have Hfl := Lib.hid hfl
      have hfb : (flatP (ps.take k)).length ≤ 200 := by omega
      clear hc hbd hfl hfl2
      generalize ps[k].1.toNat = x at *
      generalize ps[k].2.toNat = y at *
      generalize flatP (ps.take k) = xs at *
      have hk0 : (0 : Int) ≤ (k : Int) := by omega
      have hk1 : (k : Int) < (ps.length : Int) := by omega
      have hmx : xs.length + 2 ≤ maxLen := by unfold maxLen; omega
      have hby : (xs.length + 2) * 8 ≤ 140737488355328 := by omega
      have hb1 := Lib.hid ((hbr.alloc hbr.size (.cells #[.int .i64 (x : Int), .int .i64 (y : Int)] 40)))
      have hb2 := Lib.hid (hb1.out.alloc hb1.out.size (.cells #[.int .i64 (x : Int), .int .i64 (y : Int)] 3))
      have hba : w.heap.size + 1 ≤ ((wr.alloc (.cells #[.int .i64 (x : Int), .int .i64 (y : Int)] 40)).alloc (.cells #[.int .i64 (x : Int), .int .i64 (y : Int)] 3)).heap.size := by simp; omega
      have hown1 := (hown.alloc (.cells #[.int .i64 (x : Int), .int .i64 (y : Int)] 40)).alloc (.cells #[.int .i64 (x : Int), .int .i64 (y : Int)] 3)
      have hob := Lib.hid (own_block hown)
      have hnw := Lib.hid (cell_two_new (wr.alloc (.cells #[.int .i64 (x : Int), .int .i64 (y : Int)] 40)) (.int .i64 (x : Int)) (.int .i64 (y : Int)) 3)
      clear hown
      go_wp2_with (first
        | (at_builtin; refine wpList_append_own _ rfl _ _ 78 rfl (w.heap.size + 1) 3 i0 (.int .i64 0) 1 8 Tryd.underlying78 hi hz0 hz1 hz2 rfl (by decide) _ _ _ rfl hown1 ⟨wr.heap.size + 1, 0, none⟩ 2 2 [.int .i64 (x : Int), .int .i64 (y : Int)] rfl rfl (by simpa using hnw.out) (ints_oneCell .i64 [(x : Int), (y : Int)]) hmx hby hba ?_; intro v' w2 hown2 hgrow2 _)
        | fail)
      have hbf : Below w.heap.size w w2 := hb2.out.grown hgrow2 hb2.out.size (fun k hk => by have := hob.out k hk; omega)
      have hszf : w.heap.size + 1 ≤ w2.heap.size := Nat.le_trans hba hgrow2.size
      go_roundw
      case rel => exact ⟨k + 1, by go_num, by omega, by rw [Hs.out, nats_app2, List.length_append]; exact hown2, hbf, hszf⟩
      case measure => simp [intOf]; omega
    · have hnk : ¬ (k : Int) < (ps.length : Int) := by omega
      have hkk : ps.take k = ps := List.take_of_length_le (by omega)
      rw [hkk] at hown
      have HN : Hid (NumsAt wr (.slice na (flatP ps).length nc) (flatP ps)) := own_nums hown
      have HTr := Lib.hid (HT.out.below hbr)
      rw [hkk]
      clear hown hkk
      go_wp2_with fail
      refine ((C _ _ HN.out HTr.out).out).mono ?_
      rintro e w' ⟨rfl, hb⟩
      have HB := Lib.hid (hbr.trans (hb.mono hbr.size))
      clear hb C
      go_wp2_with fail
      go_ret
      exact ⟨rfl, HB.out⟩
end Go.Proofs.YtmioocmjlbjfpaaDoor
