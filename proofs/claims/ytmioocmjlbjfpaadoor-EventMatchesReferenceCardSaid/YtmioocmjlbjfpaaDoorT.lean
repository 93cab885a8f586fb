/-
  event.writeNumbers: a space and the digits of each number.
-/
import Derived.Test.YtmioocmjlbjfpaaDoorS
import Derived.Lib.AppendIntMem
namespace Go.Proofs.YtmioocmjlbjfpaaDoor
open Go.RowKit
open Pl

def PowTab (w : World) : Prop := Lib.TabIs Tryd.prog w "internal/strconv.uint64pow10" .u64 Lib.pow10Tab
theorem PowTab.below {w w' : World} (h : PowTab w) (hb : Below w.heap.size w w') : PowTab w' := Lib.tabBelow_of_tabIs h w' hb
theorem itoa_any (n : Nat) (hn : n ≤ 1000000) (w : World) (hT : PowTab w) :
    Calls Tryd.prog 59 #[.int .i64 (n : Int)] w fun e w' => e = .returned (.string (B (Lib.decDigits n))) ∧ Below w.heap.size w w' := by
  refine (Tryd.strconv_Itoa (n : Int) (by omega) (by omega) w hT).mono ?_
  rintro e w' ⟨rfl, k, os, rfl⟩
  refine ⟨?_, Lib.below_grow _ w (Nat.le_refl _) k os⟩
  have : Lib.itoa (n : Int) = Lib.decDigits n := by unfold Lib.itoa; rw [if_neg (by omega)]; rfl
  rw [this]; rfl

theorem B_cat (s t : List UInt8) : B s ++ ((⟨#[32]⟩ : ByteArray) ++ B t) = B (s ++ 32 :: t) := by
  rw [← B_toList (B s ++ (⟨#[32]⟩ ++ B t))]
  simp [B]
theorem dec_len : ∀ (k n : Nat), n < 10 ^ (k + 1) → (Lib.decDigits n).length ≤ k + 1
  | 0, n, h => by rw [Lib.decDigits, dif_pos (by simpa using h)]; simp
  | k + 1, n, h => by
    rw [Lib.decDigits]
    split
    · simp
    · have := dec_len k (n / 10) (by rw [Nat.pow_succ] at h; omega)
      simp; omega
def wrNums (xs : List Nat) : List UInt8 := xs.flatMap fun n => 32 :: Lib.decDigits n
theorem wrNums_take (xs : List Nat) (k : Nat) (h : k < xs.length) : wrNums (xs.take (k + 1)) = wrNums (xs.take k) ++ 32 :: Lib.decDigits xs[k] := by
  unfold wrNums
  rw [List.take_succ_eq_append_getElem h, List.flatMap_append]; simp
theorem wrNums_len : ∀ (xs : List Nat), (∀ n ∈ xs, n ≤ 1000000) → (wrNums xs).length ≤ 8 * xs.length
  | [], _ => by simp [wrNums]
  | a :: r, h => by
    have h1 := wrNums_len r (fun n hn => h n (by simp [hn]))
    have h2 := dec_len 6 a (by have := h a (by simp); omega)
    have e : wrNums (a :: r) = 32 :: Lib.decDigits a ++ wrNums r := by simp [wrNums]
    rw [e]; simp; omega
/-- The slice v reads as the numbers xs. -/
def NumsAt (W : World) (v : Value) (xs : List Nat) : Prop :=
  ∃ a c, v = .slice a xs.length c ∧ (0 < xs.length → ∃ b, a = some ⟨b, 0, none⟩ ∧ b < W.heap.size ∧ ∀ i (h : i < xs.length), W.cell? ⟨b, i, none⟩ = some (.int .i64 ((xs[i] : Nat) : Int)))

set_option maxHeartbeats 1000000 in
set_option maxRecDepth 100000 in
theorem writeNumbers_any (v : Value) (xs : List Nat) (w : World) (hv : NumsAt w v xs) (hx : ∀ n ∈ xs, n ≤ 1000000) (hl : xs.length ≤ 1000) (hT : PowTab w) :
    Calls Tryd.prog 48 #[v] w fun e w' => e = .returned (.string (B (wrNums xs))) ∧ Below w.heap.size w w' := by
  obtain ⟨a, c, rfl, hv⟩ := hv
  have HV := Lib.hid hv
  have HX := Lib.hid hx
  have HT := Lib.hid hT
  clear hv hx hT
  go_enter Tryd.func48, Tryd.ntmps48
  go_wp2_with fail
  go_loopw [3, 8] (fun s i wr => ∃ k : Nat, i = .int .i64 k ∧ k ≤ xs.length ∧ s = .string (B (wrNums (xs.take k))) ∧ Below w.heap.size w wr) (fun _ i _ => xs.length - (intOf i).toNat)
  case atStart => exact ⟨0, rfl, Nat.zero_le _, rfl, Below.refl _ _⟩
  case round =>
    obtain ⟨k, rfl, hk, rfl, hbr⟩ := hrel
    by_cases hlt : k < xs.length
    · obtain ⟨b, ha, hb, hc⟩ := HV.out (by omega)
      subst ha
      have hcell : wr.cell? ⟨b, k, none⟩ = some (.int .i64 ((xs[k] : Nat) : Int)) := ((bcell hbr).1 b k hb).trans (hc k hlt)
      have C := fun w hT => Lib.hid (itoa_any xs[k] (HX.out _ (List.getElem_mem hlt)) w hT)
      have Hs := Lib.hid (wrNums_take xs k hlt)
      have HTr := Lib.hid (HT.out.below hbr)
      clear hc
      have hd7 : (B (Lib.decDigits xs[k])).size ≤ 7 := by
        rw [size_B]; exact dec_len 6 _ (by have := HX.out _ (List.getElem_mem hlt); omega)
      have hs7 : (B (wrNums (xs.take k))).size ≤ 8000 := by
        rw [size_B]
        have h1 := wrNums_len (xs.take k) (fun n hn => HX.out n (List.mem_of_mem_take hn))
        have h2 := List.length_take_le k xs
        omega
      generalize xs[k] = m at *
      generalize wrNums (xs.take k) = s at *
      have hk0 : (0 : Int) ≤ (k : Int) := by omega
      have hk1 : (k : Int) < (xs.length : Int) := by omega
      go_wp2_with fail
      refine ((C _ HTr.out).out).mono ?_
      rintro e w1 ⟨rfl, hb1⟩
      have HB := Lib.hid (hbr.trans (hb1.mono hbr.size))
      clear hb1 C
      go_wp2_with fail
      go_roundw
      case rel => exact ⟨k + 1, by go_num, by omega, by rw [Hs.out]; exact congrArg Value.string (B_cat _ _), HB.out⟩
      case measure => simp [intOf]; omega
    · have hf : Hid (wrNums (xs.take k) = wrNums xs) := by rw [List.take_of_length_le (by omega)]; exact rfl
      have hnk : ¬ (k : Int) < (xs.length : Int) := by omega
      go_wp2_with fail
      go_ret
      exact ⟨by rw [← hf.out]; rfl, hbr⟩
end Go.Proofs.YtmioocmjlbjfpaaDoor
