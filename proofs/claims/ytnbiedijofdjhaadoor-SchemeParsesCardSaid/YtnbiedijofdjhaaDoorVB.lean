/-
  The reference's Input: letters of a, b and c out of bytes.
-/
import Derived.Test.YtnbiedijofdjhaaDoorVA
namespace Go.Proofs.YtnbiedijofdjhaaDoor
open Go.RowKit
open Pl

/-- A slice of n bytes, in memory below block number B0. -/
def BytesAt (W : World) (B0 : Nat) (v : Value) (n : Nat) : Prop := ∃ a c, v = .slice a n c ∧ (0 < n → ∃ b off, a = some ⟨b, off, none⟩ ∧ b < B0 ∧ ∀ i, i < n → ∃ x : Int, W.cell? ⟨b, off + i, none⟩ = some (.int .u8 x) ∧ 0 ≤ x ∧ x ≤ 255)
theorem BytesAt.on {W W' : World} {v : Value} {n : Nat} (h : BytesAt W W.heap.size v n) (hb : Below W.heap.size W W') : BytesAt W' W'.heap.size v n := by
  obtain ⟨a, c, rfl, h⟩ := h
  refine ⟨a, c, rfl, fun hp => ?_⟩
  obtain ⟨b, off, rfl, hlt, hc⟩ := h hp
  refine ⟨b, off, rfl, Nat.lt_of_lt_of_le hlt hb.size, fun i hi => ?_⟩
  obtain ⟨x, h1, h2⟩ := hc i hi
  exact ⟨x, (hb.cell (p := ⟨b, off + i, none⟩) hlt).trans h1, h2⟩
/-- What Input answers: some letters. -/
def InPost (n k : Nat) (w : World) (e : Ending) (w' : World) : Prop := (∃ t : List UInt8, e = .returned (.string (B t)) ∧ onlyB 1 t = true ∧ t.length ≤ n ∧ t.length ≤ k) ∧ Below w.heap.size w w'
theorem abc (r : Nat) (h : r < 3) : (⟨#[97, 98, 99]⟩ : ByteArray).extract r (r + 1) = B [UInt8.ofNat (97 + r)] := by
  rcases (show r = 0 ∨ r = 1 ∨ r = 2 by omega) with rfl | rfl | rfl <;> decide
theorem abc_only (r : Nat) (h : r < 3) (t : List UInt8) (ht : onlyB 1 t = true) : onlyB 1 (t ++ [UInt8.ofNat (97 + r)]) = true := by
  unfold onlyB at ht ⊢
  rw [List.all_append, ht]
  rcases (show r = 0 ∨ r = 1 ∨ r = 2 by omega) with rfl | rfl | rfl <;> rfl
set_option maxHeartbeats 1000000 in
set_option maxRecDepth 100000 in
theorem Input_any (la : Option Addr) (ln lc k : Nat) (w : World) (hx : BytesAt w w.heap.size (.slice la ln lc) ln) (hl : ln ≤ maxLen) :
    Calls Tryd.prog 27 #[.slice la ln lc, .int .i64 (k : Nat)] w (InPost ln k w) := by
  have HX := Lib.hid hx
  unfold maxLen at hl
  clear hx
  go_enter Tryd.func27, Tryd.ntmps27
  go_wp2_with fail
  go_loopw [5, 6] (fun s i wr => ∃ t : List UInt8, i = .int .i64 (t.length : Nat) ∧ s = .string (B t) ∧ t.length ≤ ln ∧ t.length ≤ k ∧ onlyB 1 t = true ∧ Below w.heap.size w wr) (fun _ i _ => ln - (intOf i).toNat)
  case atStart => exact ⟨[], rfl, rfl, Nat.zero_le _, Nat.zero_le _, rfl, Below.refl _ _⟩
  case round =>
    obtain ⟨t, rfl, rfl, h1, h2, ho, hb⟩ := hrel
    have HO := Lib.hid ho
    have HB := Lib.hid hb
    clear ho
    by_cases hp : t.length < ln
    · have hp' : (t.length : Int) < (ln : Int) := by omega
      by_cases hq : t.length < k
      · have hq' : (t.length : Int) < (k : Int) := by omega
        obtain ⟨a0, c0, hv, hc⟩ := HX.out.on hb
        obtain ⟨rfl, -⟩ : la = a0 ∧ lc = c0 := by simpa using hv
        obtain ⟨b, off, rfl, hbb, hc⟩ := hc (by omega)
        obtain ⟨x, hcell, hx0, hx1⟩ := hc t.length hp
        obtain ⟨r, hr, hr3⟩ : ∃ r : Nat, x.tmod 3 = (r : Int) ∧ r < 3 := ⟨(x.tmod 3).toNat, by rw [Int.tmod_eq_emod_of_nonneg hx0]; omega, by rw [Int.tmod_eq_emod_of_nonneg hx0]; omega⟩
        have hr0 : (0 : Int) ≤ (r : Int) := by omega
        have hr4 : (r : Int) + 1 ≤ 3 := by omega
        have hr5 : (r : Int) ≤ (r : Int) + 1 := by omega
        have hj0 : (0 : Int) ≤ (t.length : Int) := by omega
        have hwr : IntKind.u8.wrap ((r : Int) + 1) = (r : Int) + 1 := IntWalk.u8_in _ (by omega)
        have hn1 : ((r : Int) + 1).toNat = r + 1 := by omega
        have HA := Lib.hid (abc r hr3)
        have hcat : ¬ 9223372036854775807 < (B t).size + ((⟨#[97, 98, 99]⟩ : ByteArray).extract r (r + 1)).size := by rw [abc r hr3, size_B, size_B]; simp; omega
        have HE := Lib.hid (abc_only r hr3 t HO.out)
        have HC := Lib.hid (B_app t [UInt8.ofNat (97 + r)])
        have HL := Lib.hid (show (t ++ [UInt8.ofNat (97 + r)]).length = t.length + 1 by simp)
        clear hc hv hb
        go_upto_region 5 with fail
        go_quiet (fail)
        rw [HA.out, HC.out]
        go_wp2_with fail
        go_roundw
        case rel => exact ⟨t ++ [UInt8.ofNat (97 + r)], by rw [HL.out]; go_num, rfl, by rw [HL.out]; omega, by rw [HL.out]; omega, HE.out, below_drewN HB.out nq⟩
        case measure => simp [intOf]; omega
      · have hq' : ¬ (t.length : Int) < (k : Int) := by omega
        go_wp2_with fail
        go_ret
        exact ⟨⟨t, rfl, HO.out, h1, h2⟩, HB.out⟩
    · have hp' : ¬ (t.length : Int) < (ln : Int) := by omega
      go_wp2_with fail
      go_ret
      exact ⟨⟨t, rfl, HO.out, h1, h2⟩, HB.out⟩
end Go.Proofs.YtnbiedijofdjhaaDoor
