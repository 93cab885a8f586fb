/-
  The library's stable sort at short lists of words that are near.
-/
import Derived.Test.YtadaijepalhohaaAO
namespace Go.Proofs.Ytadaijepalhohaa
open Go.RowKit
open Pl

set_option maxHeartbeats 1000000 in
theorem insertion_zero (a : Option Addr) (c : Nat) (w : World) :
    Calls Try.prog 41 #[.slice a 0 c, .int .i64 0, .int .i64 0, cmpV] w fun e w' => e = .returned (.tuple #[]) ∧ w = w' := by
  go_enter Try.func41, Try.ntmps41
  go_wp2_with fail
  go_loopw [8] (fun iv wr => iv = .int .i64 1 ∧ wr = w) (fun _ _ => 0)
  case atStart => exact ⟨rfl, rfl⟩
  case round =>
    obtain ⟨rfl, rfl⟩ := hrel
    go_wp2_with fail
    exact ret_none Try.results41 rfl ⟨rfl, rfl⟩
set_option maxHeartbeats 1000000 in
theorem stable_any (n : Nat) (v : Value) (R : Ending → World → Prop) (hn : n ≤ 19) (w : World) (C : Calls Try.prog 41 #[v, .int .i64 0, .int .i64 (n : Nat), cmpV] w fun e w' => e = .returned (.tuple #[]) ∧ R (.returned (.tuple #[])) w') :
    Calls Try.prog 35 #[v, .int .i64 (n : Nat), cmpV] w R := by
  have h1 : ¬ (20 : Int) ≤ (n : Int) := by omega
  have h2 : ¬ (20 : Int) < (n : Int) := by omega
  go_enter Try.func35, Try.ntmps35
  go_wp2_with fail
  go_loopw [7, 8] (fun av bv wr => av = .int .i64 0 ∧ bv = .int .i64 20 ∧ wr = w) (fun _ _ _ => 0)
  case atStart => exact ⟨rfl, rfl, rfl⟩
  case round =>
    obtain ⟨rfl, rfl, rfl⟩ := hrel
    go_wp2_with fail
    refine C.mono ?_
    rintro e w2 ⟨rfl, hR⟩
    have HR := Lib.hid hR
    clear hR C
    go_wp2_with fail
    go_loopw [6] (fun bv wr => bv = .int .i64 20 ∧ wr = w2) (fun _ _ => 0)
    case atStart => exact ⟨rfl, rfl⟩
    case round =>
      obtain ⟨rfl, rfl⟩ := hrel
      go_wp2_with fail
      exact ret_none Try.results35 rfl HR.out
set_option maxHeartbeats 1000000 in
theorem sortStable_any (n : Nat) (a : Option Addr) (c : Nat) (R : Ending → World → Prop) (hn : n ≤ 19) (w : World) (C : Calls Try.prog 41 #[.slice a n c, .int .i64 0, .int .i64 (n : Nat), cmpV] w fun e w' => e = .returned (.tuple #[]) ∧ R (.returned (.tuple #[])) w') :
    Calls Try.prog 26 #[.slice a n c, cmpV] w R := by
  have CS := stable_any n (.slice a n c) (fun e w' => e = .returned (.tuple #[]) ∧ R e w') hn w (C.mono fun e w' h => ⟨h.1, rfl, h.2⟩)
  go_enter Try.func26, Try.ntmps26
  go_wp2_with fail
  refine CS.mono ?_
  rintro e w2 ⟨rfl, hR⟩
  have HR := Lib.hid hR
  clear hR C CS
  go_wp2_with fail
  exact ret_none Try.results26 rfl HR.out
end Go.Proofs.Ytadaijepalhohaa
