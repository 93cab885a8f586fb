/-
  A slice of bytes as an argument; SchemeTexts for any of them.
-/
import Derived.Test.YtnbiedijofdjhaaDoorVC
import Derived.Deep.Strs
import Derived.Deep.Slices
import Derived.Carry
import Derived.OpenShut
import Derived.ChangeOld
namespace Go.Proofs.YtnbiedijofdjhaaDoor
open Go.ChangeShapes Go.WideShapes Go.ChangeAt Go.RowKit Go.ChangeMaps

theorem texts_out : laidOutB Tryd.prog = true := by kernel_rfl
theorem cells56 : Tryd.prog.cellsOf 5 = 1 := by kernel_rfl
theorem rec56 : Tryd.prog.readableRec 56 = true := by kernel_rfl
theorem row56 : 56 < Tryd.prog.types.size := of_decide_eq_true (by kernel_rfl)
theorem add_none (b off k : Nat) : (⟨b, off, none⟩ : Addr).add k = ⟨b, off + k, none⟩ := by unfold Addr.add; split <;> simp_all
set_option maxRecDepth 100000 in
theorem bytes_open {H : Type} {enc : TypeId × Value → H} {W : World} {v : Value} {x : DataW H × List MemPlace} {fuel : Nat} (h : DataW.trod enc Tryd.prog W 0 (fun _ => true) true fuel 56 [v] = some x) :
    ∃ a n c, v = .slice a n c ∧ n ≤ maxLen ∧ BytesAt W W.heap.size v n := by
  rcases Deep.open_slice1 Tryd.underlying56 cells56 h with ⟨h0, _⟩ | ⟨a, len, cap, m, n, V, D, Pl, hcs, _, hl, hc, hm, _, hx⟩
  · obtain rfl : v = .slice none 0 0 := by simpa using h0
    exact ⟨none, 0, 0, rfl, Nat.zero_le _, none, 0, rfl, fun h => absurd h (Nat.lt_irrefl _)⟩
  · obtain rfl : v = .slice (some a) len cap := by simpa using hcs
    simp only [if_true] at hm
    subst hm
    refine ⟨some a, len, m, rfl, Nat.le_trans hl hc, some a, m, rfl, fun hp => ?_⟩
    have h1 := (hx 0 (by omega)).1
    have hs : a.spot = none := by simpa [Addr.add] using World.cell?_spot h1
    obtain ⟨b, off, spot⟩ := a
    obtain rfl : spot = none := hs
    rw [add_none] at h1
    refine ⟨b, off, rfl, World.block_lt_of_cell? W _ h1, fun i hi => ?_⟩
    obtain ⟨h2, h3⟩ := hx i (by omega)
    obtain ⟨y, hy, -, hw⟩ := DataW.trod_int Tryd.underlying5 h3
    have hv : V i = .int .u8 y := by simpa using hy
    have bd := bounds_u8 hw
    rw [add_none, hv] at h2
    exact ⟨y, h2, bd.1, bd.2⟩
set_option maxRecDepth 100000 in
theorem open_tU8s {H : Type} {enc : TypeId × Value → H} {W : World} {r : Reach} {base : Nat} {v : Value} {d : DataW H} {p : List MemPlace} (hv : Value.okWide Tryd.prog W r base 56 v) (h : DataW.Trod enc Tryd.prog W 0 (fun _ => true) true 56 v d p) :
    ∃ o : Option Addr × Nat × Nat, v = .slice o.1 o.2.1 o.2.2 ∧ (o.2.1 ≤ maxLen ∧ BytesAt W W.heap.size (.slice o.1 o.2.1 o.2.2) o.2.1) := by
  obtain ⟨a0, n0, c0, rfl⟩ := okWide_slice Tryd.underlying56 hv
  obtain ⟨fuel, hf⟩ := h
  have hf' : DataW.trod enc Tryd.prog W 0 (fun _ => true) true fuel 56 [.slice a0 n0 c0] = some (d, p) := hf
  obtain ⟨a, n, c, he, hl, hx⟩ := bytes_open hf'
  obtain ⟨rfl, rfl, rfl⟩ : a0 = a ∧ n0 = n ∧ c0 = c := by simpa using he
  exact ⟨(a0, n0, c0), rfl, hl, hx⟩
set_option maxRecDepth 100000 in
theorem back_tU8s {H : Type} {enc : TypeId × Value → H} {W W' : World} {v : Value} {d : DataW H} {p : List MemPlace} (h : DataW.Trod enc Tryd.prog W 0 (fun _ => true) true 56 v d p) (hb : Below W.heap.size W W') :
    DataW.Trod enc Tryd.prog W' 0 (fun b => decide (b < W.heap.size)) true 56 v d p :=
  Below.trod texts_out rec56 row56 h hb (DataW.TrodAll.lt (trodAll_mk1 h))
theorem texts_any (o : Option Addr × Nat × Nat) (s : ByteArray) (n m : Int) (w : World) (hT : StrTab w) (hP : PowTab w) (hm : MaxVar w m) (h0 : 0 < w.heap.size) (hg : 2 < w.heap.size) (ho : o.2.1 ≤ maxLen ∧ BytesAt w w.heap.size (.slice o.1 o.2.1 o.2.2) o.2.1) {q : Prop} (_hs : q) (hn : 0 ≤ n ∧ n ≤ 255) :
    Calls Tryd.prog 9 #[.slice o.1 o.2.1 o.2.2, .string s, .int .u8 n] w fun e w' => e = .returned (.bool true) ∧ Below w.heap.size w w' := by
  by_cases h : s.size ≤ 60
  · exact Texts_any m o.1 o.2.1 o.2.2 s n w hT hP hm h0 hg h ho.2 ho.1 hn
  · exact Texts_long m o.1 o.2.1 o.2.2 s n w hT hP hm h0 hg (by omega)
end Go.Proofs.YtnbiedijofdjhaaDoor
