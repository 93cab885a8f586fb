/-
  A rule that is right at its place (written by se.py).
-/
import Derived.Test.YtadaijepalhohabDoorSD
import Derived.Deep.RegionHeld3
import Derived.Deep.RegionHeld
import Derived.BigQuiet
import Derived.Deep.DeepCutAuto
namespace Go.Proofs.YtadaijepalhohabDoor
open Go.RowKit
open Pl

def rightB (modes : Int) (rs : List Rl) (i : Nat) (r : Rl) : Bool := modeB modes r.src && (modeB modes r.dst && (decide (((B r.inp).size : Int) ≤ 4) && (onlyB 1 r.inp && (decide (((B r.out).size : Int) ≤ 4) && (onlyB 7 r.out && (decide (0 ≤ r.cost) && (decide (r.cost ≤ 1000) && !decide (r ∈ rs.take i))))))))
theorem RlsAt.take {W : World} {b0 : Nat} {a : Option Addr} {c c' : Nat} {rs : List Rl} (h : RlsAt W b0 (.slice a rs.length c) rs) (i : Nat) (hi : i ≤ rs.length) : RlsAt W b0 (.slice a i c') (rs.take i) := by
  obtain ⟨a0, c0, hv, hc⟩ := h
  obtain ⟨rfl, -⟩ : a = a0 ∧ c = c0 := by simpa using hv
  have hl : (rs.take i).length = i := by rw [List.length_take]; omega
  refine ⟨a, c', by rw [hl], fun hp => ?_⟩
  rw [hl] at hp
  obtain ⟨b, off, ha, hb, hc⟩ := hc (by omega)
  refine ⟨b, off, ha, hb, fun j hj => ?_⟩
  rw [hl] at hj
  have := hc j (by omega)
  simpa using this
theorem RlBlock.alloc {W : World} {b : Nat} {r : Rl} (h : RlBlock W b r) (o : Obj) : RlBlock (W.alloc o) b r := h.below ((Below.refl _ _).alloc (Nat.le_refl _) o)
theorem SchBlock.alloc {W : World} {b : Nat} {m x v : Value} (h : SchBlock W b m x v) (o : Obj) : SchBlock (W.alloc o) b m x v := h.below ((Below.refl _ _).alloc (Nat.le_refl _) o)

theorem wp_region_class {P : Program} {C : World → Prop} {id : Nat} {Q : Exit → Act → World → Prop} {a : Act} {w : World} {l : List Oper} (hm : P.follows .mixedOrders = true) (hB : Region.lexB .any l.toArray = true) (hC : C { w with drawn := w.drawn + 1 })
    (h : wpQuiet P l.toArray C (fun a' => ∀ w', C w' → Q .normal a' w') l a) : (Code.region id l.toArray true).wp P Q a w :=
  wp_region_quiet (C := C) hm hB hC (by simpa using h)
theorem quiet_call {P : Program} {C : World → Prop} {a : Act} {o : Oper} {K : Act → Prop} (f : FuncId) (args : Array Value) (v : Value) (hr : ∀ W, (execOp a.eval o).run P W = .ok (.enter f args) W) (hc : ∀ W, C W → Calls P f args W fun e w' => e = .returned v ∧ C w') (hk : K (a.put o.dst v)) : o.quiet P a C K :=
  ⟨v, fun W h => by unfold Oper.quietAt; rw [hr]; exact ⟨rfl, hc W h⟩, hk⟩
theorem quiet_value {P : Program} {C : World → Prop} {a : Act} {o : Oper} {K : Act → Prop} (v : Value) (hr : ∀ W, C W → (execOp a.eval o).run P W = .ok (.value v) W) (hk : K (a.put o.dst v)) : o.quiet P a C K :=
  ⟨v, fun W h => by unfold Oper.quietAt; rw [hr W h]; exact ⟨rfl, rfl⟩, hk⟩

set_option maxHeartbeats 4000000 in
set_option maxRecDepth 100000 in
theorem right_any (modes acc : Int) (a : Option Addr) (c : Nat) (rs : List Rl) (i : Nat) (hi : i < rs.length) (w : World) (hT : StrTab w) (h0 : 0 < w.heap.size) (hx : RlsAt w w.heap.size (.slice a rs.length c) rs) (hcap : rs.length ≤ c) (hm : rs.length ≤ maxLen)
    (hz : ∀ x ∈ rs, x.inp.length ≤ maxLen ∧ x.out.length ≤ maxLen) :
    Calls Tryd.prog 47 #[(.agg #[.int .i64 modes, .int .u8 acc, .slice a rs.length c]), .int .i64 (i : Int)] w fun e w' => e = .returned (.bool (rightB modes rs i rs[i])) ∧ Below w.heap.size w w' := by
  obtain ⟨r, hr⟩ : ∃ r, r = rs[i] := ⟨_, rfl⟩
  obtain ⟨hzi, hzo⟩ := hz rs[i] (List.getElem_mem hi)
  rw [← hr] at hzi hzo
  obtain ⟨b, off, rfl, hbb, hc⟩ : ∃ b off, a = some ⟨b, off, none⟩ ∧ b < w.heap.size ∧ w.cell? ⟨b, off + i * 5, none⟩ = some (.int .i64 r.src) ∧ w.cell? ⟨b, off + i * 5 + 1, none⟩ = some (.int .i64 r.dst) ∧ w.cell? ⟨b, off + i * 5 + 2, none⟩ = some (.string (B r.inp)) ∧ w.cell? ⟨b, off + i * 5 + 3, none⟩ = some (.string (B r.out)) ∧ w.cell? ⟨b, off + i * 5 + 4, none⟩ = some (.int .i64 r.cost) := by
    obtain ⟨a0, c0, hv, hc⟩ := hx
    obtain ⟨rfl, -⟩ : a = a0 ∧ c = c0 := by simpa using hv
    obtain ⟨b, off, ha, hb, hc⟩ := hc (by omega)
    exact ⟨b, off, ha, hb, by rw [hr]; exact hc i hi⟩
  generalize ha : (some (⟨b, off, none⟩ : Addr)) = a at *
  have e1 : (w.alloc (.cells #[.int .i64 modes, .int .u8 acc, .slice a rs.length c] 28)).heap.size = w.heap.size + 1 := World.size_alloc _ _
  have hA1 : Below w.heap.size w (w.alloc (.cells #[.int .i64 modes, .int .u8 acc, .slice a rs.length c] 28)) := (Below.refl _ _).alloc (Nat.le_refl _) _
  have hA : Below w.heap.size w ((w.alloc (.cells #[.int .i64 modes, .int .u8 acc, .slice a rs.length c] 28)).alloc (.cells #[.int .i64 r.src, .int .i64 r.dst, .string (B r.inp), .string (B r.out), .int .i64 r.cost] 31)) := hA1.alloc (by omega) _
  have SBa := Lib.hid (show SchBlock ((w.alloc (.cells #[.int .i64 modes, .int .u8 acc, .slice a rs.length c] 28)).alloc (.cells #[.int .i64 r.src, .int .i64 r.dst, .string (B r.inp), .string (B r.out), .int .i64 r.cost] 31)) w.heap.size (.int .i64 modes) (.int .u8 acc) (.slice a rs.length c) from (SchBlock.new w _ _ _).alloc _)
  have RBa := Lib.hid (show RlBlock ((w.alloc (.cells #[.int .i64 modes, .int .u8 acc, .slice a rs.length c] 28)).alloc (.cells #[.int .i64 r.src, .int .i64 r.dst, .string (B r.inp), .string (B r.out), .int .i64 r.cost] 31)) (w.heap.size + 1) r by
    have h := heap_alloc_new (w.alloc (.cells #[.int .i64 modes, .int .u8 acc, .slice a rs.length c] 28)) (.cells #[.int .i64 r.src, .int .i64 r.dst, .string (B r.inp), .string (B r.out), .int .i64 r.cost] 31)
    rw [e1] at h
    exact h)
  have HA := Lib.hid hA
  have HX := Lib.hid (hx.on hA)
  have HT := Lib.hid (hT.below hA h0)
  have H0 := Lib.hid (Nat.lt_of_lt_of_le h0 hA.size)
  obtain ⟨x0, x1, x2, x3, x4⟩ := hc
  have y := fun o => hA1.cell (p := ⟨b, o, none⟩) hbb
  have z0 := (y _).trans x0
  have z1 := (y _).trans x1
  have z2 := (y _).trans x2
  have z3 := (y _).trans x3
  have z4 := (y _).trans x4
  have hi0 : (0 : Int) ≤ (i : Int) := by omega
  have hi1 : (i : Int) < (rs.length : Int) := by omega
  have hi2 : (i : Int) ≤ (rs.length : Int) := by omega
  have hi3 : (i : Int) ≤ (c : Int) := by omega
  rw [← hr]
  clear hr hx hT h0 hA e1 hA1 x0 x1 x2 x3 x4 y hz
  subst ha
  go_enter Tryd.func47, Tryd.ntmps47
  go_upto_region 2 with fail
  clear z0 z1 z2 z3 z4 hbb
  generalize (w.alloc _).alloc _ = w2 at *
  generalize (some (⟨b, off, none⟩ : Addr)) = a at *
  have SB0 := SBa.out.cells
  have RB0 := RBa.out.cells
  have hsz : w.heap.size + 1 < w2.heap.size := lt_of_heap RBa.out
  have CJ : ∀ W, Below w2.heap.size w2 W → Hid (W.cell? ⟨w.heap.size, 0, none⟩ = some (.int .i64 modes) ∧ W.cell? ⟨w.heap.size, 1, none⟩ = some (.int .u8 acc) ∧ W.cell? ⟨w.heap.size, 2, none⟩ = some (.slice a rs.length c) ∧ W.cell? ⟨w.heap.size + 1, 0, none⟩ = some (.int .i64 r.src) ∧ W.cell? ⟨w.heap.size + 1, 1, none⟩ = some (.int .i64 r.dst) ∧ W.cell? ⟨w.heap.size + 1, 2, none⟩ = some (.string (B r.inp)) ∧ W.cell? ⟨w.heap.size + 1, 3, none⟩ = some (.string (B r.out)) ∧ W.cell? ⟨w.heap.size + 1, 4, none⟩ = some (.int .i64 r.cost) ∧ Below w2.heap.size w2 W) := fun W hb => Lib.hid ⟨(SBa.out.below hb).cells.1, (SBa.out.below hb).cells.2.1, (SBa.out.below hb).cells.2.2, (RBa.out.below hb).cells.1, (RBa.out.below hb).cells.2.1, (RBa.out.below hb).cells.2.2.1, (RBa.out.below hb).cells.2.2.2.1, (RBa.out.below hb).cells.2.2.2.2, hb⟩
  obtain ⟨b1, E1⟩ : ∃ x, modeB modes r.src = x := ⟨_, rfl⟩
  obtain ⟨b2, E2⟩ : ∃ x, modeB modes r.dst = x := ⟨_, rfl⟩
  obtain ⟨b3, E3⟩ : ∃ x, onlyB 1 r.inp = x := ⟨_, rfl⟩
  obtain ⟨b4, E4⟩ : ∃ x, onlyB 7 r.out = x := ⟨_, rfl⟩
  obtain ⟨b5, E5⟩ : ∃ x, decide (r ∈ rs.take i) = x := ⟨_, rfl⟩
  have C1 : ∀ W, (W.cell? ⟨w.heap.size, 0, none⟩ = some (.int .i64 modes) ∧ W.cell? ⟨w.heap.size, 1, none⟩ = some (.int .u8 acc) ∧ W.cell? ⟨w.heap.size, 2, none⟩ = some (.slice a rs.length c) ∧ W.cell? ⟨w.heap.size + 1, 0, none⟩ = some (.int .i64 r.src) ∧ W.cell? ⟨w.heap.size + 1, 1, none⟩ = some (.int .i64 r.dst) ∧ W.cell? ⟨w.heap.size + 1, 2, none⟩ = some (.string (B r.inp)) ∧ W.cell? ⟨w.heap.size + 1, 3, none⟩ = some (.string (B r.out)) ∧ W.cell? ⟨w.heap.size + 1, 4, none⟩ = some (.int .i64 r.cost) ∧ Below w2.heap.size w2 W) → Hid (Calls Tryd.prog 54 #[(.agg #[.int .i64 modes, .int .u8 acc, .slice a rs.length c]), .int .i64 r.src] W fun e w' => e = .returned (.bool b1) ∧ w'.cell? ⟨w.heap.size, 0, none⟩ = some (.int .i64 modes) ∧ w'.cell? ⟨w.heap.size, 1, none⟩ = some (.int .u8 acc) ∧ w'.cell? ⟨w.heap.size, 2, none⟩ = some (.slice a rs.length c) ∧ w'.cell? ⟨w.heap.size + 1, 0, none⟩ = some (.int .i64 r.src) ∧ w'.cell? ⟨w.heap.size + 1, 1, none⟩ = some (.int .i64 r.dst) ∧ w'.cell? ⟨w.heap.size + 1, 2, none⟩ = some (.string (B r.inp)) ∧ w'.cell? ⟨w.heap.size + 1, 3, none⟩ = some (.string (B r.out)) ∧ w'.cell? ⟨w.heap.size + 1, 4, none⟩ = some (.int .i64 r.cost) ∧ Below w2.heap.size w2 w') := fun W h => by
    obtain ⟨-, -, -, -, -, -, -, -, hb⟩ := h
    refine Lib.hid ((isMode_any modes acc r.src a rs.length c W).mono ?_)
    rintro e w' ⟨rfl, hb'⟩
    exact ⟨by rw [← E1], (CJ w' (hb.trans (hb'.mono hb.size))).out⟩
  have C2 : ∀ W, (W.cell? ⟨w.heap.size, 0, none⟩ = some (.int .i64 modes) ∧ W.cell? ⟨w.heap.size, 1, none⟩ = some (.int .u8 acc) ∧ W.cell? ⟨w.heap.size, 2, none⟩ = some (.slice a rs.length c) ∧ W.cell? ⟨w.heap.size + 1, 0, none⟩ = some (.int .i64 r.src) ∧ W.cell? ⟨w.heap.size + 1, 1, none⟩ = some (.int .i64 r.dst) ∧ W.cell? ⟨w.heap.size + 1, 2, none⟩ = some (.string (B r.inp)) ∧ W.cell? ⟨w.heap.size + 1, 3, none⟩ = some (.string (B r.out)) ∧ W.cell? ⟨w.heap.size + 1, 4, none⟩ = some (.int .i64 r.cost) ∧ Below w2.heap.size w2 W) → Hid (Calls Tryd.prog 54 #[(.agg #[.int .i64 modes, .int .u8 acc, .slice a rs.length c]), .int .i64 r.dst] W fun e w' => e = .returned (.bool b2) ∧ w'.cell? ⟨w.heap.size, 0, none⟩ = some (.int .i64 modes) ∧ w'.cell? ⟨w.heap.size, 1, none⟩ = some (.int .u8 acc) ∧ w'.cell? ⟨w.heap.size, 2, none⟩ = some (.slice a rs.length c) ∧ w'.cell? ⟨w.heap.size + 1, 0, none⟩ = some (.int .i64 r.src) ∧ w'.cell? ⟨w.heap.size + 1, 1, none⟩ = some (.int .i64 r.dst) ∧ w'.cell? ⟨w.heap.size + 1, 2, none⟩ = some (.string (B r.inp)) ∧ w'.cell? ⟨w.heap.size + 1, 3, none⟩ = some (.string (B r.out)) ∧ w'.cell? ⟨w.heap.size + 1, 4, none⟩ = some (.int .i64 r.cost) ∧ Below w2.heap.size w2 w') := fun W h => by
    obtain ⟨-, -, -, -, -, -, -, -, hb⟩ := h
    refine Lib.hid ((isMode_any modes acc r.dst a rs.length c W).mono ?_)
    rintro e w' ⟨rfl, hb'⟩
    exact ⟨by rw [← E2], (CJ w' (hb.trans (hb'.mono hb.size))).out⟩
  have C3 : ∀ W, (W.cell? ⟨w.heap.size, 0, none⟩ = some (.int .i64 modes) ∧ W.cell? ⟨w.heap.size, 1, none⟩ = some (.int .u8 acc) ∧ W.cell? ⟨w.heap.size, 2, none⟩ = some (.slice a rs.length c) ∧ W.cell? ⟨w.heap.size + 1, 0, none⟩ = some (.int .i64 r.src) ∧ W.cell? ⟨w.heap.size + 1, 1, none⟩ = some (.int .i64 r.dst) ∧ W.cell? ⟨w.heap.size + 1, 2, none⟩ = some (.string (B r.inp)) ∧ W.cell? ⟨w.heap.size + 1, 3, none⟩ = some (.string (B r.out)) ∧ W.cell? ⟨w.heap.size + 1, 4, none⟩ = some (.int .i64 r.cost) ∧ Below w2.heap.size w2 W) → Hid (Calls Tryd.prog 55 #[.string (B r.inp), .int .i64 1] W fun e w' => e = .returned (.bool b3) ∧ w'.cell? ⟨w.heap.size, 0, none⟩ = some (.int .i64 modes) ∧ w'.cell? ⟨w.heap.size, 1, none⟩ = some (.int .u8 acc) ∧ w'.cell? ⟨w.heap.size, 2, none⟩ = some (.slice a rs.length c) ∧ w'.cell? ⟨w.heap.size + 1, 0, none⟩ = some (.int .i64 r.src) ∧ w'.cell? ⟨w.heap.size + 1, 1, none⟩ = some (.int .i64 r.dst) ∧ w'.cell? ⟨w.heap.size + 1, 2, none⟩ = some (.string (B r.inp)) ∧ w'.cell? ⟨w.heap.size + 1, 3, none⟩ = some (.string (B r.out)) ∧ w'.cell? ⟨w.heap.size + 1, 4, none⟩ = some (.int .i64 r.cost) ∧ Below w2.heap.size w2 w') := fun W h => by
    obtain ⟨-, -, -, -, -, -, -, -, hb⟩ := h
    refine Lib.hid ((only_any (B r.inp) 1 (by simp) W (HT.out.below hb H0.out) (Nat.lt_of_lt_of_le H0.out hb.size) (by simp [B, ByteArray.size, maxLen] at *; omega)).mono ?_)
    rintro e w' ⟨rfl, hb'⟩
    exact ⟨by rw [← E3]; rfl, (CJ w' (hb.trans (hb'.mono hb.size))).out⟩
  have C4 : ∀ W, (W.cell? ⟨w.heap.size, 0, none⟩ = some (.int .i64 modes) ∧ W.cell? ⟨w.heap.size, 1, none⟩ = some (.int .u8 acc) ∧ W.cell? ⟨w.heap.size, 2, none⟩ = some (.slice a rs.length c) ∧ W.cell? ⟨w.heap.size + 1, 0, none⟩ = some (.int .i64 r.src) ∧ W.cell? ⟨w.heap.size + 1, 1, none⟩ = some (.int .i64 r.dst) ∧ W.cell? ⟨w.heap.size + 1, 2, none⟩ = some (.string (B r.inp)) ∧ W.cell? ⟨w.heap.size + 1, 3, none⟩ = some (.string (B r.out)) ∧ W.cell? ⟨w.heap.size + 1, 4, none⟩ = some (.int .i64 r.cost) ∧ Below w2.heap.size w2 W) → Hid (Calls Tryd.prog 55 #[.string (B r.out), .int .i64 7] W fun e w' => e = .returned (.bool b4) ∧ w'.cell? ⟨w.heap.size, 0, none⟩ = some (.int .i64 modes) ∧ w'.cell? ⟨w.heap.size, 1, none⟩ = some (.int .u8 acc) ∧ w'.cell? ⟨w.heap.size, 2, none⟩ = some (.slice a rs.length c) ∧ w'.cell? ⟨w.heap.size + 1, 0, none⟩ = some (.int .i64 r.src) ∧ w'.cell? ⟨w.heap.size + 1, 1, none⟩ = some (.int .i64 r.dst) ∧ w'.cell? ⟨w.heap.size + 1, 2, none⟩ = some (.string (B r.inp)) ∧ w'.cell? ⟨w.heap.size + 1, 3, none⟩ = some (.string (B r.out)) ∧ w'.cell? ⟨w.heap.size + 1, 4, none⟩ = some (.int .i64 r.cost) ∧ Below w2.heap.size w2 w') := fun W h => by
    obtain ⟨-, -, -, -, -, -, -, -, hb⟩ := h
    refine Lib.hid ((only_any (B r.out) 7 (by simp) W (HT.out.below hb H0.out) (Nat.lt_of_lt_of_le H0.out hb.size) (by simp [B, ByteArray.size, maxLen] at *; omega)).mono ?_)
    rintro e w' ⟨rfl, hb'⟩
    exact ⟨by rw [← E4]; rfl, (CJ w' (hb.trans (hb'.mono hb.size))).out⟩
  have C5 : ∀ W, (W.cell? ⟨w.heap.size, 0, none⟩ = some (.int .i64 modes) ∧ W.cell? ⟨w.heap.size, 1, none⟩ = some (.int .u8 acc) ∧ W.cell? ⟨w.heap.size, 2, none⟩ = some (.slice a rs.length c) ∧ W.cell? ⟨w.heap.size + 1, 0, none⟩ = some (.int .i64 r.src) ∧ W.cell? ⟨w.heap.size + 1, 1, none⟩ = some (.int .i64 r.dst) ∧ W.cell? ⟨w.heap.size + 1, 2, none⟩ = some (.string (B r.inp)) ∧ W.cell? ⟨w.heap.size + 1, 3, none⟩ = some (.string (B r.out)) ∧ W.cell? ⟨w.heap.size + 1, 4, none⟩ = some (.int .i64 r.cost) ∧ Below w2.heap.size w2 W) → Hid (Calls Tryd.prog 56 #[.slice a i c, .agg #[.int .i64 r.src, .int .i64 r.dst, .string (B r.inp), .string (B r.out), .int .i64 r.cost]] W fun e w' => e = .returned (.bool b5) ∧ w'.cell? ⟨w.heap.size, 0, none⟩ = some (.int .i64 modes) ∧ w'.cell? ⟨w.heap.size, 1, none⟩ = some (.int .u8 acc) ∧ w'.cell? ⟨w.heap.size, 2, none⟩ = some (.slice a rs.length c) ∧ w'.cell? ⟨w.heap.size + 1, 0, none⟩ = some (.int .i64 r.src) ∧ w'.cell? ⟨w.heap.size + 1, 1, none⟩ = some (.int .i64 r.dst) ∧ w'.cell? ⟨w.heap.size + 1, 2, none⟩ = some (.string (B r.inp)) ∧ w'.cell? ⟨w.heap.size + 1, 3, none⟩ = some (.string (B r.out)) ∧ w'.cell? ⟨w.heap.size + 1, 4, none⟩ = some (.int .i64 r.cost) ∧ Below w2.heap.size w2 w') := fun W h => by
    obtain ⟨-, -, -, -, -, -, -, -, hb⟩ := h
    refine Lib.hid ((Contains_any r (rs.take i) (.slice a i c) W ((HX.out.on hb).take i (Nat.le_of_lt hi)) (by rw [List.length_take]; omega)).mono ?_)
    rintro e w' ⟨rfl, hb'⟩
    exact ⟨by rw [← E5], (CJ w' (hb.trans (hb'.mono hb.size))).out⟩
  have LI : decide (((B r.inp).size : Int) ≤ 4) = decide ((r.inp.length : Int) ≤ 4) := by rw [size_B]
  have LO : decide (((B r.out).size : Int) ≤ 4) = decide ((r.out.length : Int) ≤ 4) := by rw [size_B]
  have EE := Lib.hid (show rightB modes rs i r = (b1 && (b2 && (decide (((B r.inp).size : Int) ≤ 4) && (b3 && (decide (((B r.out).size : Int) ≤ 4) && (b4 && (decide (0 ≤ r.cost) && (decide (r.cost ≤ 1000) && !b5)))))))) by unfold rightB; rw [E1, E2, E3, E4, E5])
  clear LI LO E1 E2 E3 E4 E5 RB0 SB0 hsz HT HX SBa RBa
  obtain ⟨s0, s1, s2, t0, t1, t2, t3, t4, hb2⟩ := (CJ w2 (Below.refl _ _)).out
  clear CJ
  have C1h := fun W h => (C1 W h).out
  have C2h := fun W h => (C2 W h).out
  have C3h := fun W h => (C3 W h).out
  have C4h := fun W h => (C4 W h).out
  have C5h := fun W h => (C5 W h).out
  cases b1
  ·
    refine wp_region_class (C := fun W => W.cell? ⟨w.heap.size, 0, none⟩ = some (.int .i64 modes) ∧ W.cell? ⟨w.heap.size, 1, none⟩ = some (.int .u8 acc) ∧ W.cell? ⟨w.heap.size, 2, none⟩ = some (.slice a rs.length c) ∧ W.cell? ⟨w.heap.size + 1, 0, none⟩ = some (.int .i64 r.src) ∧ W.cell? ⟨w.heap.size + 1, 1, none⟩ = some (.int .i64 r.dst) ∧ W.cell? ⟨w.heap.size + 1, 2, none⟩ = some (.string (B r.inp)) ∧ W.cell? ⟨w.heap.size + 1, 3, none⟩ = some (.string (B r.out)) ∧ W.cell? ⟨w.heap.size + 1, 4, none⟩ = some (.int .i64 r.cost) ∧ Below w2.heap.size w2 W) (by kernel_rfl) (by kernel_rfl) ?_ ?_
    · exact ⟨s0, s1, s2, t0, t1, t2, t3, t4, hb2.drew⟩
    clear s0 s1 s2 t0 t1 t2 t3 t4 hb2
    repeat (first | go_big_quiet_skip | (go_big_quiet_want; first | (go_big_quiet_op; go_big_quiet_on) | (refine quiet_value ?_ (fun W h => ?_) ?_; rotate_left; (· obtain ⟨s0, s1, s2, t0, t1, t2, t3, t4, hb2⟩ := h; go_simp; rfl); go_simp; go_big_quiet_on) | (refine quiet_call _ _ _ (fun W => ?_) C1h ?_; (· go_simp; done); go_simp; go_big_quiet_on)))
    refine wpQuiet_nil ?_
    intro w3 hcj
    obtain ⟨-, -, -, -, -, -, -, -, hbe⟩ := hcj
    clear C1 C2 C3 C4 C5 C1h C2h C3h C4h C5h
    have HE := Lib.hid (HA.out.trans (hbe.mono HA.out.size))
    clear hbe
    go_wp2_with fail
    go_ret
    exact ⟨ret_bool (by rw [EE.out]; simp [*]), HE.out⟩
  ·
    cases b2
    ·
      refine wp_region_class (C := fun W => W.cell? ⟨w.heap.size, 0, none⟩ = some (.int .i64 modes) ∧ W.cell? ⟨w.heap.size, 1, none⟩ = some (.int .u8 acc) ∧ W.cell? ⟨w.heap.size, 2, none⟩ = some (.slice a rs.length c) ∧ W.cell? ⟨w.heap.size + 1, 0, none⟩ = some (.int .i64 r.src) ∧ W.cell? ⟨w.heap.size + 1, 1, none⟩ = some (.int .i64 r.dst) ∧ W.cell? ⟨w.heap.size + 1, 2, none⟩ = some (.string (B r.inp)) ∧ W.cell? ⟨w.heap.size + 1, 3, none⟩ = some (.string (B r.out)) ∧ W.cell? ⟨w.heap.size + 1, 4, none⟩ = some (.int .i64 r.cost) ∧ Below w2.heap.size w2 W) (by kernel_rfl) (by kernel_rfl) ?_ ?_
      · exact ⟨s0, s1, s2, t0, t1, t2, t3, t4, hb2.drew⟩
      clear s0 s1 s2 t0 t1 t2 t3 t4 hb2
      repeat (first | go_big_quiet_skip | (go_big_quiet_want; first | (go_big_quiet_op; go_big_quiet_on) | (refine quiet_value ?_ (fun W h => ?_) ?_; rotate_left; (· obtain ⟨s0, s1, s2, t0, t1, t2, t3, t4, hb2⟩ := h; go_simp; rfl); go_simp; go_big_quiet_on) | (refine quiet_call _ _ _ (fun W => ?_) C1h ?_; (· go_simp; done); go_simp; go_big_quiet_on) | (refine quiet_call _ _ _ (fun W => ?_) C2h ?_; (· go_simp; done); go_simp; go_big_quiet_on)))
      refine wpQuiet_nil ?_
      intro w3 hcj
      obtain ⟨-, -, -, -, -, -, -, -, hbe⟩ := hcj
      clear C1 C2 C3 C4 C5 C1h C2h C3h C4h C5h
      have HE := Lib.hid (HA.out.trans (hbe.mono HA.out.size))
      clear hbe
      go_wp2_with fail
      go_ret
      exact ⟨ret_bool (by rw [EE.out]; simp [*]), HE.out⟩
    ·
      by_cases li : ((B r.inp).size : Int) ≤ 4
      ·
        have lid : decide (((B r.inp).size : Int) ≤ 4) = true := decide_eq_true li
        cases b3
        ·
          refine wp_region_class (C := fun W => W.cell? ⟨w.heap.size, 0, none⟩ = some (.int .i64 modes) ∧ W.cell? ⟨w.heap.size, 1, none⟩ = some (.int .u8 acc) ∧ W.cell? ⟨w.heap.size, 2, none⟩ = some (.slice a rs.length c) ∧ W.cell? ⟨w.heap.size + 1, 0, none⟩ = some (.int .i64 r.src) ∧ W.cell? ⟨w.heap.size + 1, 1, none⟩ = some (.int .i64 r.dst) ∧ W.cell? ⟨w.heap.size + 1, 2, none⟩ = some (.string (B r.inp)) ∧ W.cell? ⟨w.heap.size + 1, 3, none⟩ = some (.string (B r.out)) ∧ W.cell? ⟨w.heap.size + 1, 4, none⟩ = some (.int .i64 r.cost) ∧ Below w2.heap.size w2 W) (by kernel_rfl) (by kernel_rfl) ?_ ?_
          · exact ⟨s0, s1, s2, t0, t1, t2, t3, t4, hb2.drew⟩
          clear s0 s1 s2 t0 t1 t2 t3 t4 hb2
          repeat (first | go_big_quiet_skip | (go_big_quiet_want; first | (go_big_quiet_op; go_big_quiet_on) | (refine quiet_value ?_ (fun W h => ?_) ?_; rotate_left; (· obtain ⟨s0, s1, s2, t0, t1, t2, t3, t4, hb2⟩ := h; go_simp; rfl); go_simp; go_big_quiet_on) | (refine quiet_call _ _ _ (fun W => ?_) C1h ?_; (· go_simp; done); go_simp; go_big_quiet_on) | (refine quiet_call _ _ _ (fun W => ?_) C2h ?_; (· go_simp; done); go_simp; go_big_quiet_on) | (refine quiet_call _ _ _ (fun W => ?_) C3h ?_; (· go_simp; done); go_simp; go_big_quiet_on)))
          refine wpQuiet_nil ?_
          intro w3 hcj
          obtain ⟨-, -, -, -, -, -, -, -, hbe⟩ := hcj
          clear C1 C2 C3 C4 C5 C1h C2h C3h C4h C5h
          have HE := Lib.hid (HA.out.trans (hbe.mono HA.out.size))
          clear hbe
          go_wp2_with fail
          go_ret
          exact ⟨ret_bool (by rw [EE.out]; simp [*]), HE.out⟩
        ·
          by_cases lo : ((B r.out).size : Int) ≤ 4
          ·
            have lod : decide (((B r.out).size : Int) ≤ 4) = true := decide_eq_true lo
            cases b4
            ·
              refine wp_region_class (C := fun W => W.cell? ⟨w.heap.size, 0, none⟩ = some (.int .i64 modes) ∧ W.cell? ⟨w.heap.size, 1, none⟩ = some (.int .u8 acc) ∧ W.cell? ⟨w.heap.size, 2, none⟩ = some (.slice a rs.length c) ∧ W.cell? ⟨w.heap.size + 1, 0, none⟩ = some (.int .i64 r.src) ∧ W.cell? ⟨w.heap.size + 1, 1, none⟩ = some (.int .i64 r.dst) ∧ W.cell? ⟨w.heap.size + 1, 2, none⟩ = some (.string (B r.inp)) ∧ W.cell? ⟨w.heap.size + 1, 3, none⟩ = some (.string (B r.out)) ∧ W.cell? ⟨w.heap.size + 1, 4, none⟩ = some (.int .i64 r.cost) ∧ Below w2.heap.size w2 W) (by kernel_rfl) (by kernel_rfl) ?_ ?_
              · exact ⟨s0, s1, s2, t0, t1, t2, t3, t4, hb2.drew⟩
              clear s0 s1 s2 t0 t1 t2 t3 t4 hb2
              repeat (first | go_big_quiet_skip | (go_big_quiet_want; first | (go_big_quiet_op; go_big_quiet_on) | (refine quiet_value ?_ (fun W h => ?_) ?_; rotate_left; (· obtain ⟨s0, s1, s2, t0, t1, t2, t3, t4, hb2⟩ := h; go_simp; rfl); go_simp; go_big_quiet_on) | (refine quiet_call _ _ _ (fun W => ?_) C1h ?_; (· go_simp; done); go_simp; go_big_quiet_on) | (refine quiet_call _ _ _ (fun W => ?_) C2h ?_; (· go_simp; done); go_simp; go_big_quiet_on) | (refine quiet_call _ _ _ (fun W => ?_) C3h ?_; (· go_simp; done); go_simp; go_big_quiet_on) | (refine quiet_call _ _ _ (fun W => ?_) C4h ?_; (· go_simp; done); go_simp; go_big_quiet_on)))
              refine wpQuiet_nil ?_
              intro w3 hcj
              obtain ⟨-, -, -, -, -, -, -, -, hbe⟩ := hcj
              clear C1 C2 C3 C4 C5 C1h C2h C3h C4h C5h
              have HE := Lib.hid (HA.out.trans (hbe.mono HA.out.size))
              clear hbe
              go_wp2_with fail
              go_ret
              exact ⟨ret_bool (by rw [EE.out]; simp [*]), HE.out⟩
            ·
              by_cases c0 : 0 ≤ r.cost
              ·
                have c0d : decide (0 ≤ r.cost) = true := decide_eq_true c0
                by_cases c1 : r.cost ≤ 1000
                ·
                  have c1d : decide (r.cost ≤ 1000) = true := decide_eq_true c1
                  cases b5
                  ·
                    refine wp_region_class (C := fun W => W.cell? ⟨w.heap.size, 0, none⟩ = some (.int .i64 modes) ∧ W.cell? ⟨w.heap.size, 1, none⟩ = some (.int .u8 acc) ∧ W.cell? ⟨w.heap.size, 2, none⟩ = some (.slice a rs.length c) ∧ W.cell? ⟨w.heap.size + 1, 0, none⟩ = some (.int .i64 r.src) ∧ W.cell? ⟨w.heap.size + 1, 1, none⟩ = some (.int .i64 r.dst) ∧ W.cell? ⟨w.heap.size + 1, 2, none⟩ = some (.string (B r.inp)) ∧ W.cell? ⟨w.heap.size + 1, 3, none⟩ = some (.string (B r.out)) ∧ W.cell? ⟨w.heap.size + 1, 4, none⟩ = some (.int .i64 r.cost) ∧ Below w2.heap.size w2 W) (by kernel_rfl) (by kernel_rfl) ?_ ?_
                    · exact ⟨s0, s1, s2, t0, t1, t2, t3, t4, hb2.drew⟩
                    clear s0 s1 s2 t0 t1 t2 t3 t4 hb2
                    repeat (first | go_big_quiet_skip | (go_big_quiet_want; first | (go_big_quiet_op; go_big_quiet_on) | (refine quiet_value ?_ (fun W h => ?_) ?_; rotate_left; (· obtain ⟨s0, s1, s2, t0, t1, t2, t3, t4, hb2⟩ := h; go_simp; rfl); go_simp; go_big_quiet_on) | (refine quiet_call _ _ _ (fun W => ?_) C1h ?_; (· go_simp; done); go_simp; go_big_quiet_on) | (refine quiet_call _ _ _ (fun W => ?_) C2h ?_; (· go_simp; done); go_simp; go_big_quiet_on) | (refine quiet_call _ _ _ (fun W => ?_) C3h ?_; (· go_simp; done); go_simp; go_big_quiet_on) | (refine quiet_call _ _ _ (fun W => ?_) C4h ?_; (· go_simp; done); go_simp; go_big_quiet_on) | (refine quiet_call _ _ _ (fun W => ?_) C5h ?_; (· go_simp; done); go_simp; go_big_quiet_on)))
                    refine wpQuiet_nil ?_
                    intro w3 hcj
                    obtain ⟨-, -, -, -, -, -, -, -, hbe⟩ := hcj
                    clear C1 C2 C3 C4 C5 C1h C2h C3h C4h C5h
                    have HE := Lib.hid (HA.out.trans (hbe.mono HA.out.size))
                    clear hbe
                    go_wp2_with fail
                    go_ret
                    exact ⟨ret_bool (by rw [EE.out]; simp [*]), HE.out⟩
                  ·
                    refine wp_region_class (C := fun W => W.cell? ⟨w.heap.size, 0, none⟩ = some (.int .i64 modes) ∧ W.cell? ⟨w.heap.size, 1, none⟩ = some (.int .u8 acc) ∧ W.cell? ⟨w.heap.size, 2, none⟩ = some (.slice a rs.length c) ∧ W.cell? ⟨w.heap.size + 1, 0, none⟩ = some (.int .i64 r.src) ∧ W.cell? ⟨w.heap.size + 1, 1, none⟩ = some (.int .i64 r.dst) ∧ W.cell? ⟨w.heap.size + 1, 2, none⟩ = some (.string (B r.inp)) ∧ W.cell? ⟨w.heap.size + 1, 3, none⟩ = some (.string (B r.out)) ∧ W.cell? ⟨w.heap.size + 1, 4, none⟩ = some (.int .i64 r.cost) ∧ Below w2.heap.size w2 W) (by kernel_rfl) (by kernel_rfl) ?_ ?_
                    · exact ⟨s0, s1, s2, t0, t1, t2, t3, t4, hb2.drew⟩
                    clear s0 s1 s2 t0 t1 t2 t3 t4 hb2
                    repeat (first | go_big_quiet_skip | (go_big_quiet_want; first | (go_big_quiet_op; go_big_quiet_on) | (refine quiet_value ?_ (fun W h => ?_) ?_; rotate_left; (· obtain ⟨s0, s1, s2, t0, t1, t2, t3, t4, hb2⟩ := h; go_simp; rfl); go_simp; go_big_quiet_on) | (refine quiet_call _ _ _ (fun W => ?_) C1h ?_; (· go_simp; done); go_simp; go_big_quiet_on) | (refine quiet_call _ _ _ (fun W => ?_) C2h ?_; (· go_simp; done); go_simp; go_big_quiet_on) | (refine quiet_call _ _ _ (fun W => ?_) C3h ?_; (· go_simp; done); go_simp; go_big_quiet_on) | (refine quiet_call _ _ _ (fun W => ?_) C4h ?_; (· go_simp; done); go_simp; go_big_quiet_on) | (refine quiet_call _ _ _ (fun W => ?_) C5h ?_; (· go_simp; done); go_simp; go_big_quiet_on)))
                    refine wpQuiet_nil ?_
                    intro w3 hcj
                    obtain ⟨-, -, -, -, -, -, -, -, hbe⟩ := hcj
                    clear C1 C2 C3 C4 C5 C1h C2h C3h C4h C5h
                    have HE := Lib.hid (HA.out.trans (hbe.mono HA.out.size))
                    clear hbe
                    go_wp2_with fail
                    go_ret
                    exact ⟨ret_bool (by rw [EE.out]; simp [*]), HE.out⟩
                ·
                  have c1d : decide (r.cost ≤ 1000) = false := decide_eq_false c1
                  refine wp_region_class (C := fun W => W.cell? ⟨w.heap.size, 0, none⟩ = some (.int .i64 modes) ∧ W.cell? ⟨w.heap.size, 1, none⟩ = some (.int .u8 acc) ∧ W.cell? ⟨w.heap.size, 2, none⟩ = some (.slice a rs.length c) ∧ W.cell? ⟨w.heap.size + 1, 0, none⟩ = some (.int .i64 r.src) ∧ W.cell? ⟨w.heap.size + 1, 1, none⟩ = some (.int .i64 r.dst) ∧ W.cell? ⟨w.heap.size + 1, 2, none⟩ = some (.string (B r.inp)) ∧ W.cell? ⟨w.heap.size + 1, 3, none⟩ = some (.string (B r.out)) ∧ W.cell? ⟨w.heap.size + 1, 4, none⟩ = some (.int .i64 r.cost) ∧ Below w2.heap.size w2 W) (by kernel_rfl) (by kernel_rfl) ?_ ?_
                  · exact ⟨s0, s1, s2, t0, t1, t2, t3, t4, hb2.drew⟩
                  clear s0 s1 s2 t0 t1 t2 t3 t4 hb2
                  repeat (first | go_big_quiet_skip | (go_big_quiet_want; first | (go_big_quiet_op; go_big_quiet_on) | (refine quiet_value ?_ (fun W h => ?_) ?_; rotate_left; (· obtain ⟨s0, s1, s2, t0, t1, t2, t3, t4, hb2⟩ := h; go_simp; rfl); go_simp; go_big_quiet_on) | (refine quiet_call _ _ _ (fun W => ?_) C1h ?_; (· go_simp; done); go_simp; go_big_quiet_on) | (refine quiet_call _ _ _ (fun W => ?_) C2h ?_; (· go_simp; done); go_simp; go_big_quiet_on) | (refine quiet_call _ _ _ (fun W => ?_) C3h ?_; (· go_simp; done); go_simp; go_big_quiet_on) | (refine quiet_call _ _ _ (fun W => ?_) C4h ?_; (· go_simp; done); go_simp; go_big_quiet_on)))
                  refine wpQuiet_nil ?_
                  intro w3 hcj
                  obtain ⟨-, -, -, -, -, -, -, -, hbe⟩ := hcj
                  clear C1 C2 C3 C4 C5 C1h C2h C3h C4h C5h
                  have HE := Lib.hid (HA.out.trans (hbe.mono HA.out.size))
                  clear hbe
                  go_wp2_with fail
                  go_ret
                  exact ⟨ret_bool (by rw [EE.out]; simp [*]), HE.out⟩
              ·
                have c0d : decide (0 ≤ r.cost) = false := decide_eq_false c0
                refine wp_region_class (C := fun W => W.cell? ⟨w.heap.size, 0, none⟩ = some (.int .i64 modes) ∧ W.cell? ⟨w.heap.size, 1, none⟩ = some (.int .u8 acc) ∧ W.cell? ⟨w.heap.size, 2, none⟩ = some (.slice a rs.length c) ∧ W.cell? ⟨w.heap.size + 1, 0, none⟩ = some (.int .i64 r.src) ∧ W.cell? ⟨w.heap.size + 1, 1, none⟩ = some (.int .i64 r.dst) ∧ W.cell? ⟨w.heap.size + 1, 2, none⟩ = some (.string (B r.inp)) ∧ W.cell? ⟨w.heap.size + 1, 3, none⟩ = some (.string (B r.out)) ∧ W.cell? ⟨w.heap.size + 1, 4, none⟩ = some (.int .i64 r.cost) ∧ Below w2.heap.size w2 W) (by kernel_rfl) (by kernel_rfl) ?_ ?_
                · exact ⟨s0, s1, s2, t0, t1, t2, t3, t4, hb2.drew⟩
                clear s0 s1 s2 t0 t1 t2 t3 t4 hb2
                repeat (first | go_big_quiet_skip | (go_big_quiet_want; first | (go_big_quiet_op; go_big_quiet_on) | (refine quiet_value ?_ (fun W h => ?_) ?_; rotate_left; (· obtain ⟨s0, s1, s2, t0, t1, t2, t3, t4, hb2⟩ := h; go_simp; rfl); go_simp; go_big_quiet_on) | (refine quiet_call _ _ _ (fun W => ?_) C1h ?_; (· go_simp; done); go_simp; go_big_quiet_on) | (refine quiet_call _ _ _ (fun W => ?_) C2h ?_; (· go_simp; done); go_simp; go_big_quiet_on) | (refine quiet_call _ _ _ (fun W => ?_) C3h ?_; (· go_simp; done); go_simp; go_big_quiet_on) | (refine quiet_call _ _ _ (fun W => ?_) C4h ?_; (· go_simp; done); go_simp; go_big_quiet_on)))
                refine wpQuiet_nil ?_
                intro w3 hcj
                obtain ⟨-, -, -, -, -, -, -, -, hbe⟩ := hcj
                clear C1 C2 C3 C4 C5 C1h C2h C3h C4h C5h
                have HE := Lib.hid (HA.out.trans (hbe.mono HA.out.size))
                clear hbe
                go_wp2_with fail
                go_ret
                exact ⟨ret_bool (by rw [EE.out]; simp [*]), HE.out⟩
          ·
            have lod : decide (((B r.out).size : Int) ≤ 4) = false := decide_eq_false lo
            refine wp_region_class (C := fun W => W.cell? ⟨w.heap.size, 0, none⟩ = some (.int .i64 modes) ∧ W.cell? ⟨w.heap.size, 1, none⟩ = some (.int .u8 acc) ∧ W.cell? ⟨w.heap.size, 2, none⟩ = some (.slice a rs.length c) ∧ W.cell? ⟨w.heap.size + 1, 0, none⟩ = some (.int .i64 r.src) ∧ W.cell? ⟨w.heap.size + 1, 1, none⟩ = some (.int .i64 r.dst) ∧ W.cell? ⟨w.heap.size + 1, 2, none⟩ = some (.string (B r.inp)) ∧ W.cell? ⟨w.heap.size + 1, 3, none⟩ = some (.string (B r.out)) ∧ W.cell? ⟨w.heap.size + 1, 4, none⟩ = some (.int .i64 r.cost) ∧ Below w2.heap.size w2 W) (by kernel_rfl) (by kernel_rfl) ?_ ?_
            · exact ⟨s0, s1, s2, t0, t1, t2, t3, t4, hb2.drew⟩
            clear s0 s1 s2 t0 t1 t2 t3 t4 hb2
            repeat (first | go_big_quiet_skip | (go_big_quiet_want; first | (go_big_quiet_op; go_big_quiet_on) | (refine quiet_value ?_ (fun W h => ?_) ?_; rotate_left; (· obtain ⟨s0, s1, s2, t0, t1, t2, t3, t4, hb2⟩ := h; go_simp; rfl); go_simp; go_big_quiet_on) | (refine quiet_call _ _ _ (fun W => ?_) C1h ?_; (· go_simp; done); go_simp; go_big_quiet_on) | (refine quiet_call _ _ _ (fun W => ?_) C2h ?_; (· go_simp; done); go_simp; go_big_quiet_on) | (refine quiet_call _ _ _ (fun W => ?_) C3h ?_; (· go_simp; done); go_simp; go_big_quiet_on)))
            refine wpQuiet_nil ?_
            intro w3 hcj
            obtain ⟨-, -, -, -, -, -, -, -, hbe⟩ := hcj
            clear C1 C2 C3 C4 C5 C1h C2h C3h C4h C5h
            have HE := Lib.hid (HA.out.trans (hbe.mono HA.out.size))
            clear hbe
            go_wp2_with fail
            go_ret
            exact ⟨ret_bool (by rw [EE.out]; simp [*]), HE.out⟩
      ·
        have lid : decide (((B r.inp).size : Int) ≤ 4) = false := decide_eq_false li
        refine wp_region_class (C := fun W => W.cell? ⟨w.heap.size, 0, none⟩ = some (.int .i64 modes) ∧ W.cell? ⟨w.heap.size, 1, none⟩ = some (.int .u8 acc) ∧ W.cell? ⟨w.heap.size, 2, none⟩ = some (.slice a rs.length c) ∧ W.cell? ⟨w.heap.size + 1, 0, none⟩ = some (.int .i64 r.src) ∧ W.cell? ⟨w.heap.size + 1, 1, none⟩ = some (.int .i64 r.dst) ∧ W.cell? ⟨w.heap.size + 1, 2, none⟩ = some (.string (B r.inp)) ∧ W.cell? ⟨w.heap.size + 1, 3, none⟩ = some (.string (B r.out)) ∧ W.cell? ⟨w.heap.size + 1, 4, none⟩ = some (.int .i64 r.cost) ∧ Below w2.heap.size w2 W) (by kernel_rfl) (by kernel_rfl) ?_ ?_
        · exact ⟨s0, s1, s2, t0, t1, t2, t3, t4, hb2.drew⟩
        clear s0 s1 s2 t0 t1 t2 t3 t4 hb2
        repeat (first | go_big_quiet_skip | (go_big_quiet_want; first | (go_big_quiet_op; go_big_quiet_on) | (refine quiet_value ?_ (fun W h => ?_) ?_; rotate_left; (· obtain ⟨s0, s1, s2, t0, t1, t2, t3, t4, hb2⟩ := h; go_simp; rfl); go_simp; go_big_quiet_on) | (refine quiet_call _ _ _ (fun W => ?_) C1h ?_; (· go_simp; done); go_simp; go_big_quiet_on) | (refine quiet_call _ _ _ (fun W => ?_) C2h ?_; (· go_simp; done); go_simp; go_big_quiet_on)))
        refine wpQuiet_nil ?_
        intro w3 hcj
        obtain ⟨-, -, -, -, -, -, -, -, hbe⟩ := hcj
        clear C1 C2 C3 C4 C5 C1h C2h C3h C4h C5h
        have HE := Lib.hid (HA.out.trans (hbe.mono HA.out.size))
        clear hbe
        go_wp2_with fail
        go_ret
        exact ⟨ret_bool (by rw [EE.out]; simp [*]), HE.out⟩
end Go.Proofs.YtadaijepalhohabDoor
