/-
  flaw.dead: the rules that no whole route has, in their order.
-/
import Derived.Test.YtadaijepalhohabDoorFE
import Derived.Test.YtadaijepalhohabDoorFG
import Derived.Deep.Onto
namespace Go.Proofs.YtadaijepalhohabDoor
open Go.RowKit
open Pl

theorem infoInt : (Tryd.prog.info? 3).map (fun i => (i.zero, i.size, i.bytes)) = some (some (.int .i64 0), 1, 8) := by kernel_rfl
theorem infoInt_parts : ∃ i, Tryd.prog.info? 3 = some i ∧ i.zero = some (.int .i64 0) ∧ i.size = 1 ∧ i.bytes = 8 := info_parts infoInt
def intC (xs : List Int) : List Value := xs.map (Value.int .i64)
theorem intC_snoc (xs : List Int) (x : Int) : intC (xs ++ [x]) = intC xs ++ [.int .i64 x] := by simp [intC]
/-- The slice is these numbers, in memory of its own. -/
def NumsOwn (W : World) (base : Nat) (v : Value) (xs : List Int) : Prop := W.ownsRow base 3 1 v xs.length (intC xs)
theorem NumsOwn.nil (W : World) (b : Nat) : NumsOwn W b (.slice none 0 0) [] := ⟨rfl, Or.inl ⟨rfl, rfl⟩⟩
theorem NumsOwn.shape {W : World} {b : Nat} {v : Value} {xs : List Int} (h : NumsOwn W b v xs) : ∃ a c, v = .slice a xs.length c := by
  rcases h.2 with ⟨rfl, h0⟩ | ⟨g, cap, cur, rfl, _⟩
  · exact ⟨none, 0, by rw [h0]⟩
  · exact ⟨_, _, rfl⟩
theorem NumsOwn.blk {W : World} {b : Nat} {v : Value} {xs : List Int} (h : NumsOwn W b v xs) : ∀ k, v.ownBlock = some k → b ≤ k := by
  intro k hk
  rcases h.2 with ⟨rfl, _⟩ | ⟨g, cap, cur, rfl, hg, _⟩
  · cases hk
  · cases hk; exact hg
theorem NumsOwn.below {W W' : World} {b : Nat} {v : Value} {xs : List Int} (h : NumsOwn W b v xs) (hb : Below W.heap.size W W') : NumsOwn W' b v xs := by
  refine ⟨h.1, ?_⟩
  rcases h.2 with h0 | ⟨g, cap, cur, hv, hg, hh, h1, h2, h3, h4⟩
  · exact Or.inl h0
  · exact Or.inr ⟨g, cap, cur, hv, hg, by rw [hb.block g (lt_of_heap hh)]; exact hh, h1, h2, h3, h4⟩
theorem NumsOwn.at {W : World} {b : Nat} {v : Value} {xs : List Int} (h : NumsOwn W b v xs) : NumsAt W W.heap.size v xs := by
  rcases h.2 with ⟨rfl, h0⟩ | ⟨g, cap, cur, rfl, hb, hg, hn, _, hc, ht⟩
  · exact ⟨none, 0, by rw [h0], fun hp => by omega⟩
  · refine ⟨_, _, rfl, fun _ => ⟨g, 0, rfl, lt_of_heap hg, fun i hi => ?_⟩⟩
    have e : (intC xs)[i]? = some (.int .i64 xs[i]) := by simp [intC, List.getElem?_map, List.getElem?_eq_getElem hi]
    rw [← ht, Nat.mul_one, List.getElem?_take, if_pos hi] at e
    simp only [World.cell?, hg, Nat.zero_add]
    simpa using e
/-- The places, among the first n, of the rules that p holds of. -/
def pickN (p : Rl → Bool) (rs : List Rl) (n : Nat) : List Int := (rs.take n).zipIdx.filterMap fun x => if p x.1 then some (x.2 : Int) else none
theorem pickN_succ (p : Rl → Bool) (rs : List Rl) (n : Nat) (h : n < rs.length) : pickN p rs (n + 1) = pickN p rs n ++ (if p rs[n] then [(n : Int)] else []) := by
  unfold pickN
  rw [List.take_succ_eq_append_getElem h, List.zipIdx_append, List.filterMap_append]
  have hl : (rs.take n).length = n := by rw [List.length_take]; omega
  simp only [List.zipIdx_cons, List.zipIdx_nil, hl, Nat.zero_add]
  cases hp : p rs[n] <;> simp [hp]
theorem pickN_len (p : Rl → Bool) (rs : List Rl) (n : Nat) : (pickN p rs n).length ≤ n := by
  unfold pickN
  refine Nat.le_trans (List.length_filterMap_le _ _) ?_
  rw [List.length_zipIdx, List.length_take]
  omega
/-- Dead, by the two sets. -/
def deadK (r l : Nat) (x : Rl) : Bool := !r.testBit x.src.toNat || !l.testBit x.dst.toNat

set_option maxHeartbeats 2000000 in
set_option maxRecDepth 100000 in
theorem dead_any (m acc r l : Nat) (a : Option Addr) (c : Nat) (rs : List Rl) (w : World) (hr : r < 256) (hlv : l < 256) (hx : RlsAt w w.heap.size (.slice a rs.length c) rs) (hl : rs.length ≤ 100000) (h8 : ∀ x ∈ rs, In8 x) :
    Calls Tryd.prog 20 #[.agg #[.int .i64 (m : Nat), .int .u8 (acc : Nat), .slice a rs.length c], .agg #[.int .u8 (r : Nat), .int .u8 (l : Nat)]] w fun e w' => ∃ v, e = .returned v ∧ NumsOwn w' w.heap.size v (pickN (deadK r l) rs rs.length) ∧ Below w.heap.size w w' := by
  obtain ⟨i0, hi0, hz0, hz1, hz2⟩ := infoInt_parts
  have b1 := (Below.refl w.heap.size w).alloc (Nat.le_refl _) (.cells #[.int .i64 (m : Nat), .int .u8 (acc : Nat), .slice a rs.length c] 28)
  have b2 := b1.alloc b1.size (.cells #[.int .u8 (r : Nat), .int .u8 (l : Nat)] 51)
  have s1 := (SchBlock.new w (.int .i64 (m : Nat)) (.int .u8 (acc : Nat)) (.slice a rs.length c)).below ((Below.refl _ _).alloc (Nat.le_refl _) (.cells #[.int .u8 (r : Nat), .int .u8 (l : Nat)] 51))
  have k1 := KBlock.new (w.alloc (.cells #[.int .i64 (m : Nat), .int .u8 (acc : Nat), .slice a rs.length c] 28)) r l
  rw [World.size_alloc] at k1
  have HX := Lib.hid hx
  have H8 := Lib.hid h8
  obtain ⟨s0, sa, s2⟩ := s1.cells
  have K1 := Lib.hid k1
  have B2 := Lib.hid b2
  clear hx h8 s1 k1 b1 b2
  go_enter Tryd.func20, Tryd.ntmps20
  go_upto_region 1 with fail
  generalize (w.alloc _).alloc _ = x1 at *
  go_wp2_with fail
  clear s0 sa s2
  go_loopw [5, 11] (fun v iv wr => ∃ i : Nat, iv = .int .i64 (i : Nat) ∧ i ≤ rs.length ∧ NumsOwn wr (w.heap.size + 2) v (pickN (deadK r l) rs i) ∧ KBlock wr (w.heap.size + 1) r l ∧ Below w.heap.size w wr) (fun _ iv _ => rs.length - (intOf iv).toNat)
  case atStart => exact ⟨0, rfl, Nat.zero_le _, NumsOwn.nil _ _, K1.out, B2.out⟩
  case round =>
    obtain ⟨i, rfl, hi, hown, hkb, hb⟩ := hrel
    obtain ⟨va, vc, rfl⟩ := hown.shape
    have HO := Lib.hid hown
    have KB := Lib.hid hkb
    have HB := Lib.hid hb
    have hsz : w.heap.size + 2 ≤ wr.heap.size := by have := lt_of_heap hkb; omega
    clear hown hkb hb K1 B2
    have i0' : (0 : Int) ≤ (i : Int) := by omega
    by_cases h1 : (i : Int) < (rs.length : Int)
    · have hil : i < rs.length := by omega
      obtain ⟨x, hxe⟩ : ∃ x, x = rs[i] := ⟨_, rfl⟩
      have hx8 : In8 x := by rw [hxe]; exact H8.out _ (List.getElem_mem hil)
      obtain ⟨a', c', hv, hP⟩ := HX.out.on HB.out
      obtain ⟨rfl, -⟩ : a = a' ∧ c = c' := by simpa using hv
      obtain ⟨b, off, ha, hlt, hc⟩ := hP (by omega)
      subst ha
      obtain ⟨p0, p1, p2, p3, p4⟩ := hc i hil
      rw [← hxe] at p0 p1 p2 p3 p4
      have HN := Lib.hid (pickN_succ (deadK r l) rs i hil)
      rw [← hxe] at HN
      have hpl := pickN_len (deadK r l) rs i
      have CD := fun W => Lib.hid (kdead_any r l x hr hlv hx8.1 hx8.2 W)
      have NB : RlBlock (wr.alloc (.cells #[.int .i64 0, .int .i64 0, .string ⟨#[]⟩, .string ⟨#[]⟩, .int .i64 0] 31)) wr.heap.size ⟨0, 0, [], [], 0⟩ := heap_alloc_new wr _
      have AL := Lib.hid ((Below.refl wr.heap.size wr).alloc (Nat.le_refl _) (.cells #[.int .i64 0, .int .i64 0, .string ⟨#[]⟩, .string ⟨#[]⟩, .int .i64 0] 31))
      clear hP hc hv hxe hx8
      go_upto_region 5 with (first | (refine wpList_store_rl rfl _ _ rfl _ _ NB rfl x rfl ?_; intro W7 RB hg' hs'; clear NB))
      have hbb := AL.out.grown hg' AL.out.size (by simp)
      have HO7 := Lib.hid (HO.out.below hbb)
      have KB7 := Lib.hid (KB.out.below hbb)
      have HB7 := Lib.hid (HB.out.trans (hbb.mono HB.out.size))
      have RB7 := Lib.hid RB
      have hsz7 : w.heap.size + 2 ≤ W7.heap.size := Nat.le_trans hsz hbb.size
      clear hbb hg' hs' AL RB p0 p1 p2 p3 p4 HO KB HB
      obtain ⟨k0, k1⟩ := KB7.out.cells
      obtain ⟨q0, q1, q2, q3, q4⟩ := RB7.out.cells
      go_wp2_with fail
      refine ((CD W7).out).mono ?_
      rintro e W8 ⟨rfl, hb8⟩
      have HO8 := Lib.hid (HO7.out.below hb8)
      have KB8 := Lib.hid (KB7.out.below hb8)
      have HB8 := Lib.hid (HB7.out.trans (hb8.mono HB7.out.size))
      have hsz8 : w.heap.size + 2 ≤ W8.heap.size := Nat.le_trans hsz7 hb8.size
      clear hb8 HO7 KB7 HB7 RB7 k0 k1 q0 q1 q2 q3 q4 CD
      cases hd : (!r.testBit x.src.toNat || !l.testBit x.dst.toNat) with
      | false =>
        have HE := Lib.hid (show deadK r l x = false from hd)
        clear hd
        go_wp2_with fail
        go_roundw
        case rel => exact ⟨i + 1, by go_num, by omega, by rw [HN.out, HE.out]; simpa using HO8.out, KB8.out, HB8.out⟩
        case measure => simp [intOf]; omega
      | true =>
        have HE := Lib.hid (show deadK r l x = true from hd)
        clear hd
        have hmx : (pickN (deadK r l) rs i).length + 1 ≤ maxLen := by unfold maxLen; omega
        have hby : ((pickN (deadK r l) rs i).length + 1) * 8 ≤ 140737488355328 := by omega
        have hba : w.heap.size + 2 ≤ (W8.alloc (.cells #[.int .i64 (i : Int)] 3)).heap.size := by simp; omega
        have hbl := Lib.hid (HB8.out.alloc HB8.out.size (.cells #[.int .i64 (i : Int)] 3))
        have hob := Lib.hid HO8.out.blk
        go_wp2_with (first
          | (at_builtin; refine wpList_append_own _ rfl _ _ 35 rfl (w.heap.size + 2) 3 i0 (.int .i64 0) 1 8 Tryd.underlying35 hi0 hz0 hz1 hz2 rfl (by decide) _ _ _ rfl (World.ownsRow.alloc HO8.out _) ⟨W8.heap.size, 0, none⟩ 1 1 [.int .i64 (i : Int)] rfl rfl (cell_one_new _ _ _) (ints_oneCell .i64 [(i : Int)]) hmx hby hba ?_; intro v2 w2 hown2 hgrow2 hnil2)
          | fail)
        have KB9 := Lib.hid (KB8.out.below ((Below.refl _ _).alloc (Nat.le_refl _) (.cells #[.int .i64 (i : Int)] 3)))
        have KBE := Lib.hid (show KBlock w2 (w.heap.size + 1) r l by
          have h := KB9.out
          have hlt := lt_of_heap h
          unfold KBlock at h ⊢
          rw [hgrow2.block _ hlt (fun e => by have := hob.out _ e.symm; omega)]; exact h)
        have HBE := Lib.hid (hbl.out.grown hgrow2 (by omega) (fun k hk => by have := hob.out k hk; omega))
        have HOE := Lib.hid (show NumsOwn w2 (w.heap.size + 2) v2 (pickN (deadK r l) rs i ++ [(i : Int)]) by
          unfold NumsOwn
          rw [intC_snoc, List.length_append, List.length_singleton]; exact hown2)
        clear hown2 hgrow2 hnil2 KB8 KB9 HO8 HB8 hbl hob
        go_roundw
        case rel => exact ⟨i + 1, by go_num, by omega, by rw [HN.out, HE.out]; exact HOE.out, KBE.out, HBE.out⟩
        case measure => simp [intOf]; omega
    · have hie : i = rs.length := by omega
      have HOE := Lib.hid (show NumsOwn wr w.heap.size (.slice va (pickN (deadK r l) rs i).length vc) (pickN (deadK r l) rs rs.length) by
        have := World.ownsRow.mono HO.out (base' := w.heap.size) (by omega)
        rw [← hie]; exact this)
      clear hie
      go_wp2_with fail
      go_ret
      exact ⟨_, rfl, HOE.out, HB.out⟩
end Go.Proofs.YtadaijepalhohabDoor
