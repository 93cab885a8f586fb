/-
  Further rules: what they do to a scheme, plain. Whether a scheme has a rule that takes nothing. A clone of a list of rules, as a run; and what the operations of `Scheme{Modes: .., Rules: append([]Rule{}, s.Rules...)}` have. FlawAdds' walk. A slice of arrays of three bytes as an argument; FlawAdds for any arguments.
-/
import Derived.Test.YtadaijepalhohabDoorGJ
import Derived.Test.YtadaijepalhohabDoorGT
import Derived.Test.YtadaijepalhohabDoorRO
import Derived.Test.YtadaijepalhohabDoorFH
import Derived.Test.YtadaijepalhohabDoorTK
import Derived.Test.YtadaijepalhohabDoorTH
import Derived.Test.YtadaijepalhohabDoorTJ
import Derived.ArgAppend
import Derived.Test.YtadaijepalhohabDoorKC
import Derived.Test.YtadaijepalhohabDoorGO
import Derived.Test.YtadaijepalhohabDoorGK
import Derived.Test.YtadaijepalhohabDoorGZ

namespace Go.Proofs.YtadaijepalhohabDoor
open Go.RowKit
open Pl

section
variable {m acc : Nat} {rs ys : List Rl}
theorem edg_more (e : Nat × Nat) (he : e ∈ rs.map edg) : e ∈ (rs ++ ys).map edg := by
  obtain ⟨x, hx, rfl⟩ := List.mem_map.1 he
  exact List.mem_map.2 ⟨x, List.mem_append_left _ hx, rfl⟩
theorem live_more (hv : validB m acc rs = true) (hv' : validB m acc (rs ++ ys) = true) {i : Nat} (h : (lMs m acc rs).testBit i = true) : (lMs m acc (rs ++ ys)).testBit i = true := by
  obtain ⟨ha, ha0⟩ := valid_acc hv
  obtain ⟨a, h1, h2⟩ := (live_iff (valid_in hv).2.1 ha ha0 i).1 h
  exact (live_iff (valid_in hv').2.1 ha ha0 i).2 ⟨a, h1, path_mem edg_more h2⟩
theorem reach_more (hv : validB m acc rs = true) (hv' : validB m acc (rs ++ ys) = true) {i : Nat} (h : (rMs m rs).testBit i = true) : (rMs m (rs ++ ys)).testBit i = true :=
  (reached_iff (valid_in hv').2.1 (valid_in hv').1.1 i).2 (path_mem edg_more ((reached_iff (valid_in hv).2.1 (valid_in hv).1.1 i).1 h))
/-- A rule that takes nothing and leads from a live, reached mode to itself. -/
theorem loop_endless {y : Rl} {i : Nat} (hv : validB m acc rs = true) (hv' : validB m acc (rs ++ [y]) = true) (hi : i < m) (h1 : y.src = (i : Int)) (h2 : y.dst = (i : Int)) (h3 : y.inp = [])
    (hl : (lMs m acc rs).testBit i = true) (hr : (rMs m rs).testBit i = true) : (endlessC m acc (rs ++ [y])).length = 1 := by
  have hk : rs.length < (rs ++ [y]).length := by simp
  have hg : (rs ++ [y])[rs.length]'hk = y := by simp
  have he : edgeOf noIn (rs ++ [y]) rs.length = some (i, i) := by
    rw [edgeOf_at hk, hg, if_pos (show noIn y = true by unfold noIn; rw [h3, ByteArray.toList_eq, toList_B]; rfl), h1, h2]
    simp
  obtain ⟨e1, e2⟩ := fC_len (p := noIn) (rs := rs ++ [y]) (s := i) (X := fun t => (2 ^ i).testBit t = true) (l := [rs.length]) (t := i) (by simp) ((pow_bit i i).2 rfl) (.snoc (l := []) .nil he)
  have hu : (rMs m (rs ++ [y]) &&& lMs m acc (rs ++ [y])).testBit i = true := by
    rw [Nat.testBit_and, live_more hv hv' hl, reach_more hv hv' hr]; rfl
  obtain ⟨q1, q2⟩ := endC_min (rs := rs ++ [y]) hi hu e1
  have hp : (endC (rMs m (rs ++ [y]) &&& lMs m acc (rs ++ [y])) (rs ++ [y]) m).length ≠ 0 := fun h => q1 (List.length_eq_zero_iff.1 h)
  have e3 : (rndC (rs ++ [y]) i).length ≤ 1 := e2
  unfold endlessC
  omega
theorem chn_noIn {p : Rl → Bool} {l : List Nat} {s t : Nat} (hn : l ≠ []) (c : Chn (edgeOf p rs) s l t) : ∃ x ∈ rs, p x = true := by
  rcases c.inv with ⟨h, _⟩ | ⟨r, a, k, _, _, h⟩
  · exact absurd h hn
  · obtain ⟨hk, h1, _⟩ := edgeOf_some h
    exact ⟨_, List.getElem_mem hk, h1⟩
/-- Further rules that take letters. -/
theorem sound_more (hv : validB m acc rs = true) (hv' : validB m acc (rs ++ ys) = true) (hy : ∀ y ∈ ys, noIn y = false) (hs : soundC m acc rs = 0) :
    soundC m acc (rs ++ ys) = 0 ∨ soundC m acc (rs ++ ys) = 40 ∨ (soundC m acc (rs ++ ys) = 41 ∧ ∃ x ∈ rs, noIn x = true) := by
  have hl : (lMs m acc rs).testBit 0 = true := by
    unfold soundC at hs
    rw [if_pos hv] at hs
    refine Classical.byContradiction fun h => ?_
    rw [if_neg h] at hs
    exact absurd hs (by decide)
  have hl' := live_more hv hv' hl
  unfold soundC
  rw [if_pos hv', if_pos hl']
  split
  · split
    · exact Or.inl rfl
    · rename_i _ hne
      refine Or.inr (Or.inr ⟨rfl, ?_⟩)
      obtain ⟨i, _, _, e⟩ := (endC_spec _ _ _).2.1 hne
      have hn : rndC (rs ++ ys) i ≠ [] := fun h => hne (e.trans h)
      obtain ⟨l, t, q1, _, c⟩ := fC_iff.1 hn
      obtain ⟨x, hx, hp⟩ := chn_noIn q1 c
      rcases List.mem_append.1 hx with hx | hx
      · exact ⟨x, hx, hp⟩
      · rw [hy x hx] at hp; cases hp
  · exact Or.inr (Or.inl rfl)
end
/-- The rule that takes nothing. -/
def zzR (i : Nat) : Rl := ⟨(i : Int), (i : Int), [], [122, 122], 0⟩
/-- A further rule that takes letters. -/
def zR (a b k c : Nat) : Rl := ⟨(a : Int), (b : Int), [122, (97 + k).toUInt8], [], (c : Int)⟩
theorem zz_right {m i : Nat} {rs : List Rl} (hs : SmallO rs) (hi : i < m) : rightB m (rs ++ [zzR i]) rs.length (zzR i) = true := by
  have hm : modeB (m : Int) (zzR i).src = true := by
    unfold modeB zzR
    simp only [Bool.and_eq_true, decide_eq_true_eq]
    omega
  have hm' : modeB (m : Int) (zzR i).dst = true := hm
  have hn : ¬ zzR i ∈ (rs ++ [zzR i]).take rs.length := by
    rw [List.take_left]
    intro h
    have := (hs _ h).1
    exact absurd this (by show ¬ ([122, 122] : List UInt8).length ≤ 1; decide)
  unfold rightB
  rw [hm, hm', decide_eq_false hn]
  show (true && (true && (decide (((B ([] : List UInt8)).size : Int) ≤ 4) && (onlyB 1 [] && (decide (((B [122, 122]).size : Int) ≤ 4) && (onlyB 7 [122, 122] && (decide ((0 : Int) ≤ 0) && (decide ((0 : Int) ≤ 1000) && !false)))))))) = true
  decide
/-- The rules so far: the scheme's own, and further ones named by the letters before the k-th. -/
def ZUp (rs ys : List Rl) (k : Nat) : Prop := SmallO rs ∧ ys.length = k ∧ ∀ y ∈ ys, ∃ a b j c, j < k ∧ y = zR a b j c
theorem ZUp.nil {rs : List Rl} (h : SmallO rs) : ZUp rs [] 0 := ⟨h, rfl, fun y hy => by cases hy⟩
theorem ZUp.add {rs ys : List Rl} {k a b c : Nat} (h : ZUp rs ys k) : ZUp rs (ys ++ [zR a b k c]) (k + 1) := by
  obtain ⟨h1, h2, h3⟩ := h
  refine ⟨h1, by rw [List.length_append, h2]; rfl, fun y hy => ?_⟩
  rcases List.mem_append.1 hy with hy | hy
  · obtain ⟨a, b, j, c, hj, e⟩ := h3 y hy
    exact ⟨a, b, j, c, by omega, e⟩
  · exact ⟨a, b, k, c, by omega, by simpa using hy⟩
theorem ZUp.noIn {rs ys : List Rl} {k : Nat} (h : ZUp rs ys k) : ∀ y ∈ ys, noIn y = false := fun y hy => by
  obtain ⟨a, b, j, c, _, e⟩ := h.2.2 y hy
  rw [e]; unfold Go.Proofs.YtadaijepalhohabDoor.noIn; rw [ByteArray.toList_eq, toList_B]; rfl
theorem letter_inj {j k : Nat} (hj : j < 6) (hk : k < 6) (h : (97 + j).toUInt8 = (97 + k).toUInt8) : j = k := by
  have hc : (List.range 6).all (fun a => (List.range 6).all fun b => !decide ((97 + a).toUInt8 = (97 + b).toUInt8) || decide (a = b)) = true := by decide
  have := List.all_eq_true.1 (List.all_eq_true.1 hc j (List.mem_range.2 hj)) k (List.mem_range.2 hk)
  rw [decide_eq_true h] at this
  simpa using this
theorem letter_only {k : Nat} (hk : k < 6) : onlyB 1 [122, (97 + k).toUInt8] = true := by
  have hc : (List.range 6).all (fun a => onlyB 1 [122, (97 + a).toUInt8]) = true := by decide
  exact List.all_eq_true.1 hc k (List.mem_range.2 hk)
theorem z_right {m a b k c : Nat} {rs ys : List Rl} (h : ZUp rs ys k) (hk : k < 6) (ha : a < m) (hb : b < m) (hc : c ≤ 1000) : rightB m ((rs ++ ys) ++ [zR a b k c]) (rs ++ ys).length (zR a b k c) = true := by
  have hm : modeB (m : Int) (zR a b k c).src = true := by
    unfold modeB zR
    simp only [Bool.and_eq_true, decide_eq_true_eq]
    omega
  have hm' : modeB (m : Int) (zR a b k c).dst = true := by
    unfold modeB zR
    simp only [Bool.and_eq_true, decide_eq_true_eq]
    omega
  have hn : ¬ zR a b k c ∈ ((rs ++ ys) ++ [zR a b k c]).take (rs ++ ys).length := by
    rw [List.take_left]
    intro hx
    rcases List.mem_append.1 hx with hx | hx
    · exact (h.1 _ hx).2 rfl
    · obtain ⟨a', b', j, c', hj, e⟩ := h.2.2 _ hx
      have e1 : (zR a b k c).inp = (zR a' b' j c').inp := by rw [e]
      have e2 : [(122 : UInt8), (97 + k).toUInt8] = [122, (97 + j).toUInt8] := e1
      have e3 : (97 + k).toUInt8 = (97 + j).toUInt8 := by simpa using e2
      have := letter_inj hk (by omega) e3
      omega
  have h1 : onlyB 1 (zR a b k c).inp = true := letter_only hk
  have h2 : decide (0 ≤ (zR a b k c).cost) = true := decide_eq_true (by show (0 : Int) ≤ (c : Int); omega)
  have h3 : decide ((zR a b k c).cost ≤ 1000) = true := decide_eq_true (by show (c : Int) ≤ 1000; omega)
  unfold rightB
  rw [hm, hm', decide_eq_false hn, h1, h2, h3]
  rfl
/-- So the scheme with its further rules is valid. -/
theorem z_valid {m acc a b k c : Nat} {rs ys : List Rl} (hv : validB m acc (rs ++ ys) = true) (h : ZUp rs ys k) (hl : rs.length ≤ 12) (hk : k < 6) (ha : a < m) (hb : b < m) (hc : c ≤ 1000) : validB m acc (rs ++ (ys ++ [zR a b k c])) = true := by
  rw [← List.append_assoc]
  exact validB_add hv (by rw [List.length_append, h.2.1]; omega) (z_right h hk ha hb hc)
theorem zz_valid {m acc i : Nat} {rs : List Rl} (hv : validB m acc rs = true) (hs : SmallO rs) (hl : rs.length ≤ 12) (hi : i < m) : validB m acc (rs ++ [zzR i]) = true :=
  validB_add hv (by omega) (zz_right hs hi)
end Go.Proofs.YtadaijepalhohabDoor

namespace Go.Proofs.YtadaijepalhohabDoor
open Go.RowKit
open Pl

def Mute (rs : List Rl) : Prop := ∃ x ∈ rs, noIn x = true
set_option maxHeartbeats 1000000 in
set_option maxRecDepth 100000 in
open Classical in
theorem LSilent_any (m acc : Nat) (a : Option Addr) (c : Nat) (rs : List Rl) (w : World) (hx : RlsAt w w.heap.size (.slice a rs.length c) rs) (hl : rs.length ≤ maxLen) :
    Calls Tryd.prog 12 #[.agg #[.int .i64 (m : Nat), .int .u8 (acc : Nat), .slice a rs.length c]] w fun e w' => e = .returned (.bool (decide (Mute rs))) ∧ Below w.heap.size w w' := by
  have b1 := (Below.refl w.heap.size w).alloc (Nat.le_refl _) (.cells #[.int .i64 (m : Nat), .int .u8 (acc : Nat), .slice a rs.length c] 28)
  have k1 := SchBlock.new w (.int .i64 (m : Nat)) (.int .u8 (acc : Nat)) (.slice a rs.length c)
  have HX := Lib.hid hx
  obtain ⟨s0, s1, s2⟩ := k1.cells
  have HB := Lib.hid b1
  have HK := Lib.hid k1
  unfold maxLen at hl
  clear hx b1 k1
  go_enter Tryd.func12, Tryd.ntmps12
  go_upto_region 1 with fail
  generalize w.alloc _ = x1 at *
  go_wp2_with fail
  clear s0 s1 s2
  go_loopw [3] (fun iv wr => ∃ i : Nat, iv = .int .i64 (i : Nat) ∧ i ≤ rs.length ∧ (∀ x ∈ rs.take i, noIn x = false) ∧ SchBlock wr w.heap.size (.int .i64 (m : Nat)) (.int .u8 (acc : Nat)) (.slice a rs.length c) ∧ Below w.heap.size w wr) (fun iv _ => rs.length - (intOf iv).toNat)
  case atStart => exact ⟨0, rfl, Nat.zero_le _, by simp, HK.out, HB.out⟩
  case round =>
    obtain ⟨i, rfl, hi, ht, hk, hb⟩ := hrel
    obtain ⟨s0, s1, s2⟩ := hk.cells
    have HB2 := Lib.hid hb
    have HT := Lib.hid ht
    have HK2 := Lib.hid hk
    clear hb ht hk
    have i0 : (0 : Int) ≤ (i : Int) := by omega
    by_cases h1 : (i : Int) < (rs.length : Int)
    · have hix : i < rs.length := by omega
      obtain ⟨a', c', hv, hP⟩ := HX.out.on HB2.out
      obtain ⟨rfl, -⟩ : a = a' ∧ c = c' := by simpa using hv
      obtain ⟨b, off, ha, hlt, hc⟩ := hP (by omega)
      subst ha
      obtain ⟨p0, p1, p2, p3, p4⟩ := hc i hix
      obtain ⟨x, hxe⟩ : ∃ x, x = rs[i] := ⟨_, rfl⟩
      rw [← hxe] at p0 p1 p2 p3 p4
      cases he : noIn x with
      | true =>
        have HN := Lib.hid (show decide (Mute rs) = true from decide_eq_true ⟨x, by rw [hxe]; exact List.getElem_mem hix, he⟩)
        have hb1 : (B x.inp).toList.isEmpty = true := he
        clear hc hP hv hxe he p0 p1 p3 p4
        go_wp2_with fail
        go_ret
        exact ⟨by rw [HN.out]; rfl, HB2.out⟩
      | false =>
        have HN := Lib.hid (show ∀ y ∈ rs.take (i + 1), noIn y = false by
          rw [List.take_succ_eq_append_getElem hix, ← hxe]
          intro y hy
          rcases List.mem_append.1 hy with hy | hy
          · exact HT.out y hy
          · obtain rfl : y = x := by simpa using hy
            exact he)
        have hb1 : (B x.inp).toList.isEmpty = false := he
        clear hc hP hv hxe he p0 p1 p3 p4
        go_wp2_with fail
        go_roundw
        case rel => exact ⟨i + 1, by go_num, by omega, HN.out, HK2.out, HB2.out⟩
        case measure => simp [intOf]; omega
    · have HN := Lib.hid (show decide (Mute rs) = false from decide_eq_false (by
        have h := HT.out
        rw [List.take_of_length_le (by omega)] at h
        rintro ⟨x, hx, hp⟩
        rw [h x hx] at hp; cases hp))
      go_wp2_with fail
      go_ret
      exact ⟨by rw [HN.out]; rfl, HB2.out⟩
end Go.Proofs.YtadaijepalhohabDoor

namespace Go.Proofs.YtadaijepalhohabDoor
open Go.RowKit
open Pl

theorem clone_rls {W : World} {base g b2 : Nat} {v2 : Value} {rs : List Rl} (hg : W.heap[g]? = some (.cells #[] 31 (0, 0))) (hb : base ≤ g) (h2 : RlsOwn W b2 v2 rs) (hl : rs.length ≤ 10000) :
    ∃ v' W', (Builtin.append_ #[26, 26] 26 #[.slice (some ⟨g, 0, none⟩) 0 0, v2]).run Tryd.prog W = .ok v' W' ∧ RlsOwn W' base v' rs ∧ Below W.heap.size W W' := by
  obtain ⟨i0, hi0, hz0, hz1, hz2⟩ := info_parts infoRl
  have hgl := lt_of_heap hg
  have h1 : RlsOwn W base (.slice (some ⟨g, 0, none⟩) 0 0) [] := ⟨rfl, Or.inr ⟨g, 0, #[], rfl, hb, hg, Nat.le_refl _, Nat.zero_le _, rfl, rfl⟩⟩
  rcases h2.2 with ⟨rfl, h0⟩ | ⟨g', cap, cur, rfl, hg', hh, h3, h4, h5, h6⟩
  · obtain rfl : rs = [] := List.eq_nil_of_length_eq_zero h0
    exact ⟨_, W, run_append_owned_none (P := Tryd.prog) (w := W) base 26 26 31 i0 5 Tryd.underlying26 hi0 _ 0 [] h1, h1, Below.refl _ _⟩
  · have hcell := World.ownsRow.cells h2 (g := g') rfl
    by_cases hx : rs.length = 0
    · obtain rfl : rs = [] := List.eq_nil_of_length_eq_zero hx
      have hr := run_append_room_cells (P := Tryd.prog) W 26 26 31 i0 Tryd.underlying26 hi0 g 0 0 0 ⟨g', 0, none⟩ 0 cap [] (by simp) (fun j u hu => by simp at hu) (fun u hu => by cases hu) (Nat.le_refl _) (fun j hj => absurd hj (Nat.not_lt_zero _)) (fun j hj => absurd hj (Nat.not_lt_zero _))
      exact ⟨_, W, hr, h1, Below.refl _ _⟩
    · obtain ⟨v', W', hr, h7, h8⟩ := run_append_arg_grows (P := Tryd.prog) W 26 26 31 i0 _ 5 56 Tryd.underlying26 hi0 hz0 hz1 hz2 rfl (by decide) ⟨g, 0, none⟩ 0 0 [] rfl (fun j u hu => by simp at hu) ⟨g', 0, none⟩ rs.length cap (rs.flatMap rlCells) (rlCells_length rs) hcell (by omega) (by unfold maxLen; omega) (by omega)
      refine ⟨v', W', hr, ?_, (Below.refl _ _).grown h8 (Nat.le_refl _) (fun k hk => by cases hk)⟩
      refine RlsOwn.base (b := W.heap.size) ?_ (by omega)
      unfold RlsOwn
      simpa using h7
theorem rl_ne_sch {W : World} {b : Nat} {v : Value} {rs : List Rl} {g : Nat} {c0 c1 c2 : Value} (h : RlsOwn W b v rs) (hr : SchBlock W g c0 c1 c2) : ∀ k, v.ownBlock = some k → k ≠ g := by
  intro k hk e
  subst e
  rcases h.2 with ⟨rfl, _⟩ | ⟨g', cap, cur, rfl, _, hh, _⟩
  · cases hk
  · obtain rfl : g' = k := by cases hk; rfl
    unfold SchBlock at hr
    rw [hr] at hh
    have h3 := Option.some.inj hh
    injection h3 with _ h4 _
    exact absurd h4 (by decide)
theorem RlsOwn.keptNe {W W' : World} {base : Nat} {v : Value} {rs : List Rl} {row : Option Nat} (h : RlsOwn W base v rs) (hg : W.grownBy W' row) (hne : ∀ k, v.ownBlock = Option.some k → row ≠ Option.some k) : RlsOwn W' base v rs := by
  refine ⟨h.1, ?_⟩
  rcases h.2 with h0 | ⟨g, cap, cur, rfl, hg2, hh, h1, h2, h3, h4⟩
  · exact Or.inl h0
  · exact Or.inr ⟨g, cap, cur, rfl, hg2, by rw [hg.block g (lt_of_heap hh) (fun e => hne g rfl e.symm)]; exact hh, h1, h2, h3, h4⟩
theorem RlsOwn.shape {W : World} {b : Nat} {v : Value} {rs : List Rl} (h : RlsOwn W b v rs) : ∃ a c, v = .slice a rs.length c := by
  obtain ⟨a, c, h, _⟩ := h.at
  exact ⟨a, c, h⟩
/-- What each operation's value is. -/
def DFact (base gs m acc : Nat) (va : Option Addr) (vc : Nat) (rs : List Rl) (W : World) : Nat → Value → Prop
  | 0, v => v = .pointer (some ⟨gs, 0, none⟩)
  | 1, v => v = .int .i64 (m : Nat)
  | 2, v => v = .pointer (some ⟨gs, 1, none⟩)
  | 3, v => v = .int .u8 (acc : Nat)
  | 4, v => ∃ g, v = .slice (some ⟨g, 0, none⟩) 0 0 ∧ base ≤ g ∧ W.heap[g]? = some (.cells #[] 31 (0, 0))
  | 5, v => v = .pointer (some ⟨gs, 2, none⟩)
  | 6, v => v = .slice va rs.length vc
  | 7, v => RlsOwn W base v rs
  | 8, v => ∃ a c, v = .agg #[.int .i64 (m : Nat), .int .u8 (acc : Nat), .slice a rs.length c] ∧ RlsOwn W base (.slice a rs.length c) rs
  | 9, v => ∃ g, v = .pointer (some ⟨g, 0, none⟩) ∧ base ≤ g ∧ SchBlock W g (.int .i64 0) (.int .u8 0) (.slice none 0 0)
  | _, _ => True
theorem DFact.below {base gs m acc : Nat} {va : Option Addr} {vc : Nat} {rs : List Rl} {W W' : World} (hb : Below W.heap.size W W') : ∀ (j : Nat) (v : Value), DFact base gs m acc va vc rs W j v → DFact base gs m acc va vc rs W' j v := by
  intro j v h
  match j, h with
  | 0, h => exact h
  | 1, h => exact h
  | 2, h => exact h
  | 3, h => exact h
  | 4, h => obtain ⟨g, h1, h2, h3⟩ := h; exact ⟨g, h1, h2, by rw [hb.block g (lt_of_heap h3)]; exact h3⟩
  | 5, h => exact h
  | 6, h => exact h
  | 7, h => exact RlsOwn.later h hb
  | 8, h => obtain ⟨a, c, h1, h2⟩ := h; exact ⟨a, c, h1, h2.later hb⟩
  | 9, h => obtain ⟨g, h1, h2, h3⟩ := h; exact ⟨g, h1, h2, h3.below hb⟩
  | _ + 10, _ => trivial
def upd (f : Nat → Value) (i : Nat) (v : Value) : Nat → Value := fun j => if j = i then v else f j
/-- What holds of all that has been listed. -/
def DAll (base gs m acc : Nat) (va : Option Addr) (vc : Nat) (rs : List Rl) (listed : Array Bool) (W : World) (f : Nat → Value) : Prop :=
  ∀ j, j < 10 → listed.getD j false = true → DFact base gs m acc va vc rs W j (f j)
theorem dstep {base gs m acc : Nat} {va : Option Addr} {vc : Nat} {rs : List Rl} {x W W' : World} {listed : Array Bool} {f : Nat → Value} {i : Nat} {v : Value} (hx : Below base x W) (hxs : base ≤ W.heap.size) (hF : DAll base gs m acc va vc rs listed W f) (hb : Below W.heap.size W W') (hv : DFact base gs m acc va vc rs W' i v) :
    Below base x W' ∧ DAll base gs m acc va vc rs (listed.setIfInBounds i true) W' (upd f i v) := by
  refine ⟨hx.trans (hb.mono hxs), fun j hj hl => ?_⟩
  unfold upd
  by_cases e : j = i
  · rw [if_pos e, e]; exact hv
  · rw [if_neg e]
    exact DFact.below hb j _ (hF j hj ((listed_set hl).resolve_left (fun h => e h.symm)))
theorem none_listed {n j : Nat} (h : (Array.replicate n false).getD j false = true) : False := by
  by_cases hj : j < n
  · simp [hj] at h
  · simp [hj] at h
theorem ready_dep {ops : Array Oper} {listed : Array Bool} {i k : Nat} {o : Oper} (h : i ∈ Region.ready .any ops listed) (ho : ops[i]? = some o) (hk : o.after.any (fun e => Region.binds .any e && e.on == k) = true) : listed.getD k false = true := by
  obtain ⟨-, o', ho', hall⟩ := mem_ready.1 h
  obtain rfl : o' = o := Option.some.inj (ho'.symm.trans ho)
  obtain ⟨e, he, hb⟩ := Array.any_eq_true'.1 hk
  simp only [Bool.and_eq_true, beq_iff_eq] at hb
  rw [← hb.2]
  exact hall e he hb.1
/-- One rule more. -/
theorem wpList_append_rls {ops : Array Oper} {rest : List Oper} {o : Oper} {a : Act} {W : World} {Q : Exit → Act → World → Prop} (hgd : o.guard = none) (s x : Operand)
    (ho : o.op = .call { callee := .builtin .append, args := #[s, x], argTypes := #[26, 26] }) (base : Nat) (v : Value) (rs : List Rl) (hs : a.eval s = v) (hown : RlsOwn W base v rs) (r : Rl) (nb : Nat) (hx : a.eval x = .slice (some ⟨nb, 0, none⟩) 1 1) (hn : W.heap[nb]? = some (.cells (rlCells r).toArray 31 (0, 0)))
    (hlen : rs.length + 1 ≤ 10000) (hbase : base ≤ W.heap.size) (h : ∀ g cap W', RlsOwn W' base (.slice (some ⟨g, 0, none⟩) (rs.length + 1) cap) (rs ++ [r]) → W.grownBy W' v.ownBlock → wpList Tryd.prog ops Q rest (a.put o.dst (.slice (some ⟨g, 0, none⟩) (rs.length + 1) cap)) W') : wpList Tryd.prog ops Q (o :: rest) a W := by
  obtain ⟨i0, hi0, hz0, hz1, hz2⟩ := info_parts infoRl
  refine wpList_append_own W hgd s x 26 ho base 31 i0 _ 5 56 Tryd.underlying26 hi0 hz0 hz1 hz2 rfl (by decide) v rs.length (rs.flatMap rlCells) hs hown ⟨nb, 0, none⟩ 1 1 (rlCells r) hx rfl (World.news_of_block (cs := (rlCells r).toArray) (t := 31) (fr := (0, 0)) hn) (fun u hu => by
    simp only [rlCells, List.mem_cons, List.not_mem_nil, or_false] at hu
    rcases hu with rfl | rfl | rfl | rfl | rfl <;> rfl) (by unfold maxLen; omega) (by omega) hbase fun v' w' hown2 hgrow2 _ => ?_
  obtain ⟨g2b, cap2, rfl, hgb, hgl⟩ := hown2.form (by omega)
  refine h g2b cap2 w' ?_ hgrow2
  unfold RlsOwn
  rw [List.length_append, List.length_singleton, List.flatMap_append]
  simpa using hown2
theorem held_done_as {P : Program} {ops : Array Oper} {md : Region.Mode} {S : World → Prop} {Q : Exit → Act → World → Prop} {fuel : Nat} {listed : Array Bool} {a : Act} {w : World} {b : Act} (hr : Region.ready md ops listed = []) (hab : a = b) (h : Q .normal b w) : wpAnyH P md ops Q S fuel listed a w :=
  held_done hr (by rw [hab]; exact h)
theorem ok_lens {m : Int} {acc : Int} {rs : List Rl} (hv : validB m acc rs = true) : ∀ x ∈ rs, x.inp.length ≤ maxLen ∧ x.out.length ≤ maxLen := fun x hx => by
  obtain ⟨kk, hkk, rfl⟩ := List.getElem_of_mem hx
  have h := ((valid_ok hv).2.2.2.2 kk hkk).1
  have h1 := h.i
  have h2 := h.o
  unfold maxLen
  omega
theorem RlsOwn.lt {W : World} {b : Nat} {v : Value} {rs : List Rl} (h : RlsOwn W b v rs) : ∀ q, v.ownBlock = some q → b ≤ q ∧ q < W.heap.size := by
  intro q hq
  rcases h.2 with ⟨rfl, _⟩ | ⟨g, cap, cur, rfl, hg, hh, _⟩
  · cases hq
  · cases hq; exact ⟨hg, lt_of_heap hh⟩
end Go.Proofs.YtadaijepalhohabDoor

namespace Go.Proofs.YtadaijepalhohabDoor
open Go.RowKit
open Pl

theorem letter_cut {n : Nat} (hn : n < 6) : (⟨#[97, 98, 99, 100, 101, 102]⟩ : ByteArray).extract n (n + 1) = B [(97 + n).toUInt8] := by
  rcases (show n = 0 ∨ n = 1 ∨ n = 2 ∨ n = 3 ∨ n = 4 ∨ n = 5 by omega) with rfl | rfl | rfl | rfl | rfl | rfl <;> rfl
theorem letter_cat (c : UInt8) : (⟨#[122]⟩ : ByteArray) ++ B [c] = B [122, c] := by
  rw [show (⟨#[122]⟩ : ByteArray) = B [122] from rfl]
  apply ByteArray.ext
  simp [B, ByteArray.data_append]
/-- What the loop over the further rules keeps. -/
def ZRel (x : World) (gu m acc : Nat) (rs : List Rl) (n : Nat) (W : World) : Prop := ∃ (ys : List Rl) (pa : Option Addr) (pc : Nat), SchBlock W gu (.int .i64 (m : Nat)) (.int .u8 (acc : Nat)) (.slice pa (rs ++ ys).length pc) ∧ RlsOwn W x.heap.size (.slice pa (rs ++ ys).length pc) (rs ++ ys) ∧ validB m acc (rs ++ ys) = true ∧ ZUp rs ys n ∧ Below x.heap.size x W
set_option maxHeartbeats 4000000 in
set_option maxRecDepth 100000 in
theorem FlawAdds_any (M A k : Nat) (ma : Option Addr) (mn mc : Nat) (la : Option Addr) (ln lc : Nat) (w : World) (hT : StrTab w) (h0 : 0 < w.heap.size) (hM : M < 256) (hA : A < 256) (hk : k < 256) (hx : TrisAt w w.heap.size (.slice ma mn mc) mn) (hl : mn ≤ maxLen) (hy : TrisAt w w.heap.size (.slice la ln lc) ln) :
    Calls Tryd.prog 3 #[.agg #[.int .u8 (M : Nat), .int .u8 (A : Nat), .slice ma mn mc], .int .u8 (k : Nat), .slice la ln lc] w fun e w' => e = .returned (.bool true) ∧ Below w.heap.size w w' := by
  have b1 := (Below.refl w.heap.size w).alloc (Nat.le_refl _) (.cells #[.int .u8 (M : Nat), .int .u8 (A : Nat), .slice ma mn mc] 24)
  have r1 := FRBlock.new w (.int .u8 (M : Nat)) (.int .u8 (A : Nat)) (.slice ma mn mc)
  have R1 := Lib.hid r1
  have B1 := Lib.hid b1
  have HX := Lib.hid hx
  have HY := Lib.hid hy
  have HT := Lib.hid hT
  have H0 := Lib.hid h0
  clear hx hy hT h0 b1 r1
  go_enter Tryd.func3, Tryd.ntmps3
  go_upto_region 1 with fail
  generalize w.alloc _ = x1 at *
  go_wp2_with fail
  refine (San_any x1 (HT.out.below B1.out H0.out) (Nat.lt_of_lt_of_le H0.out B1.out.size)).mono ?_
  rintro e x2 ⟨rfl, hb⟩
  have R2 := Lib.hid (R1.out.below hb)
  have B2 := Lib.hid (B1.out.trans (hb.mono B1.out.size))
  clear hb R1 B1
  obtain ⟨r0, r1, r2⟩ := R2.out.cells
  go_wp2_with fail
  refine (FMadeS_any M A ma mn mc x2 hM hA (HX.out.on B2.out) hl).mono ?_
  rintro e x3 ⟨m, acc, rs, va, vc, rfl, hm, h256, hv, hl12, hown, hb, hsm⟩
  have HV := Lib.hid hv
  have HS := Lib.hid hsm
  have OW3 := Lib.hid hown
  have B3 := Lib.hid (B2.out.trans (hb.mono B2.out.size))
  obtain ⟨aa, cc, hvv, hcap, hat⟩ := hown.at
  obtain ⟨rfl, rfl⟩ : va = aa ∧ vc = cc := by simpa using hvv
  clear hvv hat hown hb R2 B2 r0 r1 r2 hv hsm
  obtain ⟨gs, hgs⟩ : ∃ g, g = x3.heap.size := ⟨_, rfl⟩
  have NB := SchBlock.new x3 (.int .i64 0) (.int .u8 0) (.slice none 0 0)
  have AL := Lib.hid ((Below.refl x3.heap.size x3).alloc (Nat.le_refl _) (.cells #[.int .i64 0, .int .u8 0, .slice none 0 0] 28))
  go_upto_region 3 with (first | (refine wpList_store_sch rfl _ _ rfl _ _ _ _ NB rfl (m : Int) (acc : Int) va rs.length vc rfl ?_; intro W4 SB hg' hs'; clear NB))
  have hbb := AL.out.grown hg' AL.out.size (by simp)
  have OW4 := Lib.hid (OW3.out.later hbb)
  have S4 := Lib.hid SB
  have B4 := Lib.hid (B3.out.trans (hbb.mono B3.out.size))
  clear hbb hg' hs' SB AL OW3 B3
  rw [← hgs] at S4
  rw [← hgs]
  clear hgs
  obtain ⟨s0, s1, s2⟩ := S4.out.cells
  obtain ⟨i, hi⟩ : ∃ i : Nat, i = k % m := ⟨_, rfl⟩
  have him : i < m := by rw [hi]; exact Nat.mod_lt _ hm.1
  have e1 : (k : Int).tmod (m : Int) = (i : Int) := by rw [Int.tmod_eq_emod_of_nonneg (by omega), hi, Int.natCast_emod]
  have w1 : IntKind.i64.wrap (k : Int) = (k : Int) := IntWalk.i64_in _ (by omega)
  have w5 : IntKind.i64.wrap (i : Int) = (i : Int) := IntWalk.i64_in _ (by omega)
  have g5 : ¬ (m = 0) := by omega
  clear hi
  go_upto_region 4 with fail
  clear e1 w1 s0 s1 s2
  have FS4 := Lib.hid (show ∀ W, Below W4.heap.size W4 W → W.cell? ⟨gs, 0, none⟩ = some (.int .i64 (m : Nat)) ∧ W.cell? ⟨gs, 1, none⟩ = some (.int .u8 (acc : Nat)) ∧ W.cell? ⟨gs, 2, none⟩ = some (.slice va rs.length vc) from fun W h => (S4.out.below h).cells)
  refine wp_normal ?_
  refine wp_region_inv2 10 (by kernel_rfl) (by kernel_rfl) (by kernel_rfl) (fun listed a W => ∃ f : Nat → Value, a = ({ tmps := #[Value.agg #[Value.int IntKind.u8 ↑M, Value.int IntKind.u8 ↑A, Value.slice ma mn mc], Value.int IntKind.u8 ↑k, Value.slice la ln lc, Value.pointer (some { block := w.heap.size, off := 0 }), undef, undef, Value.bool false, Value.bool true, Value.pointer (some { block := gs, off := 0 }), Value.int IntKind.i64 ↑i, f 9, undef, undef, undef, undef, Value.bool true, Value.agg #[Value.int IntKind.u8 ↑M, Value.int IntKind.u8 ↑A, Value.slice ma mn mc], Value.agg #[Value.int IntKind.i64 ↑m, Value.int IntKind.u8 ↑acc, Value.slice va rs.length vc], Value.int IntKind.u8 ↑k, Value.int IntKind.i64 ↑k, Value.pointer (some { block := gs, off := 0 }), Value.int IntKind.i64 ↑m, Value.int IntKind.i64 ↑i, f 0, f 1, f 2, f 3, f 4, f 5, f 6, f 7, f 8, undef, undef, undef, undef, undef, undef, undef, undef, undef, undef, undef, undef, undef, undef, undef, undef, undef, undef, undef, undef, undef, undef, undef, undef, undef, undef, undef, undef, undef, undef, undef, undef, undef, undef, undef, undef, undef, undef, undef, undef, undef, undef, undef, undef, undef, undef, undef, undef, undef, undef, undef, undef, undef, undef, undef, undef, undef, undef, undef, undef, undef, undef, undef, undef, undef, undef, undef, undef, undef, undef, undef, undef, undef, undef, undef, undef, undef, undef, undef, undef, undef, undef, undef, undef, undef, undef, undef, undef, undef, undef, undef, undef, undef, undef, undef, undef, undef, undef, undef, undef, undef, undef, undef, undef, undef, undef, undef, undef, undef], defers := [] } : Act) ∧ Below W4.heap.size W4 W ∧ DAll W4.heap.size gs m acc va vc rs listed W f) ?_ ?_ ?_
  · exact ⟨fun _ => undef, rfl, (Below.refl _ _).drew, fun j _ h => (none_listed h).elim⟩
  · rintro listed a W i ⟨f, rfl, hb, hF⟩ hr hi
    have hbs : W4.heap.size ≤ W.heap.size := hb.size
    obtain ⟨f0, f1, f2⟩ := FS4.out W hb
    have hE := heap_alloc_new W (.cells #[] 31)
    have hal := (Below.refl W.heap.size W).alloc (Nat.le_refl _) (.cells #[] 31)
    rcases (show i = 0 ∨ i = 1 ∨ i = 2 ∨ i = 3 ∨ i = 4 ∨ i = 5 ∨ i = 6 ∨ i = 7 ∨ i = 8 ∨ i = 9 by omega) with rfl | rfl | rfl | rfl | rfl | rfl | rfl | rfl | rfl | rfl
    · exact wpOp_value (w' := W) (.pointer (some ⟨gs, 0, none⟩)) rfl rfl (by go_simp) ⟨upd f 0 (.pointer (some ⟨gs, 0, none⟩)), by kernel_rfl, dstep hb hbs hF (Below.refl _ _) rfl⟩
    · have d0 : f 0 = _ := hF 0 (by decide) (ready_dep hr rfl (k := 0) (by kernel_rfl))
      exact wpOp_value (w' := W) (.int .i64 (m : Nat)) rfl rfl (by rw [d0]; go_simp) ⟨upd f 1 (.int .i64 (m : Nat)), by kernel_rfl, dstep hb hbs hF (Below.refl _ _) rfl⟩
    · exact wpOp_value (w' := W) (.pointer (some ⟨gs, 1, none⟩)) rfl rfl (by go_simp) ⟨upd f 2 (.pointer (some ⟨gs, 1, none⟩)), by kernel_rfl, dstep hb hbs hF (Below.refl _ _) rfl⟩
    · have d0 : f 2 = _ := hF 2 (by decide) (ready_dep hr rfl (k := 2) (by kernel_rfl))
      exact wpOp_value (w' := W) (.int .u8 (acc : Nat)) rfl rfl (by rw [d0]; go_simp) ⟨upd f 3 (.int .u8 (acc : Nat)), by kernel_rfl, dstep hb hbs hF (Below.refl _ _) rfl⟩
    · exact wpOp_value (w' := W.alloc (.cells #[] 31)) (.slice (some ⟨W.heap.size, 0, none⟩) 0 0) rfl rfl (by go_simp) ⟨upd f 4 (.slice (some ⟨W.heap.size, 0, none⟩) 0 0), by kernel_rfl, dstep hb hbs hF hal ⟨_, rfl, hbs, hE⟩⟩
    · exact wpOp_value (w' := W) (.pointer (some ⟨gs, 2, none⟩)) rfl rfl (by go_simp) ⟨upd f 5 (.pointer (some ⟨gs, 2, none⟩)), by kernel_rfl, dstep hb hbs hF (Below.refl _ _) rfl⟩
    · have d0 : f 5 = _ := hF 5 (by decide) (ready_dep hr rfl (k := 5) (by kernel_rfl))
      exact wpOp_value (w' := W) (.slice va rs.length vc) rfl rfl (by rw [d0]; go_simp) ⟨upd f 6 (.slice va rs.length vc), by kernel_rfl, dstep hb hbs hF (Below.refl _ _) rfl⟩
    · obtain ⟨g, d0, hg1, hg2⟩ := hF 4 (by decide) (ready_dep hr rfl (k := 4) (by kernel_rfl))
      have d1 : f 6 = _ := hF 6 (by decide) (ready_dep hr rfl (k := 6) (by kernel_rfl))
      obtain ⟨v', W', hrun, hown, hbb⟩ := clone_rls hg2 hg1 (OW4.out.later hb) (by omega)
      exact wpOp_value (w' := W') v' rfl rfl (by rw [d0, d1]; simp [execOp, resolve, invoke, builtin, Act.eval, hrun, Result.andThen]) ⟨upd f 7 v', by kernel_rfl, dstep hb hbs hF hbb hown⟩
    · have d1 : f 1 = _ := hF 1 (by decide) (ready_dep hr rfl (k := 1) (by kernel_rfl))
      have d3 : f 3 = _ := hF 3 (by decide) (ready_dep hr rfl (k := 3) (by kernel_rfl))
      have o1 : RlsOwn W W4.heap.size (f 7) rs := hF 7 (by decide) (ready_dep hr rfl (k := 7) (by kernel_rfl))
      obtain ⟨p1, q1, e1⟩ := o1.shape
      exact wpOp_value (w' := W) (.agg #[.int .i64 (m : Nat), .int .u8 (acc : Nat), .slice p1 rs.length q1]) rfl rfl (by rw [d1, d3, e1]; go_simp) ⟨upd f 8 _, by kernel_rfl, dstep hb hbs hF (Below.refl _ _) ⟨p1, q1, rfl, by rw [← e1]; exact o1⟩⟩
    · exact wpOp_value (w' := W.alloc (.cells #[.int .i64 0, .int .u8 0, .slice none 0 0] 28)) (.pointer (some ⟨W.heap.size, 0, none⟩)) rfl rfl (by go_simp) ⟨upd f 9 (.pointer (some ⟨W.heap.size, 0, none⟩)), by kernel_rfl, dstep hb hbs hF ((Below.refl W.heap.size W).alloc (Nat.le_refl _) _) ⟨_, rfl, hbs, SchBlock.new W _ _ _⟩⟩
  rintro listed a W ⟨f, rfl, hb, hF⟩ hall
  obtain ⟨p4, q4, e8, o8⟩ := hF 8 (by decide) (hall 8 (by decide))
  obtain ⟨gt, e9, hg9, sb9⟩ := hF 9 (by decide) (hall 9 (by decide))
  clear hF hall
  rw [e8, e9]
  clear e8 e9
  generalize f 0 = z4_0 at *
  generalize f 1 = z4_1 at *
  generalize f 2 = z4_2 at *
  generalize f 3 = z4_3 at *
  generalize f 4 = z4_4 at *
  generalize f 5 = z4_5 at *
  generalize f 6 = z4_6 at *
  generalize f 7 = z4_7 at *
  refine wpOp_of_list rfl rfl ?_ (fun _ _ h => h)
  refine wpList_store_sch rfl _ _ rfl _ _ _ _ sb9 rfl (m : Int) (acc : Int) p4 rs.length q4 rfl ?_
  intro W5 SB hg' hs'
  refine ⟨rfl, ?_⟩
  have hd := hb.grown hg' hb.size (fun k hk => by have := Option.some.inj hk; omega)
  have O4 := Lib.hid (o8.keptNe hg' (fun k hk e => rl_ne_sch o8 sb9 k hk (Option.some.inj e).symm))
  have T4 := Lib.hid SB
  have D4 := Lib.hid hd
  have hG4 : W4.heap.size ≤ gt := hg9
  clear hb hd o8 sb9 SB hg' hs' hg9
  obtain ⟨t0, t1, t2⟩ := T4.out.cells
  obtain ⟨z, hz⟩ : ∃ z : Rl, z = zzR i := ⟨_, rfl⟩
  have HZZ := Lib.hid hz
  have eqz : (rlCells z).toArray = #[.int .i64 (i : Nat), .int .i64 (i : Nat), .string ⟨#[]⟩, .string ⟨#[122, 122]⟩, .int .i64 0] := by rw [hz]; rfl
  have al := (Below.refl W5.heap.size W5).alloc (Nat.le_refl _) (.cells (rlCells z).toArray 31)
  have T5 := Lib.hid (T4.out.below al)
  have D5 := Lib.hid (D4.out.trans (al.mono D4.out.size))
  have O5 := Lib.hid (O4.out.later al)
  have NW := heap_alloc_new W5 (.cells (rlCells z).toArray 31)
  have hlt5 : W4.heap.size ≤ W5.heap.size := D4.out.size
  have hgt5 : gt < W5.heap.size := lt_of_heap T4.out
  rw [eqz] at al T5 D5 O5 NW
  rw [← eqz] at NW
  clear hz
  go_upto_region 6 with (first | (at_builtin; refine wpList_append_rls rfl _ _ rfl W4.heap.size (.slice p4 rs.length q4) rs rfl O5.out z W5.heap.size rfl (by rw [eqz]; rw [eqz] at NW; exact NW) (by omega) (by simp only [World.size_alloc]; omega) ?_; intro g8 c8 W8 own8 grow8; clear t0 t1 t2; have T8 := Lib.hid (T5.out.keptBy grow8 (fun e => rl_ne_sch O5.out T5.out _ e rfl)); obtain ⟨t0, t1, t2⟩ := T8.out.cells; have tf := T8.out.free) | fail)
  have hgt4 : W4.heap.size ≤ gt := hG4
  have D8 := Lib.hid (D5.out.grown grow8 D5.out.size (fun q hq => O5.out.lt q hq |>.1))
  have D9 := Lib.hid (D8.out.setCell (p := ⟨gt, 2, none⟩) hgt4 (.slice (some ⟨g8, 0, none⟩) (rs.length + 1) c8))
  have T9 := Lib.hid (T8.out.put2 (v := .slice (some ⟨g8, 0, none⟩) (rs.length + 1) c8))
  have OZ9 := Lib.hid (own8.keep1 (W' := W8.setCell ⟨gt, 2, none⟩ (.slice (some ⟨g8, 0, none⟩) (rs.length + 1) c8)) (heap_setCell_other _ _ _ _ (rl_ne_sch own8 T8.out g8 rfl)))
  clear t0 t1 t2 tf al T5 D5 O5 NW own8 grow8 D8 T8 T4 D4 O4 eqz
  generalize W8.setCell _ _ = W9 at *
  have S9 := Lib.hid (S4.out.below D9.out)
  have OW9 := Lib.hid (OW4.out.later D9.out)
  have B9 := Lib.hid (B4.out.trans (D9.out.mono B4.out.size))
  have CX := Lib.hid (zz_valid HV.out HS.out hl12 him)
  have HSM := Lib.hid (ok_lens HV.out)
  have HIN := Lib.hid (valid_in HV.out).2.1
  clear S4 OW4 B4 D9
  obtain ⟨aa, cc, hvv, _, hat⟩ := OW9.out.at
  obtain ⟨rfl, rfl⟩ : va = aa ∧ vc = cc := by simpa using hvv
  have X9 := Lib.hid hat
  clear hvv hat
  go_cut [58] (fun s58 wx => s58 = .bool false ∧ Below W9.heap.size W9 wx)
  case first =>
    obtain ⟨s0, s1, s2⟩ := S9.out.cells
    go_wp2_with fail
    refine (RLive_any m acc va vc rs W9 hm.1 (by omega) h256 X9.out (by unfold maxLen; omega) HIN.out).mono ?_
    rintro e xa ⟨b, rfl, bsb, hbg, hb⟩
    obtain ⟨lv, hlv⟩ : ∃ lv, lv = liveB m acc rs i := ⟨_, rfl⟩
    have c0 : xa.cell? ⟨b, i, none⟩ = some (.bool lv) := by
      have h := bsb.cell i (by simpa using him)
      rw [h, hlv]; simp
    have HLV := Lib.hid hlv
    have i0 : (0 : Int) ≤ (i : Int) := by omega
    have i1 : (i : Int) < (m : Int) := by omega
    have HBA := Lib.hid hb
    obtain ⟨s0', s1', s2'⟩ := (S9.out.below hb).cells
    clear bsb hlv hb s0 s1 s2
    cases lv with
    | false =>
      go_wp2_with fail
      go_meet
      exact ⟨rfl, HBA.out⟩
    | true =>
      go_wp2_with fail
      refine (Reached_any m acc 0 va vc rs xa hm.1 (by omega) (by omega) (X9.out.on HBA.out) (by unfold maxLen; omega) HIN.out).mono ?_
      rintro e xb ⟨b2, rfl, bsb, hbg2, hb⟩
      obtain ⟨rv, hrv⟩ : ∃ rv, rv = (rnds rStep rs m (2 ^ 0)).testBit i := ⟨_, rfl⟩
      have c1 : xb.cell? ⟨b2, i, none⟩ = some (.bool rv) := by
        have h := bsb.cell i (by rw [setL_len]; exact him)
        rw [h, hrv, setL_get m _ i him]
      have HRV := Lib.hid hrv
      have HBB := Lib.hid (HBA.out.trans (hb.mono HBA.out.size))
      obtain ⟨t0, t1, t2⟩ := (T9.out.below HBB.out).cells
      clear bsb hrv hb s0' s1' s2' c0
      cases rv with
      | false =>
        go_wp2_with fail
        go_meet
        exact ⟨rfl, HBB.out⟩
      | true =>
        obtain ⟨aa, cc, hvv, hcz, hat⟩ := OZ9.out.at
        have hlz : (rs ++ [z]).length = rs.length + 1 := by simp
        rw [hlz] at hvv hcz
        obtain ⟨rfl, rfl⟩ : some (⟨g8, 0, none⟩ : Addr) = aa ∧ c8 = cc := by simpa using hvv
        have hat2 : RlsAt W9 W9.heap.size (.slice (some ⟨g8, 0, none⟩) (rs ++ [z]).length c8) (rs ++ [z]) := by rw [hlz]; exact hat
        have CF := Lib.hid (Find_any m acc (some ⟨g8, 0, none⟩) c8 (rs ++ [z]) xb (HT.out.below (B9.out.trans (HBB.out.mono B9.out.size)) H0.out) (Nat.lt_of_lt_of_le H0.out (B9.out.trans (HBB.out.mono B9.out.size)).size) (by omega) h256 (hat2.on HBB.out) (by rw [hlz]; exact hcz) (by rw [hlz]; omega) (by rw [HZZ.out]; exact ok_lens CX.out))
        rw [hlz] at CF
        clear hvv hat hat2
        go_wp2_with fail
        refine (CF.out).mono ?_
        rintro e xc ⟨v, rfl, hrep, hb⟩
        obtain ⟨a1, a2, a3, c1', c2, c3, rfl, -, -, -⟩ := hrep
        have hle : (repC m acc (rs ++ [z])).endless.length = 1 := by
          have hl1 : (lMs m acc rs).testBit i = true := by
            have h := kinds_live HIN.out hm.1 (valid_acc HV.out).1 (valid_acc HV.out).2 i him
            exact h.trans HLV.out.symm
          have hr1 : (rMs m rs).testBit i = true := (kinds_reached HIN.out hm.1 i).trans HRV.out.symm
          have hz1 : z = zzR i := HZZ.out
          have hv' : validB m acc (rs ++ [z]) = true := by rw [hz1]; exact CX.out
          have h := loop_endless HV.out hv' him (by rw [hz1]; rfl) (by rw [hz1]; rfl) (by rw [hz1]; rfl) hl1 hr1
          unfold repC
          rw [if_pos hv']
          show (ints _).length = 1
          rw [ints_len]; exact h
        generalize repC m acc (rs ++ [z]) = rp at *
        have HBC := Lib.hid (HBB.out.trans (hb.mono HBB.out.size))
        rw [hle]
        clear hb hle t0 t1 t2
        have hfd : ∀ W, (Instr.field 37 (.agg #[.slice a1 rp.dead.length c1', .slice a2 rp.stuck.length c2, .slice a3 1 c3]) 2).run Tryd.prog W = .ok (.slice a3 1 c3) W := fun _ => by kernel_rfl
        go_wp2_with fail
        go_meet
        exact ⟨rfl, HBC.out⟩
  case rest =>
    obtain ⟨rfl, hbx⟩ := hcut
    have S10 := Lib.hid (S9.out.below hbx)
    have OW10 := Lib.hid (OW9.out.later hbx)
    have B10 := Lib.hid (B9.out.trans (hbx.mono B9.out.size))
    clear hbx S9 OW9 B9 OZ9 T9 CX HZZ X9
    go_upto_region 8 with fail
    have FS8 := Lib.hid (show ∀ W, Below wc.heap.size wc W → W.cell? ⟨gs, 0, none⟩ = some (.int .i64 (m : Nat)) ∧ W.cell? ⟨gs, 1, none⟩ = some (.int .u8 (acc : Nat)) ∧ W.cell? ⟨gs, 2, none⟩ = some (.slice va rs.length vc) from fun W h => (S10.out.below h).cells)
    refine wp_normal ?_
    refine wp_region_inv2 10 (by kernel_rfl) (by kernel_rfl) (by kernel_rfl) (fun listed a W => ∃ f : Nat → Value, a = ({ tmps := #[Value.agg #[Value.int IntKind.u8 ↑M, Value.int IntKind.u8 ↑A, Value.slice ma mn mc], Value.int IntKind.u8 ↑k, Value.slice la ln lc, Value.pointer (some { block := w.heap.size, off := 0 }), undef, undef, Value.bool false, Value.bool true, Value.pointer (some { block := gs, off := 0 }), Value.int IntKind.i64 ↑i, Value.pointer (some { block := gt, off := 0 }), f 9, undef, undef, undef, u15, u16, u17, u18, u19, u20, u21, u22, u23, u24, u25, u26, u27, u28, u29, u30, u31, u32, u33, u34, u35, u36, u37, u38, u39, u40, u41, u42, u43, u44, u45, u46, u47, u48, u49, u50, u51, u52, u53, u54, u55, u56, u57, Value.bool false, f 0, f 1, f 2, f 3, f 4, f 5, f 6, f 7, f 8, u68, u69, u70, u71, u72, u73, u74, u75, u76, u77, u78, u79, u80, u81, u82, u83, u84, u85, u86, u87, u88, u89, u90, u91, u92, u93, u94, u95, u96, u97, u98, u99, u100, u101, u102, u103, u104, u105, u106, u107, u108, u109, u110, u111, u112, u113, u114, u115, u116, u117, u118, u119, u120, u121, u122, u123, u124, u125, u126, u127, u128, u129, u130, u131, u132, u133, u134, u135, u136, u137, u138, u139, u140], defers := [] } : Act) ∧ Below wc.heap.size wc W ∧ DAll wc.heap.size gs m acc va vc rs listed W f) ?_ ?_ ?_
    · exact ⟨fun j => match j with | 0 => u59 | 1 => u60 | 2 => u61 | 3 => u62 | 4 => u63 | 5 => u64 | 6 => u65 | 7 => u66 | 8 => u67 | 9 => undef | _ => undef, rfl, (Below.refl _ _).drew, fun j _ h => (none_listed h).elim⟩
    · rintro listed a W i ⟨f, rfl, hb, hF⟩ hr hi
      have hbs : wc.heap.size ≤ W.heap.size := hb.size
      obtain ⟨f0, f1, f2⟩ := FS8.out W hb
      have hE := heap_alloc_new W (.cells #[] 31)
      have hal := (Below.refl W.heap.size W).alloc (Nat.le_refl _) (.cells #[] 31)
      rcases (show i = 0 ∨ i = 1 ∨ i = 2 ∨ i = 3 ∨ i = 4 ∨ i = 5 ∨ i = 6 ∨ i = 7 ∨ i = 8 ∨ i = 9 by omega) with rfl | rfl | rfl | rfl | rfl | rfl | rfl | rfl | rfl | rfl
      · exact wpOp_value (w' := W) (.pointer (some ⟨gs, 0, none⟩)) rfl rfl (by go_simp) ⟨upd f 0 (.pointer (some ⟨gs, 0, none⟩)), by kernel_rfl, dstep hb hbs hF (Below.refl _ _) rfl⟩
      · have d0 : f 0 = _ := hF 0 (by decide) (ready_dep hr rfl (k := 0) (by kernel_rfl))
        exact wpOp_value (w' := W) (.int .i64 (m : Nat)) rfl rfl (by rw [d0]; go_simp) ⟨upd f 1 (.int .i64 (m : Nat)), by kernel_rfl, dstep hb hbs hF (Below.refl _ _) rfl⟩
      · exact wpOp_value (w' := W) (.pointer (some ⟨gs, 1, none⟩)) rfl rfl (by go_simp) ⟨upd f 2 (.pointer (some ⟨gs, 1, none⟩)), by kernel_rfl, dstep hb hbs hF (Below.refl _ _) rfl⟩
      · have d0 : f 2 = _ := hF 2 (by decide) (ready_dep hr rfl (k := 2) (by kernel_rfl))
        exact wpOp_value (w' := W) (.int .u8 (acc : Nat)) rfl rfl (by rw [d0]; go_simp) ⟨upd f 3 (.int .u8 (acc : Nat)), by kernel_rfl, dstep hb hbs hF (Below.refl _ _) rfl⟩
      · exact wpOp_value (w' := W.alloc (.cells #[] 31)) (.slice (some ⟨W.heap.size, 0, none⟩) 0 0) rfl rfl (by go_simp) ⟨upd f 4 (.slice (some ⟨W.heap.size, 0, none⟩) 0 0), by kernel_rfl, dstep hb hbs hF hal ⟨_, rfl, hbs, hE⟩⟩
      · exact wpOp_value (w' := W) (.pointer (some ⟨gs, 2, none⟩)) rfl rfl (by go_simp) ⟨upd f 5 (.pointer (some ⟨gs, 2, none⟩)), by kernel_rfl, dstep hb hbs hF (Below.refl _ _) rfl⟩
      · have d0 : f 5 = _ := hF 5 (by decide) (ready_dep hr rfl (k := 5) (by kernel_rfl))
        exact wpOp_value (w' := W) (.slice va rs.length vc) rfl rfl (by rw [d0]; go_simp) ⟨upd f 6 (.slice va rs.length vc), by kernel_rfl, dstep hb hbs hF (Below.refl _ _) rfl⟩
      · obtain ⟨g, d0, hg1, hg2⟩ := hF 4 (by decide) (ready_dep hr rfl (k := 4) (by kernel_rfl))
        have d1 : f 6 = _ := hF 6 (by decide) (ready_dep hr rfl (k := 6) (by kernel_rfl))
        obtain ⟨v', W', hrun, hown, hbb⟩ := clone_rls hg2 hg1 (OW10.out.later hb) (by omega)
        exact wpOp_value (w' := W') v' rfl rfl (by rw [d0, d1]; simp [execOp, resolve, invoke, builtin, Act.eval, hrun, Result.andThen]) ⟨upd f 7 v', by kernel_rfl, dstep hb hbs hF hbb hown⟩
      · have d1 : f 1 = _ := hF 1 (by decide) (ready_dep hr rfl (k := 1) (by kernel_rfl))
        have d3 : f 3 = _ := hF 3 (by decide) (ready_dep hr rfl (k := 3) (by kernel_rfl))
        have o1 : RlsOwn W wc.heap.size (f 7) rs := hF 7 (by decide) (ready_dep hr rfl (k := 7) (by kernel_rfl))
        obtain ⟨p1, q1, e1⟩ := o1.shape
        exact wpOp_value (w' := W) (.agg #[.int .i64 (m : Nat), .int .u8 (acc : Nat), .slice p1 rs.length q1]) rfl rfl (by rw [d1, d3, e1]; go_simp) ⟨upd f 8 _, by kernel_rfl, dstep hb hbs hF (Below.refl _ _) ⟨p1, q1, rfl, by rw [← e1]; exact o1⟩⟩
      · exact wpOp_value (w' := W.alloc (.cells #[.int .i64 0, .int .u8 0, .slice none 0 0] 28)) (.pointer (some ⟨W.heap.size, 0, none⟩)) rfl rfl (by go_simp) ⟨upd f 9 (.pointer (some ⟨W.heap.size, 0, none⟩)), by kernel_rfl, dstep hb hbs hF ((Below.refl W.heap.size W).alloc (Nat.le_refl _) _) ⟨_, rfl, hbs, SchBlock.new W _ _ _⟩⟩
    rintro listed a W ⟨f, rfl, hb, hF⟩ hall
    obtain ⟨p8, q8, e8, o8⟩ := hF 8 (by decide) (hall 8 (by decide))
    obtain ⟨gu, e9, hg9, sb9⟩ := hF 9 (by decide) (hall 9 (by decide))
    clear hF hall
    rw [e8, e9]
    clear e8 e9
    generalize f 0 = z8_0 at *
    generalize f 1 = z8_1 at *
    generalize f 2 = z8_2 at *
    generalize f 3 = z8_3 at *
    generalize f 4 = z8_4 at *
    generalize f 5 = z8_5 at *
    generalize f 6 = z8_6 at *
    generalize f 7 = z8_7 at *
    refine wpOp_of_list rfl rfl ?_ (fun _ _ h => h)
    refine wpList_store_sch rfl _ _ rfl _ _ _ _ sb9 rfl (m : Int) (acc : Int) p8 rs.length q8 rfl ?_
    intro W11 SB hg' hs'
    refine ⟨rfl, ?_⟩
    have hd := hb.grown hg' hb.size (fun k hk => by have := Option.some.inj hk; omega)
    have O8 := Lib.hid (o8.keptNe hg' (fun k hk e => rl_ne_sch o8 sb9 k hk (Option.some.inj e).symm))
    have T8 := Lib.hid SB
    have D8 := Lib.hid hd
    have hG8 : wc.heap.size ≤ gu := hg9
    clear hb hd o8 sb9 SB hg' hs' hg9
    have OU := Lib.hid O8.out
    obtain ⟨t0, t1, t2⟩ := T8.out.cells
    have S11 := Lib.hid (S10.out.below D8.out)
    have OW11 := Lib.hid (OW10.out.later D8.out)
    have B11 := Lib.hid (B10.out.trans (D8.out.mono B10.out.size))
    have ZR := Lib.hid (show ZRel wc gu m acc rs 0 W11 from ⟨[], p8, q8, by rw [List.append_nil]; exact T8.out, by rw [List.append_nil]; exact O8.out, by rw [List.append_nil]; exact HV.out, ZUp.nil HS.out, D8.out⟩)
    have s0n := S11.out.cells.1
    have S10w := S10
    have B10w := B10
    have OW10w := OW10
    clear S10 OW10 B10 D8 O8 T8 OU
    go_wp2_with fail
    clear t0 t1 t2 s0n
    go_loopw [12] (fun iv wr => ∃ n : Nat, iv = .int .i64 (n : Nat) ∧ n ≤ ln ∧ n ≤ 6 ∧ ZRel wc gu m acc rs n wr) (fun iv _ => 6 - (intOf iv).toNat)
    case atStart => exact ⟨0, rfl, Nat.zero_le _, Nat.zero_le _, ZR.out⟩
    case round =>
      obtain ⟨n, rfl, hnl, hn6, ys, pa, pc, hsb, hown, hval, hup, hbx⟩ := hrel
      obtain ⟨r2, hr2⟩ : ∃ r2, r2 = rs ++ ys := ⟨_, rfl⟩
      rw [← hr2] at hsb hown hval
      have HR2 := Lib.hid hr2
      have hlen : r2.length ≤ 18 := by rw [hr2, List.length_append, hup.2.1]; omega
      clear hr2
      have SB := Lib.hid hsb
      have HO := Lib.hid hown
      have HW := Lib.hid hval
      have HU := Lib.hid hup
      have HB := Lib.hid hbx
      have HB1 := Lib.hid (show Below w.heap.size w wr from B10w.out.trans (hbx.mono B10w.out.size))
      have SX := Lib.hid (S10w.out.below hbx)
      have OWX := Lib.hid (OW10w.out.later hbx)
      clear ZR hsb hown hval hup hbx
      have n0 : (0 : Int) ≤ (n : Int) := by omega
      by_cases h1 : n < ln
      · have h1' : (n : Int) < (ln : Int) := by omega
        by_cases h2 : n < 6
        · have h2' : (n : Int) < 6 := by omega
          have w1 : IntKind.i64.wrap ((n : Int) + 1) = (n : Int) + 1 := IntWalk.i64_in _ (by omega)
          go_upto_region 13 with fail
          obtain ⟨c, hc⟩ : ∃ c : UInt8, c = (97 + n).toUInt8 := ⟨_, rfl⟩
          have HC := Lib.hid hc
          rw [letter_cut h2, ← hc]
          have hcat := letter_cat c
          have hsz : 1 + (B [c]).size ≤ 9223372036854775807 := by
            show 1 + 1 ≤ 9223372036854775807
            decide
          obtain ⟨a0, c0, hv, hP⟩ := HY.out.on HB1.out
          obtain ⟨rfl, -⟩ : la = a0 ∧ lc = c0 := by simpa using hv
          obtain ⟨bb, oo, rfl, hbb, hq⟩ := hP (by omega)
          obtain ⟨X, Y, Z, ⟨hX, hY, hZ⟩, c1, c2, c3⟩ := hq n h1
          clear hv hP hq hc w1
          obtain ⟨sN, hsN⟩ : ∃ q : Nat, q = X % m := ⟨_, rfl⟩
          obtain ⟨dN, hdN⟩ : ∃ q : Nat, q = Y % m := ⟨_, rfl⟩
          have e1 : (X : Int).tmod (m : Int) = (sN : Int) := by rw [Int.tmod_eq_emod_of_nonneg (by omega), hsN, Int.natCast_emod]
          have e2 : (Y : Int).tmod (m : Int) = (dN : Int) := by rw [Int.tmod_eq_emod_of_nonneg (by omega), hdN, Int.natCast_emod]
          have hs5 : sN < m := by rw [hsN]; exact Nat.mod_lt _ hm.1
          have hd5 : dN < m := by rw [hdN]; exact Nat.mod_lt _ hm.1
          have w1 : IntKind.i64.wrap (X : Int) = (X : Int) := IntWalk.i64_in _ (by omega)
          have w2 : IntKind.i64.wrap (Y : Int) = (Y : Int) := IntWalk.i64_in _ (by omega)
          have w3 : IntKind.i64.wrap (Z : Int) = (Z : Int) := IntWalk.i64_in _ (by omega)
          have w4 : IntKind.i64.wrap (sN : Int) = (sN : Int) := IntWalk.i64_in _ (by omega)
          have w6 : IntKind.i64.wrap (dN : Int) = (dN : Int) := IntWalk.i64_in _ (by omega)
          have FW := Lib.hid (show ∀ W, Below wr.heap.size wr W → W.cell? ⟨gs, 0, none⟩ = some (.int .i64 (m : Nat)) ∧ W.cell? ⟨gu, 2, none⟩ = some (.slice pa r2.length pc) ∧ W.cell? ⟨bb, oo + n * 3, none⟩ = some (.int .u8 (X : Nat)) ∧ W.cell? ⟨bb, oo + n * 3 + 1, none⟩ = some (.int .u8 (Y : Nat)) ∧ W.cell? ⟨bb, oo + n * 3 + 2, none⟩ = some (.int .u8 (Z : Nat)) from fun W hW =>
            ⟨((SX.out.below hW).cells).1, (SB.out.below hW).cells.2.2, (hW.cell (p := ⟨bb, _, none⟩) hbb).trans c1, (hW.cell (p := ⟨bb, _, none⟩) hbb).trans c2, (hW.cell (p := ⟨bb, _, none⟩) hbb).trans c3⟩)
          clear hsN hdN c1 c2 c3
          refine wp_normal ?_
          refine wp_region_pick (C := fun W => Below wr.heap.size wr W) [0, 1, 2, 3, 4, 5, 6, 7, 8, 9, 10, 11, 12, 13, 14, 15, 16, 17, 18, 19, 20, 21, 22, 23, 24, 25, 26, 27, 28] [29, 30, 31, 32] (fun j => decide (30 ≤ j)) (by kernel_rfl) (by kernel_rfl) (by kernel_rfl) rfl (by kernel_rfl) (Below.refl _ _).drew (fun c d v a w h => by cases h.1) ?_
          refine hoistI_step (.pointer (some ⟨gu, 2, none⟩)) rfl (fun W hW => by obtain ⟨f0, f1, f2, f3, f4⟩ := FW.out W hW; go_simp) ?_
          refine hoistI_step (.slice pa r2.length pc) rfl (fun W hW => by obtain ⟨f0, f1, f2, f3, f4⟩ := FW.out W hW; go_simp) ?_
          refine hoistI_step (.slice (some ⟨bb, oo, none⟩) ln lc) rfl (fun W hW => by obtain ⟨f0, f1, f2, f3, f4⟩ := FW.out W hW; go_simp) ?_
          refine hoistI_step (.int .i64 (n : Nat)) rfl (fun W hW => by obtain ⟨f0, f1, f2, f3, f4⟩ := FW.out W hW; go_simp) ?_
          refine hoistI_step (.pointer (some ⟨bb, oo + n * 3, none⟩)) rfl (fun W hW => by obtain ⟨f0, f1, f2, f3, f4⟩ := FW.out W hW; go_simp) ?_
          refine hoistI_step (.pointer (some ⟨bb, oo + n * 3, none⟩)) rfl (fun W hW => by obtain ⟨f0, f1, f2, f3, f4⟩ := FW.out W hW; go_simp) ?_
          refine hoistI_step (.int .u8 (X : Nat)) rfl (fun W hW => by obtain ⟨f0, f1, f2, f3, f4⟩ := FW.out W hW; go_simp) ?_
          refine hoistI_step (.int .i64 (X : Nat)) rfl (fun W hW => by obtain ⟨f0, f1, f2, f3, f4⟩ := FW.out W hW; go_simp) ?_
          refine hoistI_step (.pointer (some ⟨gs, 0, none⟩)) rfl (fun W hW => by obtain ⟨f0, f1, f2, f3, f4⟩ := FW.out W hW; go_simp) ?_
          refine hoistI_step (.int .i64 (m : Nat)) rfl (fun W hW => by obtain ⟨f0, f1, f2, f3, f4⟩ := FW.out W hW; go_simp) ?_
          refine hoistI_step (.int .i64 (sN : Nat)) rfl (fun W hW => by obtain ⟨f0, f1, f2, f3, f4⟩ := FW.out W hW; go_simp) ?_
          refine hoistI_step (.slice (some ⟨bb, oo, none⟩) ln lc) rfl (fun W hW => by obtain ⟨f0, f1, f2, f3, f4⟩ := FW.out W hW; go_simp) ?_
          refine hoistI_step (.int .i64 (n : Nat)) rfl (fun W hW => by obtain ⟨f0, f1, f2, f3, f4⟩ := FW.out W hW; go_simp) ?_
          refine hoistI_step (.pointer (some ⟨bb, oo + n * 3, none⟩)) rfl (fun W hW => by obtain ⟨f0, f1, f2, f3, f4⟩ := FW.out W hW; go_simp) ?_
          refine hoistI_step (.pointer (some ⟨bb, oo + n * 3 + 1, none⟩)) rfl (fun W hW => by obtain ⟨f0, f1, f2, f3, f4⟩ := FW.out W hW; go_simp) ?_
          refine hoistI_step (.int .u8 (Y : Nat)) rfl (fun W hW => by obtain ⟨f0, f1, f2, f3, f4⟩ := FW.out W hW; go_simp) ?_
          refine hoistI_step (.int .i64 (Y : Nat)) rfl (fun W hW => by obtain ⟨f0, f1, f2, f3, f4⟩ := FW.out W hW; go_simp) ?_
          refine hoistI_step (.pointer (some ⟨gs, 0, none⟩)) rfl (fun W hW => by obtain ⟨f0, f1, f2, f3, f4⟩ := FW.out W hW; go_simp) ?_
          refine hoistI_step (.int .i64 (m : Nat)) rfl (fun W hW => by obtain ⟨f0, f1, f2, f3, f4⟩ := FW.out W hW; go_simp) ?_
          refine hoistI_step (.int .i64 (dN : Nat)) rfl (fun W hW => by obtain ⟨f0, f1, f2, f3, f4⟩ := FW.out W hW; go_simp) ?_
          refine hoistI_step (.string (B [c])) rfl (fun W hW => by obtain ⟨f0, f1, f2, f3, f4⟩ := FW.out W hW; go_simp) ?_
          refine hoistI_step (.string (B [122, c])) rfl (fun W hW => by rw [← hcat]; go_simp) ?_
          refine hoistI_step (.slice (some ⟨bb, oo, none⟩) ln lc) rfl (fun W hW => by obtain ⟨f0, f1, f2, f3, f4⟩ := FW.out W hW; go_simp) ?_
          refine hoistI_step (.int .i64 (n : Nat)) rfl (fun W hW => by obtain ⟨f0, f1, f2, f3, f4⟩ := FW.out W hW; go_simp) ?_
          refine hoistI_step (.pointer (some ⟨bb, oo + n * 3, none⟩)) rfl (fun W hW => by obtain ⟨f0, f1, f2, f3, f4⟩ := FW.out W hW; go_simp) ?_
          refine hoistI_step (.pointer (some ⟨bb, oo + n * 3 + 2, none⟩)) rfl (fun W hW => by obtain ⟨f0, f1, f2, f3, f4⟩ := FW.out W hW; go_simp) ?_
          refine hoistI_step (.int .u8 (Z : Nat)) rfl (fun W hW => by obtain ⟨f0, f1, f2, f3, f4⟩ := FW.out W hW; go_simp) ?_
          refine hoistI_step (.int .i64 (Z : Nat)) rfl (fun W hW => by obtain ⟨f0, f1, f2, f3, f4⟩ := FW.out W hW; go_simp) ?_
          refine hoistI_step (.agg #[.int .i64 (sN : Nat), .int .i64 (dN : Nat), .string (B [122, c]), .string ⟨#[]⟩, .int .i64 (Z : Nat)]) rfl (fun W hW => by obtain ⟨f0, f1, f2, f3, f4⟩ := FW.out W hW; go_simp) ?_
          refine hoistI_done (seqI_step ?_)
          have D1 := (Below.refl wr.heap.size wr).drew
          obtain ⟨y, hy⟩ : ∃ y : Rl, y = zR sN dN n Z := ⟨_, rfl⟩
          have HYY := Lib.hid hy
          have eqy : (rlCells y).toArray = #[.int .i64 (sN : Nat), .int .i64 (dN : Nat), .string (B [122, c]), .string ⟨#[]⟩, .int .i64 (Z : Nat)] := by rw [hy, HC.out]; rfl
          have al := D1.alloc D1.size (.cells (rlCells y).toArray 31)
          have NW := heap_alloc_new wr.drew (.cells (rlCells y).toArray 31)
          refine wpOp_value (w' := wr.drew.alloc (.cells (rlCells y).toArray 31)) (.slice (some ⟨wr.drew.heap.size, 0, none⟩) 1 1) rfl rfl (by rw [eqy]; go_simp) ⟨fun _ => al, ?_⟩
          refine seqI_tail 30 _ (by rfl) (by kernel_rfl) (by decide) ?_
          simp only [List.drop_succ_cons, List.drop_zero]
          have hsize := al.size
          generalize wr.drew.alloc (.cells (rlCells y).toArray 31) = x9 at *
          generalize wr.drew.heap.size = gn at *
          have HO9 := Lib.hid (HO.out.later al)
          have SB9 := Lib.hid (SB.out.below al)
          have HB9 := Lib.hid (HB.out.trans (al.mono HB.out.size))
          have hwc9 : wc.heap.size ≤ x9.heap.size := HB9.out.size
          clear al D1 FW hy hsize HO SB HB w1 w2 w3 w4 w6 e1 e2 hsz hcat
          refine wpList_append_rls rfl _ _ rfl wc.heap.size (.slice pa r2.length pc) r2 (by go_simp) HO9.out y gn (by go_simp) NW (by omega) hwc9 ?_
          intro g8 c8 W8 own8 grow8
          have T8 := SB9.out.keptBy grow8 (fun e => rl_ne_sch HO9.out SB9.out _ e rfl)
          obtain ⟨t0, t1, t2⟩ := T8.cells
          have tf := T8.free
          have HB10 := Lib.hid ((HB9.out.grown grow8 HB9.out.size (fun q hq => (HO9.out.lt q hq).1)).setCell (p := ⟨gu, 2, none⟩) hG8 (.slice (some ⟨g8, 0, none⟩) (r2.length + 1) c8))
          have T10 := Lib.hid (T8.put2 (v := .slice (some ⟨g8, 0, none⟩) (r2.length + 1) c8))
          have HO10 := Lib.hid (own8.keep1 (W' := W8.setCell ⟨gu, 2, none⟩ (.slice (some ⟨g8, 0, none⟩) (r2.length + 1) c8)) (heap_setCell_other _ _ _ _ (rl_ne_sch own8 T8 g8 rfl)))
          have ZN := Lib.hid (show ZRel wc gu m acc rs (n + 1) (W8.setCell ⟨gu, 2, none⟩ (.slice (some ⟨g8, 0, none⟩) (r2.length + 1) c8)) from by
            have e5 : rs ++ (ys ++ [zR sN dN n Z]) = r2 ++ [y] := by rw [HYY.out, HR2.out, List.append_assoc]
            have e6 : (rs ++ (ys ++ [zR sN dN n Z])).length = r2.length + 1 := by rw [e5]; simp
            have hv2 : validB m acc (rs ++ (ys ++ [zR sN dN n Z])) = true := z_valid (by rw [← HR2.out]; exact HW.out) HU.out hl12 h2 hs5 hd5 (by omega)
            refine ⟨ys ++ [zR sN dN n Z], some ⟨g8, 0, none⟩, c8, ?_, ?_, hv2, HU.out.add, HB10.out⟩
            · rw [e6]; exact T10.out
            · rw [e6, e5]; exact HO10.out)
          clear HB10 T10 HO10 T8 own8 grow8 HO9 SB9 HB9 NW
          go_upto_region 11 with fail
          clear t0 t1 t2 tf
          generalize W8.setCell _ _ = W10 at *
          go_wp2_with fail
          go_roundw
          case rel => exact ⟨n + 1, by go_num, by omega, by omega, ZN.out⟩
          case measure => simp [intOf]; omega
        · have h2' : ¬ (n : Int) < 6 := by omega
          obtain ⟨s0, s1, s2⟩ := SX.out.cells
          obtain ⟨t0, t1, t2⟩ := SB.out.cells
          have XS := Lib.hid (OWX.out)
          obtain ⟨aa, cc, hvv, hcs, hat⟩ := XS.out.at
          obtain ⟨rfl, rfl⟩ : va = aa ∧ vc = cc := by simpa using hvv
          have XA := Lib.hid hat
          clear hvv hat
          obtain ⟨ss, hss⟩ : ∃ ss, ss = soundC m acc rs := ⟨_, rfl⟩
          have CS := Lib.hid (RSound_any m acc va vc rs wr h256 XA.out (by omega) HSM.out)
          rw [← hss] at CS
          have HSS := Lib.hid hss
          clear hss HX HY
          go_wp2_with fail
          refine (CS.out).mono ?_
          rintro e xd ⟨rfl, hbd⟩
          have BD := Lib.hid (HB1.out.trans (hbd.mono HB1.out.size))
          obtain ⟨t0', t1', t2'⟩ := (SB.out.below hbd).cells
          have SXD := Lib.hid (SX.out.below hbd)
          have XAD := Lib.hid (XA.out.on hbd)
          obtain ⟨ab, cb, hvb, hcb, hab⟩ := HO.out.at
          obtain ⟨rfl, rfl⟩ : pa = ab ∧ pc = cb := by simpa using hvb
          have ZAD := Lib.hid ((show RlsAt wr wr.heap.size (.slice pa r2.length pc) r2 from hab).on hbd)
          have SBD := Lib.hid (SB.out.below hbd)
          clear s0 s1 s2 t0 t1 t2 hvb hab hbd CS
          by_cases hz : ss = 0
          · have hs0 : soundC m acc rs = 0 := HSS.out.symm.trans hz
            have hz1 : (ss != 0) = false := by simp [hz]
            have H3 := Lib.hid (sound_more (ys := ys) HV.out (by rw [← HR2.out]; exact HW.out) (HU.out.noIn) hs0)
            rw [← HR2.out] at H3
            have CU := Lib.hid (Sound_any m acc pa pc r2 xd (HT.out.below BD.out H0.out) (Nat.lt_of_lt_of_le H0.out BD.out.size) (by omega) h256 ZAD.out hcb (by omega) (ok_lens HW.out))
            obtain ⟨su, hsu⟩ : ∃ su, su = soundC m acc r2 := ⟨_, rfl⟩
            rw [← hsu] at CU H3
            clear hz hs0 hsu
            go_wp2_with fail
            refine (CU.out).mono ?_
            rintro e xe ⟨rfl, hbe⟩
            have BE := Lib.hid (BD.out.trans (hbe.mono BD.out.size))
            clear t0' t1' t2'
            obtain ⟨t0, t1, t2⟩ := (SBD.out.below hbe).cells
            have CV := Lib.hid (RValid_any (m : Int) (acc : Int) pa pc r2 xe (ZAD.out.on hbe) (by unfold maxLen; omega) (ok_lens HW.out) (by omega) (by omega))
            rw [HW.out] at CV
            have SXE := Lib.hid (SXD.out.below hbe)
            have XAE := Lib.hid (XAD.out.on hbe)
            clear hbe CU
            go_wp2_with fail
            refine (CV.out).mono ?_
            rintro e xf ⟨rfl, hbf⟩
            have BF := Lib.hid (BE.out.trans (hbf.mono BE.out.size))
            obtain ⟨s0, s1, s2⟩ := (SXE.out.below hbf).cells
            have CL := Lib.hid (LSilent_any m acc va vc rs xf (XAE.out.on hbf) (by unfold maxLen; omega))
            clear t0 t1 t2 hbf CV
            rcases H3.out with rfl | rfl | ⟨rfl, hmu⟩
            · go_wp2_with fail
              go_ret
              exact ⟨rfl, BF.out⟩
            · go_wp2_with fail
              go_ret
              exact ⟨rfl, BF.out⟩
            · have hd : ∀ q, (@decide (Mute rs) q) = true := fun q => decide_eq_true hmu
              rw [hd] at CL
              clear hd
              go_wp2_with fail
              refine (CL.out).mono ?_
              rintro e xg ⟨rfl, hbg⟩
              have BG := Lib.hid (BF.out.trans (hbg.mono BF.out.size))
              clear hbg
              go_wp2_with fail
              go_ret
              exact ⟨rfl, BG.out⟩
          · have hz1 : (ss != 0) = true := by simpa using hz
            go_wp2_with fail
            go_ret
            exact ⟨rfl, BD.out⟩
      · have h1' : ¬ (n : Int) < (ln : Int) := by omega
        obtain ⟨s0, s1, s2⟩ := SX.out.cells
        obtain ⟨t0, t1, t2⟩ := SB.out.cells
        have XS := Lib.hid (OWX.out)
        obtain ⟨aa, cc, hvv, hcs, hat⟩ := XS.out.at
        obtain ⟨rfl, rfl⟩ : va = aa ∧ vc = cc := by simpa using hvv
        have XA := Lib.hid hat
        clear hvv hat
        obtain ⟨ss, hss⟩ : ∃ ss, ss = soundC m acc rs := ⟨_, rfl⟩
        have CS := Lib.hid (RSound_any m acc va vc rs wr h256 XA.out (by omega) HSM.out)
        rw [← hss] at CS
        have HSS := Lib.hid hss
        clear hss HX HY
        go_wp2_with fail
        refine (CS.out).mono ?_
        rintro e xd ⟨rfl, hbd⟩
        have BD := Lib.hid (HB1.out.trans (hbd.mono HB1.out.size))
        obtain ⟨t0', t1', t2'⟩ := (SB.out.below hbd).cells
        have SXD := Lib.hid (SX.out.below hbd)
        have XAD := Lib.hid (XA.out.on hbd)
        obtain ⟨ab, cb, hvb, hcb, hab⟩ := HO.out.at
        obtain ⟨rfl, rfl⟩ : pa = ab ∧ pc = cb := by simpa using hvb
        have ZAD := Lib.hid ((show RlsAt wr wr.heap.size (.slice pa r2.length pc) r2 from hab).on hbd)
        have SBD := Lib.hid (SB.out.below hbd)
        clear s0 s1 s2 t0 t1 t2 hvb hab hbd CS
        by_cases hz : ss = 0
        · have hs0 : soundC m acc rs = 0 := HSS.out.symm.trans hz
          have hz1 : (ss != 0) = false := by simp [hz]
          have H3 := Lib.hid (sound_more (ys := ys) HV.out (by rw [← HR2.out]; exact HW.out) (HU.out.noIn) hs0)
          rw [← HR2.out] at H3
          have CU := Lib.hid (Sound_any m acc pa pc r2 xd (HT.out.below BD.out H0.out) (Nat.lt_of_lt_of_le H0.out BD.out.size) (by omega) h256 ZAD.out hcb (by omega) (ok_lens HW.out))
          obtain ⟨su, hsu⟩ : ∃ su, su = soundC m acc r2 := ⟨_, rfl⟩
          rw [← hsu] at CU H3
          clear hz hs0 hsu
          go_wp2_with fail
          refine (CU.out).mono ?_
          rintro e xe ⟨rfl, hbe⟩
          have BE := Lib.hid (BD.out.trans (hbe.mono BD.out.size))
          clear t0' t1' t2'
          obtain ⟨t0, t1, t2⟩ := (SBD.out.below hbe).cells
          have CV := Lib.hid (RValid_any (m : Int) (acc : Int) pa pc r2 xe (ZAD.out.on hbe) (by unfold maxLen; omega) (ok_lens HW.out) (by omega) (by omega))
          rw [HW.out] at CV
          have SXE := Lib.hid (SXD.out.below hbe)
          have XAE := Lib.hid (XAD.out.on hbe)
          clear hbe CU
          go_wp2_with fail
          refine (CV.out).mono ?_
          rintro e xf ⟨rfl, hbf⟩
          have BF := Lib.hid (BE.out.trans (hbf.mono BE.out.size))
          obtain ⟨s0, s1, s2⟩ := (SXE.out.below hbf).cells
          have CL := Lib.hid (LSilent_any m acc va vc rs xf (XAE.out.on hbf) (by unfold maxLen; omega))
          clear t0 t1 t2 hbf CV
          rcases H3.out with rfl | rfl | ⟨rfl, hmu⟩
          · go_wp2_with fail
            go_ret
            exact ⟨rfl, BF.out⟩
          · go_wp2_with fail
            go_ret
            exact ⟨rfl, BF.out⟩
          · have hd : ∀ q, (@decide (Mute rs) q) = true := fun q => decide_eq_true hmu
            rw [hd] at CL
            clear hd
            go_wp2_with fail
            refine (CL.out).mono ?_
            rintro e xg ⟨rfl, hbg⟩
            have BG := Lib.hid (BF.out.trans (hbg.mono BF.out.size))
            clear hbg
            go_wp2_with fail
            go_ret
            exact ⟨rfl, BG.out⟩
        · have hz1 : (ss != 0) = true := by simpa using hz
          go_wp2_with fail
          go_ret
          exact ⟨rfl, BD.out⟩
end Go.Proofs.YtadaijepalhohabDoor

namespace Go.Proofs.YtadaijepalhohabDoor
open Go.ChangeShapes Go.WideShapes Go.ChangeAt Go.RowKit Go.ChangeMaps

theorem rec22 : Tryd.prog.readableRec 22 = true := by kernel_rfl
theorem row22 : 22 < Tryd.prog.types.size := of_decide_eq_true (by kernel_rfl)
set_option maxRecDepth 100000 in
theorem open_tThrees {H : Type} {enc : TypeId × Value → H} {W : World} {r : Reach} {base : Nat} {v : Value} {d : DataW H} {p : List MemPlace} (hv : Value.okWide Tryd.prog W r base 22 v) (h : DataW.Trod enc Tryd.prog W 0 (fun _ => true) true 22 v d p) :
    ∃ o : Option Addr × Nat × Nat, v = .slice o.1 o.2.1 o.2.2 ∧ TrisAt W W.heap.size (.slice o.1 o.2.1 o.2.2) o.2.1 := by
  obtain ⟨a0, n0, c0, rfl⟩ := okWide_slice Tryd.underlying22 hv
  obtain ⟨fuel, hf⟩ := h
  have hf' : DataW.trod enc Tryd.prog W 0 (fun _ => true) true fuel 22 [.slice a0 n0 c0] = some (d, p) := hf
  obtain ⟨a, n, c, he, hl, hx⟩ := tris_open hf'
  obtain ⟨rfl, rfl, rfl⟩ : a0 = a ∧ n0 = n ∧ c0 = c := by simpa using he
  exact ⟨(a0, n0, c0), rfl, hx⟩
set_option maxRecDepth 100000 in
theorem back_tThrees {H : Type} {enc : TypeId × Value → H} {W W' : World} {v : Value} {d : DataW H} {p : List MemPlace} (h : DataW.Trod enc Tryd.prog W 0 (fun _ => true) true 22 v d p) (hb : Below W.heap.size W W') :
    DataW.Trod enc Tryd.prog W' 0 (fun b => decide (b < W.heap.size)) true 22 v d p :=
  Below.trod raw_out rec22 row22 h hb (DataW.TrodAll.lt (trodAll_mk1 h))
theorem adds_any (o : Nat × Nat × Option Addr × Nat × Nat) (k : Int) (q : Option Addr × Nat × Nat) (w : World) (hT : StrTab w) (h0 : 0 < w.heap.size) (ho : o.1 < 256 ∧ o.2.1 < 256 ∧ o.2.2.2.1 ≤ maxLen ∧ TrisAt w w.heap.size (.slice o.2.2.1 o.2.2.2.1 o.2.2.2.2) o.2.2.2.1) (hk : 0 ≤ k ∧ k ≤ 255) (hq : TrisAt w w.heap.size (.slice q.1 q.2.1 q.2.2) q.2.1) :
    Calls Tryd.prog 3 #[.agg #[.int .u8 (o.1 : Nat), .int .u8 (o.2.1 : Nat), .slice o.2.2.1 o.2.2.2.1 o.2.2.2.2], .int .u8 k, .slice q.1 q.2.1 q.2.2] w fun e w' => e = .returned (.bool true) ∧ Below w.heap.size w w' := by
  obtain ⟨z, rfl⟩ : ∃ z : Nat, k = (z : Int) := ⟨k.toNat, by omega⟩
  exact FlawAdds_any o.1 o.2.1 z o.2.2.1 o.2.2.2.1 o.2.2.2.2 q.1 q.2.1 q.2.2 w hT h0 ho.1 ho.2.1 (by omega) ho.2.2.2 ho.2.2.1 hq
end Go.Proofs.YtadaijepalhohabDoor
