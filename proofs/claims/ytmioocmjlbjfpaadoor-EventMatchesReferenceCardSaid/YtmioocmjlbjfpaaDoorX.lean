/-
  The reference's SameAll, at equal lists.
-/
import Derived.Test.YtmioocmjlbjfpaaDoorW
namespace Go.Proofs.YtmioocmjlbjfpaaDoor
open Go.RowKit
open Pl

/-- The slice v reads as the events evs. -/
def EvsAt (W : World) (v : Value) (evs : List Ev) : Prop :=
  ∃ a c, v = .slice a evs.length c ∧ (0 < evs.length → ∃ b off, a = some ⟨b, off, none⟩ ∧ b < W.heap.size ∧ ∀ i (h : i < evs.length), ∃ pa pc,
    W.cell? ⟨b, off + i * 6, none⟩ = some (.int .i64 evs[i].kind) ∧ W.cell? ⟨b, off + i * 6 + 1, none⟩ = some (.string (B evs[i].keys)) ∧ W.cell? ⟨b, off + i * 6 + 2, none⟩ = some (.slice pa evs[i].p.length pc) ∧
    W.cell? ⟨b, off + i * 6 + 3, none⟩ = some (.string (B evs[i].text)) ∧ W.cell? ⟨b, off + i * 6 + 4, none⟩ = some (.int .i64 evs[i].n) ∧ W.cell? ⟨b, off + i * 6 + 5, none⟩ = some (.int .i64 evs[i].l) ∧ PtsAt W W.heap.size (.slice pa evs[i].p.length pc) evs[i].p)
theorem EvsAt.below {W W' : World} {v : Value} {evs : List Ev} (h : EvsAt W v evs) (hb : Below W.heap.size W W') : EvsAt W' v evs := by
  obtain ⟨a, c, rfl, h⟩ := h
  refine ⟨a, c, rfl, fun hp => ?_⟩
  obtain ⟨b, off, rfl, hlt, hc⟩ := h hp
  refine ⟨b, off, rfl, Nat.lt_of_lt_of_le hlt hb.size, fun i hi => ?_⟩
  obtain ⟨pa, pc, h0, h1, h2, h3, h4, h5, hP⟩ := hc i hi
  have e := fun o => (bcell hb).1 b o hlt
  exact ⟨pa, pc, (e _).trans h0, (e _).trans h1, (e _).trans h2, (e _).trans h3, (e _).trans h4, (e _).trans h5, (hP.below hb).up hb.size⟩
theorem flat_get {α β : Type} {m : Nat} {f : α → List β} (hf : ∀ a, (f a).length = m) : ∀ (l : List α) (i j : Nat) (h : i < l.length), j < m → (l.flatMap f)[i * m + j]? = (f l[i])[j]?
  | a :: r, 0, j, _, hj => by
    rw [List.flatMap_cons, Nat.zero_mul, Nat.zero_add, List.getElem?_append_left (by rw [hf]; exact hj)]; rfl
  | a :: r, i + 1, j, h, hj => by
    have h' : i < r.length := by simpa using h
    have e : (i + 1) * m + j = m + (i * m + j) := by rw [Nat.add_mul]; omega
    rw [List.flatMap_cons, e, List.getElem?_append_right (by rw [hf]; omega), hf, Nat.add_sub_cancel_left]
    exact flat_get hf r i j h' hj
theorem EvsOwn.at {W : World} {base : Nat} {v : Value} {its : List (Ev × Value)} (h : EvsOwn W base v its) : EvsAt W v (its.map (·.1)) := by
  rcases h.1.2 with ⟨rfl, h0⟩ | ⟨g, cap, cur, hv, hb, hg, hn, _, hc, ht⟩
  · exact ⟨none, 0, by rw [List.length_map, h0], fun hp => by rw [List.length_map] at hp; omega⟩
  · refine ⟨_, cap, by rw [List.length_map]; exact hv, fun _ => ⟨g, 0, rfl, lt_of_heap hg, fun i hi => ?_⟩⟩
    have hi' : i < its.length := by simpa using hi
    have key : ∀ j u, (its.flatMap itCells)[j]? = some u → W.cell? ⟨g, j, none⟩ = some u := by
      intro j u hu
      have hj : j < its.length * 6 := by
        rcases Nat.lt_or_ge j (its.length * 6) with h2 | h2
        · exact h2
        · rw [List.getElem?_eq_none (by rw [h.1.1]; exact h2)] at hu; cases hu
      rw [← ht, List.getElem?_take, if_pos hj] at hu
      simp only [World.cell?, hg]
      simpa using hu
    have hO := h.2 its[i] (List.getElem_mem hi')
    obtain ⟨pa, pc, hpv⟩ := own_form hO
    have hfl := fun j hj => flat_get (m := 6) (f := itCells) (fun _ => rfl) its i j hi' hj
    have he : (its.map (·.1))[i] = its[i].1 := by simp
    rw [he, Nat.zero_add]
    refine ⟨pa, pc, key _ _ ((hfl 0 (by omega)).trans rfl), key _ _ ((hfl 1 (by omega)).trans rfl), key _ _ ((hfl 2 (by omega)).trans (congrArg some hpv)), key _ _ ((hfl 3 (by omega)).trans rfl), key _ _ ((hfl 4 (by omega)).trans rfl), key _ _ ((hfl 5 (by omega)).trans rfl), ?_⟩
    rw [← hpv]; exact hO.pts

theorem same_ev (ev : Ev) (pa qa : Option Addr) (pc qc : Nat) (w : World) (hP : PtsAt w w.heap.size (.slice pa ev.p.length pc) ev.p) (hQ : PtsAt w w.heap.size (.slice qa ev.p.length qc) ev.p) (hm : ev.p.length ≤ maxLen) :
    Calls Tryd.prog 9 #[.agg #[.int .i64 ev.kind, .string (B ev.keys), .slice pa ev.p.length pc, .string (B ev.text), .int .i64 ev.n, .int .i64 ev.l], .agg #[.int .i64 ev.kind, .string (B ev.keys), .slice qa ev.p.length qc, .string (B ev.text), .int .i64 ev.n, .int .i64 ev.l]] w fun e w' => e = .returned (.bool true) ∧ Below w.heap.size w w' := by
  have h := same_any ev.kind ev.keys pa pc ev.p ev.text ev.n ev.l ev.kind ev.keys qa qc ev.p ev.text ev.n ev.l w hP hQ hm
  have e : sameB ⟨ev.kind, ev.keys, ev.p, ev.text, ev.n, ev.l⟩ ⟨ev.kind, ev.keys, ev.p, ev.text, ev.n, ev.l⟩ = true := sameB_refl _
  rw [e] at h
  exact h

set_option maxHeartbeats 1000000 in
set_option maxRecDepth 100000 in
theorem SameAll_eq (v u : Value) (evs : List Ev) (w : World) (hv : EvsAt w v evs) (hu : EvsAt w u evs) (hm : evs.length ≤ maxLen) (hmp : ∀ ev ∈ evs, ev.p.length ≤ maxLen) :
    Calls Tryd.prog 12 #[v, u] w fun e w' => e = .returned (.bool true) ∧ Below w.heap.size w w' := by
  have HV := Lib.hid hv
  have HU := Lib.hid hu
  have HMP := Lib.hid hmp
  unfold maxLen at hm
  obtain ⟨va, vc, rfl, _⟩ := hv
  obtain ⟨ua, uc, rfl, _⟩ := hu
  clear hmp
  have hne : ((evs.length : Int) != (evs.length : Int)) = false := by simp
  go_enter Tryd.func12, Tryd.ntmps12
  go_wp2_with fail
  go_loopw [5] (fun i wr => ∃ k : Nat, i = .int .i64 k ∧ k ≤ evs.length ∧ Below w.heap.size w wr) (fun i _ => evs.length - (intOf i).toNat)
  case atStart => exact ⟨0, rfl, Nat.zero_le _, Below.refl _ _⟩
  case round =>
    obtain ⟨k, rfl, hk, hbr⟩ := hrel
    by_cases hlt : k < evs.length
    · obtain ⟨a1, c1, e1, h1⟩ := HV.out.below hbr
      obtain ⟨a2, c2, e2, h2⟩ := HU.out.below hbr
      cases e1
      cases e2
      obtain ⟨b1, o1, rfl, hb1, h1⟩ := h1 (by omega)
      obtain ⟨b2, o2, rfl, hb2, h2⟩ := h2 (by omega)
      obtain ⟨pa, pc, x0, x1, x2, x3, x4, x5, hP⟩ := h1 k hlt
      obtain ⟨qa, qc, y0, y1, y2, y3, y4, y5, hQ⟩ := h2 k hlt
      have hml := HMP.out _ (List.getElem_mem hlt)
      have C := same_ev (evs[k]'hlt) pa qa pc qc
      have C := fun W hA hB => Lib.hid (C W hA hB hml)
      have HP := Lib.hid hP
      have HQ := Lib.hid hQ
      clear h1 h2 hP hQ hml
      generalize evs[k] = ev at *
      have hk0 : (0 : Int) ≤ (k : Int) := by omega
      have hk1 : (k : Int) < (evs.length : Int) := by omega
      go_wp2_with fail
      go_still_tail 8, (by kernel_rfl)
      change wpList _ _ _ _ _ wr.drew
      have hbr2 : Below w.heap.size w wr.drew := hbr.drew
      have HP2 : Hid (PtsAt wr.drew wr.drew.heap.size (.slice pa ev.p.length pc) ev.p) := HP
      have HQ2 : Hid (PtsAt wr.drew wr.drew.heap.size (.slice qa ev.p.length qc) ev.p) := HQ
      clear x0 x1 x2 x3 x4 x5 y0 y1 y2 y3 y4 y5 HP HQ hb1 hb2 hbr
      generalize wr.drew = w2 at *
      go_wp2_with fail
      refine ((C _ HP2.out HQ2.out).out).mono ?_
      rintro e w3 ⟨rfl, hb3⟩
      have hb4 := hbr2.trans (hb3.mono hbr2.size)
      clear C hb3 hbr2
      go_wp2_with fail
      go_roundw
      case rel => exact ⟨k + 1, by go_num, by omega, hb4⟩
      case measure => simp [intOf]; omega
    · have hnk : ¬ (k : Int) < (evs.length : Int) := by omega
      go_wp2_with fail
      go_ret
      exact ⟨rfl, hbr⟩
end Go.Proofs.YtmioocmjlbjfpaaDoor
