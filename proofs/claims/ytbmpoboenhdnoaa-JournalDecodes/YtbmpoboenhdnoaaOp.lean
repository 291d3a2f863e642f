/-
  Rows of events, and lists of such rows, that came in.
-/
import Derived.Test.YtbmpoboenhdnoaaJa
import Derived.Deep.Slices
import Derived.ChangeArms
import Derived.OpenShut
import Derived.SizedLaws
namespace Go.Proofs.Ytbmpoboenhdnoaa
set_option maxRecDepth 100000
open Go.RowKit Go.Deep Go.ChangeShapes
set_option linter.unusedVariables false
/-- An event's integers are of 64 bits. -/
def E64 (e : Ep) : Prop := I64 e.1 ∧ I64 e.2
/-- Events that came in. -/
def EvsIn (W : World) (v : Value) (l : List Ep) : Prop := ReadsR 2 W v (CE l) ∧ ∀ e ∈ l, E64 e
theorem EvsIn.kept {W W' : World} {v : Value} {l : List Ep} (h : EvsIn W v l) (k : Kept [] W W') : EvsIn W' v l := ⟨ReadsR.kept h.1 k (by simp), h.2⟩
theorem open_ev {H : Type} {enc : TypeId × Value → H} {W : World} {fuel : Nat} {cs : List Value} {x : DataW H × List MemPlace} (h : DataW.trod enc Try.prog W 0 (fun _ => true) true fuel 47 cs = some x) (hl : cs.length = 2) :
    ∃ e : Ep, cs = cellsE e ∧ E64 e := by
  obtain ⟨xs, k, hk, hxy, _, hxl, hf⟩ := DataW.trod_struct Try.underlying47 h
  match xs, hxl, cs, hl with
  | [y0, y1], _, [v0, v1], _ =>
    have g0 := hf 0 _ rfl
    have g1 := hf 1 _ rfl
    simp [show Try.prog.cellsOf 3 = 1 by kernel_rfl, show Try.prog.cellsOf 2 = 1 by kernel_rfl] at g0 g1
    obtain ⟨a, e0, f0, w0⟩ := DataW.trod_int Try.underlying3 g0
    obtain ⟨b, e1, f1, w1⟩ := DataW.trod_int Try.underlying2 g1
    simp at e0 e1
    subst e0 e1
    exact ⟨(a, b), rfl, bounds_i64 w0, bounds_i64 w1⟩
theorem open_evs {H : Type} {enc : TypeId × Value → H} {W : World} {fuel : Nat} {cs : List Value} {x : DataW H × List MemPlace} (h : DataW.trod enc Try.prog W 0 (fun _ => true) true fuel 30 cs = some x) :
    ∃ v l, cs = [v] ∧ EvsIn W v l := by
  rcases open_slice Try.underlying30 h with ⟨h0, hx⟩ | ⟨a, len, cap, m, n, D, Pl, hcs, hb, hl, hm, hmm, hx, hel⟩
  · exact ⟨_, [], h0, ReadsR.nil 2 W, by simp⟩
  · have hm' : m = cap := by simpa using hmm
    subst hm'
    have each : ∀ i, i < len → ∃ q : Ep, (∀ j y, (cellsE q)[j]? = some y → W.cell? (a.add (i * 2 + j)) = some y) ∧ E64 q := by
      intro i hi
      obtain ⟨cs', h1, h2⟩ := hel i (by omega)
      rw [show Try.prog.cellsOf 47 = 2 by kernel_rfl] at h1
      obtain ⟨_, hlen, hcell⟩ := World.cells?_some h1
      obtain ⟨q, rfl, hk⟩ := open_ev h2 (by simpa using hlen)
      refine ⟨q, fun j y hy => ?_, hk⟩
      have hj := (List.getElem?_eq_some_iff.1 hy).1
      have := hcell j (by simpa [cellsE] using hj)
      rw [addr_add_add] at this
      rw [this]
      simp [hy]
    obtain ⟨f, hfp⟩ := choose_lt each
    have hll : ((List.range len).map f).length = len := by simp
    refine ⟨_, (List.range len).map f, hcs, ⟨some a, m, by rw [CE_length, hll], by rw [CE_length, hll]; omega, hm, by simp, fun hne => ?_⟩, ?_⟩
    · have hpos : 0 < len := by
        rcases Nat.eq_zero_or_pos len with h | h
        · subst h; simp [CE] at hne
        · exact h
      obtain ⟨b, o, spot⟩ := a
      have hc := (hfp 0 (by omega)).1 0 _ rfl
      have hspot : spot = none := by simpa [Addr.add] using World.cell?_spot hc
      subst hspot
      refine ⟨b, o, rfl, fun j r hr i y hy => ?_⟩
      have hr' : ((List.range len).map f).map cellsE = CE ((List.range len).map f) := rfl
      rw [← hr', List.getElem?_map, Option.map_eq_some_iff] at hr
      obtain ⟨p, hp, rfl⟩ := hr
      have hj : j < len := by
        have := (List.getElem?_eq_some_iff.1 hp).1
        simpa using this
      rw [List.getElem?_map, List.getElem?_range hj] at hp
      simp at hp
      subst hp
      have := (hfp j hj).1 i y hy
      rw [add_at] at this
      rw [Nat.add_assoc]
      exact this
    · intro x hx
      simp only [List.mem_map, List.mem_range] at hx
      obtain ⟨i, hi, rfl⟩ := hx
      exact (hfp i hi).2
/-- Lists of events that came in. -/
def EvssIn (w : World) (v : Value) (ls : List (List Ep)) : Prop :=
  ∃ a cap, v = .slice a ls.length cap ∧ ls.length ≤ cap ∧ cap ≤ 9223372036854775807 ∧ (ls ≠ [] → ∃ b o, a = some ⟨b, o, none⟩ ∧ ∀ j l, ls[j]? = some l → ∃ u, w.cell? ⟨b, o + j, none⟩ = some u ∧ EvsIn w u l)
theorem EvssIn.kept {w w' : World} {v : Value} {ls : List (List Ep)} (h : EvssIn w v ls) (k : Kept [] w w') : EvssIn w' v ls := by
  obtain ⟨a, cap, h1, h2, h3, h4⟩ := h
  refine ⟨a, cap, h1, h2, h3, fun hne => ?_⟩
  obtain ⟨b, o, h5, h6⟩ := h4 hne
  refine ⟨b, o, h5, fun j l hl => ?_⟩
  obtain ⟨u, hu, hr⟩ := h6 j l hl
  exact ⟨u, k.cell_eq hu, hr.kept k⟩
theorem EvssIn.form {w : World} {v : Value} {ls : List (List Ep)} (h : EvssIn w v ls) : ∃ a c, v = .slice a ls.length c ∧ ls.length ≤ c ∧ c ≤ 9223372036854775807 := by
  obtain ⟨a, cap, h1, h2, h3, -⟩ := h
  exact ⟨a, cap, h1, h2, h3⟩
/-- One of them. -/
theorem EvssIn.at {w : World} {a : Option Addr} {n c : Nat} {ls : List (List Ep)} (h : EvssIn w (.slice a n c) ls) {j : Nat} {l : List Ep} (hl : ls[j]? = some l) :
    ∃ b o a' c', a = some ⟨b, o, none⟩ ∧ w.cell? ⟨b, o + j, none⟩ = some (.slice a' l.length c') ∧ EvsIn w (.slice a' l.length c') l ∧ l.length ≤ c' ∧ c' ≤ 9223372036854775807 := by
  obtain ⟨a1, cap, h1, h2, h3, h4⟩ := h
  injection h1 with e1 e2 e3
  obtain ⟨b, o, h5, h6⟩ := h4 (by intro e; subst e; simp at hl)
  obtain ⟨u, hu, hr⟩ := h6 j l hl
  obtain ⟨a', c', rfl, q1, q2⟩ := rowE_form hr.1
  exact ⟨b, o, a', c', e1.trans h5, hu, hr, q1, q2⟩
theorem open_evss {H : Type} {enc : TypeId × Value → H} {W : World} {fuel : Nat} {cs : List Value} {x : DataW H × List MemPlace} (h : DataW.trod enc Try.prog W 0 (fun _ => true) true fuel 22 cs = some x) :
    ∃ v l, cs = [v] ∧ EvssIn W v l := by
  rcases open_slice Try.underlying22 h with ⟨h0, hx⟩ | ⟨a, len, cap, m, n, D, Pl, hcs, hb, hl, hm, hmm, hx, hel⟩
  · exact ⟨_, [], h0, ⟨none, 0, rfl, by simp, by simp, by simp⟩⟩
  · have hm' : m = cap := by simpa using hmm
    subst hm'
    have each : ∀ i, i < len → ∃ l : List Ep, ∃ u, W.cell? (a.add i) = some u ∧ EvsIn W u l := by
      intro i hi
      obtain ⟨cs', h1, h2⟩ := hel i (by omega)
      rw [show Try.prog.cellsOf 30 = 1 by kernel_rfl, Nat.mul_one] at h1
      obtain ⟨_, hlen, hcell⟩ := World.cells?_some h1
      obtain ⟨u, l, rfl, hu⟩ := open_evs h2
      have c0 := hcell 0 (by omega)
      exact ⟨l, u, by simpa [Addr.add] using c0, hu⟩
    have inh : Inhabited (List Ep) := ⟨[]⟩
    obtain ⟨f, hfp⟩ := choose_lt each
    have hll : ((List.range len).map f).length = len := by simp
    refine ⟨_, (List.range len).map f, hcs, ⟨some a, m, by rw [hll], by omega, hm, ?_⟩⟩
    intro hne
    have hpos : 0 < len := by
      rcases Nat.eq_zero_or_pos len with h | h
      · subst h; simp at hne
      · exact h
    obtain ⟨b, o, spot⟩ := a
    obtain ⟨u0, hc, _⟩ := hfp 0 (by omega)
    have hspot : spot = none := by simpa [Addr.add] using World.cell?_spot hc
    subst hspot
    refine ⟨b, o, rfl, fun j x hx => ?_⟩
    have hj : j < len := by
      have := (List.getElem?_eq_some_iff.1 hx).1
      simpa using this
    rw [List.getElem?_map, List.getElem?_range hj] at hx
    simp at hx
    subst hx
    obtain ⟨u, hu, hr⟩ := hfp j (by omega)
    rw [add_at] at hu
    exact ⟨u, hu, hr⟩
/-- What few tells of lists. -/
def FewA (ls : List (List Ep)) (e : Ending) : Prop := ∃ b, e = .returned (.bool b) ∧ (b = true → ls.length ≤ 61 ∧ ∀ l ∈ ls, l.length ≤ 500)
section
variable {w : World}
set_option maxHeartbeats 1000000 in
theorem few10 {v : Value} {ls : List (List Ep)} (h : EvssIn w v ls) : Calls Try.prog 10 #[v] w fun e w' => FewA ls e ∧ w = w' := by
  obtain ⟨a, c, rfl, hc1, hc2⟩ := h.form
  have HH := Hid.mk h
  clear h
  generalize hn : ls.length = n at *
  have HN := Hid.mk hn
  clear hn
  go_enter Try.func10, Try.ntmps10
  go_wp2_with fail
  go_loopw [6] (fun i wr => ∃ k : Nat, Hid (w = wr) ∧ i = .int .i64 (k : Int) ∧ k ≤ n ∧ k ≤ 61 ∧ Hid (∀ i l, ls[i]? = some l → i < k → l.length ≤ 500)) (fun i _ => n - (intOf i).toNat)
  case atStart => exact ⟨0, Hid.mk rfl, rfl, by omega, by omega, fun i l _ h => by omega⟩
  case round =>
    obtain ⟨k, hw, rfl, hk, hk61, HA⟩ := hrel
    obtain rfl := hw.out
    clear hw
    by_cases hlt : k < n
    · obtain ⟨l, hl⟩ : ∃ l, ls[k]? = some l := ⟨_, List.getElem?_eq_getElem (by have := HN.out; omega)⟩
      obtain ⟨b, o, a', c', rfl, d0, d1, q1, q2⟩ := HH.out.at hl
      have hjI : (k : Int) < (n : Int) := by omega
      have HL := Hid.mk hl
      generalize hm : l.length = m at *
      have HM := Hid.mk hm
      clear hl hm d1
      by_cases h5 : 500 < m
      · have h5I : (500 : Int) < (m : Int) := by omega
        go_wp2_with fail
        go_ret
        exact ⟨⟨false, rfl, by simp⟩, rfl⟩
      · have h5I : ¬ (500 : Int) < (m : Int) := by omega
        by_cases h6 : 60 < k
        · have h6I : (60 : Int) < (k : Int) := by omega
          go_wp2_with fail
          go_ret
          exact ⟨⟨false, rfl, by simp⟩, rfl⟩
        · have h6I : ¬ (60 : Int) < (k : Int) := by omega
          go_wp2_with fail
          go_roundw
          case rel => exact ⟨k + 1, by trivial, by go_num, by omega, by omega, fun i l' hl' hi => by
            by_cases e : i = k
            · subst e
              have := HL.out.symm.trans hl'
              injection this with this
              subst this
              rw [HM.out]; omega
            · exact HA.out i l' hl' (by omega)⟩
          case measure => simp [intOf]; omega
    · obtain rfl : k = n := by omega
      go_wp2_with fail
      go_ret
      exact ⟨⟨true, rfl, fun _ => ⟨by have := HN.out; omega, fun l hl => by
        obtain ⟨i, hi, e⟩ := List.mem_iff_getElem.1 hl
        exact HA.out i l (by rw [← e]; exact List.getElem?_eq_getElem hi) (by have := HN.out; omega)⟩⟩, rfl⟩
end
end Go.Proofs.Ytbmpoboenhdnoaa
