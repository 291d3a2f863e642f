/-
  Pairs that came in, opened.
-/
import Derived.Test.YtngjljgcldfekaaWr
import Derived.Deep.Slices
import Derived.ChangeArms
import Derived.OpenShut
import Derived.SizedLaws
namespace Go.Proofs.Ytngjljgcldfekaa
open Go.RowKit Go.Deep Go.ChangeShapes
set_option linter.unusedVariables false
set_option maxRecDepth 100000 in
theorem open_pair {H : Type} {enc : TypeId × Value → H} {W : World} {fuel : Nat} {cs : List Value} {x : DataW H × List MemPlace} (h : DataW.trod enc Try.prog W 0 (fun _ => true) true fuel 39 cs = some x) (hl : cs.length = 2) :
    ∃ q : Pr, cs = cellsP q ∧ (U64 q.c ∧ U64 q.s) := by
  obtain ⟨xs, k, hk, hxy, _, hxl, hf⟩ := DataW.trod_struct Try.underlying39 h
  match xs, hxl, cs, hl with
  | [y0, y1], _, [v0, v1], _ =>
    have g0 := hf 0 _ rfl
    have g1 := hf 1 _ rfl
    simp [show Try.prog.cellsOf 30 = 1 by kernel_rfl] at g0 g1
    obtain ⟨n0, e0, f0, w0⟩ := DataW.trod_int Try.underlying30 g0
    obtain ⟨n1, e1, f1, w1⟩ := DataW.trod_int Try.underlying30 g1
    simp at e0 e1
    subst e0 e1
    have b0 := bounds_u64 w0
    have b1 := bounds_u64 w1
    obtain ⟨m0, rfl⟩ := Int.eq_ofNat_of_zero_le b0.1
    obtain ⟨m1, rfl⟩ := Int.eq_ofNat_of_zero_le b1.1
    exact ⟨⟨m0, m1⟩, rfl, by unfold U64; show m0 < _; omega, by unfold U64; show m1 < _; omega⟩
set_option maxRecDepth 100000 in
theorem open_pairs {H : Type} {enc : TypeId × Value → H} {W : World} {fuel : Nat} {cs : List Value} {x : DataW H × List MemPlace} (h : DataW.trod enc Try.prog W 0 (fun _ => true) true fuel 22 cs = some x) :
    ∃ v l, cs = [v] ∧ PairsIn W v l := by
  rcases open_slice Try.underlying22 h with ⟨h0, hx⟩ | ⟨a, len, cap, m, n, D, Pl, hcs, hb, hl, hm, hmm, hx, hel⟩
  · exact ⟨_, [], h0, ReadsR.nil 2 W, by simp⟩
  · have hm' : m = cap := by simpa using hmm
    subst hm'
    have each : ∀ i, i < len → ∃ q : Pr, (∀ j y, (cellsP q)[j]? = some y → W.cell? (a.add (i * 2 + j)) = some y) ∧ (U64 q.c ∧ U64 q.s) := by
      intro i hi
      obtain ⟨cs', h1, h2⟩ := hel i (by omega)
      rw [show Try.prog.cellsOf 39 = 2 by kernel_rfl] at h1
      obtain ⟨_, hlen, hcell⟩ := World.cells?_some h1
      obtain ⟨q, rfl, hk⟩ := open_pair h2 (by simpa using hlen)
      refine ⟨q, fun j y hy => ?_, hk⟩
      have hj := (List.getElem?_eq_some_iff.1 hy).1
      have := hcell j (by simpa [cellsP] using hj)
      rw [addr_add_add] at this
      rw [this]
      simp [hy]
    obtain ⟨f, hfp⟩ := choose_lt each
    have hll : ((List.range len).map f).length = len := by simp
    refine ⟨_, (List.range len).map f, hcs, ⟨some a, m, by rw [CP_length, hll], by rw [CP_length, hll]; omega, hm, by simp, fun hne => ?_⟩, ?_⟩
    · have hpos : 0 < len := by
        rcases Nat.eq_zero_or_pos len with h | h
        · subst h; simp [CP] at hne
        · exact h
      obtain ⟨b, o, spot⟩ := a
      have hc := (hfp 0 (by omega)).1 0 _ rfl
      have hspot : spot = none := by simpa [Addr.add] using World.cell?_spot hc
      subst hspot
      refine ⟨b, o, rfl, fun j r hr i y hy => ?_⟩
      have hr' : ((List.range len).map f).map cellsP = CP ((List.range len).map f) := rfl
      rw [← hr', List.getElem?_map, Option.map_eq_some_iff] at hr
      obtain ⟨p, hp, rfl⟩ := hr
      have hj : j < len := by
        have := (List.getElem?_eq_some_iff.1 hp).1
        simpa using this
      rw [List.getElem?_map, List.getElem?_range hj] at hp
      simp at hp
      subst hp
      have := (hfp j hj).1 i y hy
      rw [add_at] at this
      rw [Nat.add_assoc]
      exact this
    · intro x hx
      simp only [List.mem_map, List.mem_range] at hx
      obtain ⟨i, hi, rfl⟩ := hx
      exact (hfp i hi).2
end Go.Proofs.Ytngjljgcldfekaa
