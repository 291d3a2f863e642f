/-
  A script of calls that came in, opened.
-/
import Derived.Test.YtbnakokadaifjaaOps
import Derived.Deep.Slices
import Derived.ChangeArms
import Derived.OpenShut
namespace Go.Proofs.Ytbnakokadaifjaa
open Go.RowKit Go.Deep

theorem add_at (b o j : Nat) : (⟨b, o, none⟩ : Addr).add j = ⟨b, o + j, none⟩ := by unfold Addr.add; split <;> simp_all

set_option maxRecDepth 100000 in
theorem open_ops {H : Type} {enc : TypeId × Value → H} {W : World} {fuel : Nat} {cs : List Value} {x : DataW H × List MemPlace} (h : DataW.trod enc Try.prog W 0 (fun _ => true) true fuel 22 cs = some x) :
    ∃ v l, cs = [v] ∧ HoldsO W v l := by
  rcases open_slice Try.underlying22 h with ⟨h0, hx⟩ | ⟨a, len, cap, m, n, D, Pl, hcs, hb, hl, hm, hmm, hx, hel⟩
  · exact ⟨_, [], h0, ⟨none, 0, rfl, by simp, by simp, by simp, by simp⟩⟩
  · have hm' : m = cap := by simpa using hmm
    subst hm'
    have each : ∀ i, i < m → ∃ p : OpD, (W.cell? (a.add (i * 3)) = some (.int .i64 p.kind) ∧ W.cell? (a.add (i * 3 + 1)) = some (.int .i64 p.i) ∧ W.cell? (a.add (i * 3 + 2)) = some (.int .u64 (p.n : Int))) ∧ p.n < 18446744073709551616 := by
      intro i hi
      obtain ⟨cs', h1, h2⟩ := hel i hi
      rw [show Try.prog.cellsOf 37 = 3 by kernel_rfl] at h1
      obtain ⟨_, hlen, hcell⟩ := World.cells?_some h1
      obtain ⟨xs, k, hk, hxy, _, hxl, hf⟩ := DataW.trod_struct Try.underlying37 h2
      match xs, hxl, cs', hlen with
      | [y0, y1, y2], _, [v0, v1, v2], _ =>
        have g0 := hf 0 _ rfl
        have g1 := hf 1 _ rfl
        have g2 := hf 2 _ rfl
        simp [show Try.prog.cellsOf 3 = 1 by kernel_rfl, show Try.prog.cellsOf 29 = 1 by kernel_rfl] at g0 g1 g2
        obtain ⟨kd, e0, f0, w0⟩ := DataW.trod_int Try.underlying3 g0
        obtain ⟨ii, e1, f1, w1⟩ := DataW.trod_int Try.underlying3 g1
        obtain ⟨nn, e2, f2, w2⟩ := DataW.trod_int Try.underlying29 g2
        simp at e0 e1 e2
        subst e0 e1 e2
        have b2 := bounds_u64 w2
        have c0 := hcell 0 (by omega)
        have c1 := hcell 1 (by omega)
        have c2 := hcell 2 (by omega)
        rw [add_add] at c0 c1 c2
        refine ⟨⟨kd, ii, nn.toNat⟩, ⟨by simpa using c0, by simpa using c1, ?_⟩, by show nn.toNat < _; omega⟩
        have : ((nn.toNat : Nat) : Int) = nn := by omega
        rw [this]
        simpa using c2
    have inh : Inhabited OpD := ⟨⟨0, 0, 0⟩⟩
    obtain ⟨f, hfp⟩ := choose_lt each
    have hll : ((List.range len).map f).length = len := by simp
    refine ⟨_, (List.range len).map f, hcs, ⟨some a, m, by rw [hll], by omega, hm, ?_, ?_⟩⟩
    · intro x hx
      simp only [List.mem_map, List.mem_range] at hx
      obtain ⟨i, hi, rfl⟩ := hx
      exact (hfp i (by omega)).2
    · intro hne
      have hpos : 0 < len := by
        rcases Nat.eq_zero_or_pos len with h | h
        · subst h; simp at hne
        · exact h
      obtain ⟨b, o, spot⟩ := a
      have hc := (hfp 0 (by omega)).1.1
      have hspot : spot = none := by simpa [Addr.add] using World.cell?_spot hc
      subst hspot
      refine ⟨b, o, rfl, fun j x hx => ?_⟩
      have hj : j < len := by
        have := (List.getElem?_eq_some_iff.1 hx).1
        simpa using this
      rw [List.getElem?_map, List.getElem?_range hj] at hx
      simp at hx
      subst hx
      have hc := (hfp j (by omega)).1
      rw [add_at, add_at, add_at] at hc
      exact hc

end Go.Proofs.Ytbnakokadaifjaa
