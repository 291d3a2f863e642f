/-
  A script of calls that came in, opened.
-/
import Derived.Test.YtmbfojjmnjagiaaOps
import Derived.Deep.Slices
import Derived.ChangeArms
import Derived.OpenShut
namespace Go.Proofs.Ytmbfojjmnjagiaa
open Go.RowKit Go.Deep
set_option linter.unusedVariables false

set_option maxRecDepth 100000 in
theorem open_ops {H : Type} {enc : TypeId × Value → H} {W : World} {fuel : Nat} {cs : List Value} {x : DataW H × List MemPlace} (h : DataW.trod enc Try.prog W 0 (fun _ => true) true fuel 22 cs = some x) :
    ∃ v l, cs = [v] ∧ HoldsO W v l := by
  rcases open_slice Try.underlying22 h with ⟨h0, hx⟩ | ⟨a, len, cap, m, n, D, Pl, hcs, hb, hl, hm, hmm, hx, hel⟩
  · exact ⟨_, [], h0, ⟨none, 0, rfl, by simp, by simp, by simp, by simp⟩⟩
  · have hm' : m = cap := by simpa using hmm
    subst hm'
    have each : ∀ i, i < m → ∃ p : OpD, (W.cell? (a.add (i * 4)) = some (.int .i64 p.kind) ∧ W.cell? (a.add (i * 4 + 1)) = some (.int .i64 p.i) ∧ W.cell? (a.add (i * 4 + 2)) = some (.int .u8 (p.b.toNat : Int)) ∧ W.cell? (a.add (i * 4 + 3)) = some (.bool p.odd)) ∧ p.ok := by
      intro i hi
      obtain ⟨cs', h1, h2⟩ := hel i hi
      rw [show Try.prog.cellsOf 30 = 4 by kernel_rfl] at h1
      obtain ⟨_, hlen, hcell⟩ := World.cells?_some h1
      obtain ⟨xs, k, hk, hxy, _, hxl, hf⟩ := DataW.trod_struct Try.underlying30 h2
      match xs, hxl, cs', hlen with
      | [y0, y1, y2, y3], _, [v0, v1, v2, v3], _ =>
        have g0 := hf 0 _ rfl
        have g1 := hf 1 _ rfl
        have g2 := hf 2 _ rfl
        have g3 := hf 3 _ rfl
        simp [show Try.prog.cellsOf 3 = 1 by kernel_rfl, show Try.prog.cellsOf 5 = 1 by kernel_rfl, show Try.prog.cellsOf 4 = 1 by kernel_rfl] at g0 g1 g2 g3
        obtain ⟨kd, e0, f0, w0⟩ := DataW.trod_int Try.underlying3 g0
        obtain ⟨ii, e1, f1, w1⟩ := DataW.trod_int Try.underlying3 g1
        obtain ⟨nn, e2, f2, w2⟩ := DataW.trod_int Try.underlying5 g2
        obtain ⟨bb, e3, f3⟩ := DataW.trod_bool Try.underlying4 g3
        simp at e0 e1 e2 e3
        subst e0 e1 e2 e3
        have b1 := bounds_i64 w1
        have b2 := bounds_u8 w2
        have c0 := hcell 0 (by omega)
        have c1 := hcell 1 (by omega)
        have c2 := hcell 2 (by omega)
        have c3 := hcell 3 (by omega)
        rw [add_add] at c0 c1 c2 c3
        refine ⟨⟨kd, ii, UInt8.ofNat nn.toNat, bb⟩, ⟨by simpa using c0, by simpa using c1, ?_, by simpa using c3⟩, by unfold OpD.ok; dsimp only; omega⟩
        have : (((UInt8.ofNat nn.toNat).toNat : Nat) : Int) = nn := by simp; omega
        rw [this]
        simpa using c2
    have inh : Inhabited OpD := ⟨⟨0, 0, 0, false⟩⟩
    obtain ⟨f, hfp⟩ := choose_lt each
    have hll : ((List.range len).map f).length = len := by simp
    refine ⟨_, (List.range len).map f, hcs, ⟨some a, m, by rw [hll], by omega, hm, ?_, ?_⟩⟩
    · intro x hx
      simp only [List.mem_map, List.mem_range] at hx
      obtain ⟨i, hi, rfl⟩ := hx
      exact (hfp i (by omega)).2
    · intro hne
      have hpos : 0 < len := by
        rcases Nat.eq_zero_or_pos len with h | h
        · subst h; simp at hne
        · exact h
      obtain ⟨b, o, spot⟩ := a
      have hc := (hfp 0 (by omega)).1.1
      have hspot : spot = none := by simpa [Addr.add] using World.cell?_spot hc
      subst hspot
      refine ⟨b, o, rfl, fun j x hx => ?_⟩
      have hj : j < len := by
        have := (List.getElem?_eq_some_iff.1 hx).1
        simpa using this
      rw [List.getElem?_map, List.getElem?_range hj] at hx
      simp at hx
      subst hx
      have hc := (hfp j (by omega)).1
      rw [add_at, add_at, add_at, add_at] at hc
      exact hc

theorem plays_any (nb : Int) (v : Value) (ops : List OpD) (w : World) (hv : HoldsO w v ops) : Calls Try.prog 3 #[.int .i64 nb, v] w fun e w' => e = .returned (.bool true) ∧ Kept [] w w' := by
  by_cases h : ops.length ≤ 100
  · exact plays_walk nb v ops w hv h
  · obtain ⟨a, cap, rfl, _⟩ := hv
    exact plays_long nb a ops.length cap w (by omega)

end Go.Proofs.Ytmbfojjmnjagiaa
