/-
  A list of pieces that came in, opened; and what the bound of the second form gives of it.
-/
import Derived.Test.YtkhgdeklgcafpabPieces
import Derived.Test.YtkhgdeklgcafpabRows
import Derived.Deep.Slices
import Derived.ChangeArms
import Derived.OpenShut
namespace Go.Proofs.Ytkhgdeklgcafpab
open Go.RowKit Go.Deep

theorem bulk_all_map {H : Type} (f : Nat → PieceD) (D : Nat → DataW H) (n : Nat) (h : ∀ i, i < n → (f i).s.size + 4 ≤ Rows.uptoBulk (D i)) : heavy ((List.range n).map f) ≤ 9 * Rows.uptoBulkAll ((List.range n).map D) := by
  have key : ∀ l : List Nat, (∀ i ∈ l, i < n) → heavy (l.map f) ≤ 9 * Rows.uptoBulkAll (l.map D) := by
    intro l
    induction l with
    | nil => intro _; simp [heavy]
    | cons i r ih =>
      intro hl
      have h1 := h i (hl i (by simp))
      have h2 := ih (fun j hj => hl j (by simp [hj]))
      simp only [List.map_cons, heavy, Rows.uptoBulkAll]
      omega
  exact key _ (fun i hi => List.mem_range.1 hi)

theorem add_at (b o j : Nat) : (⟨b, o, none⟩ : Addr).add j = ⟨b, o + j, none⟩ := by unfold Addr.add; split <;> simp_all

theorem open_pieces {H : Type} {enc : TypeId × Value → H} {W : World} {fuel : Nat} {cs : List Value} {x : DataW H × List MemPlace} (h : DataW.trod enc Try.prog W 0 (fun _ => true) true fuel 22 cs = some x) :
    ∃ v l, cs = [v] ∧ Holds W v l ∧ heavy l ≤ 9 * Rows.uptoBulk x.1 := by
  rcases open_slice Try.underlying22 h with ⟨h0, hx⟩ | ⟨a, len, cap, m, n, D, Pl, hcs, hb, hl, hm, hmm, hx, hel⟩
  · exact ⟨_, [], h0, ⟨none, 0, rfl, by simp, by simp, by simp, by simp⟩, by simp [heavy]⟩
  · have hm' : m = cap := by simpa using hmm
    subst hm'
    have each : ∀ i, i < m → ∃ p : PieceD, (W.cell? (a.add (i * 3)) = some (.int .i64 p.kind) ∧ W.cell? (a.add (i * 3 + 1)) = some (.int .u64 (p.n : Int)) ∧ W.cell? (a.add (i * 3 + 2)) = some (.string p.s)) ∧
        (p.n < 18446744073709551616 ∧ -9223372036854775808 ≤ p.kind ∧ p.kind ≤ 9223372036854775807) ∧ p.s.size + 4 ≤ Rows.uptoBulk (D i) := by
      intro i hi
      obtain ⟨cs', h1, h2⟩ := hel i hi
      rw [show Try.prog.cellsOf 37 = 3 by kernel_rfl] at h1
      obtain ⟨_, hlen, hcell⟩ := World.cells?_some h1
      obtain ⟨xs, k, hk, hxy, _, hxl, hf⟩ := DataW.trod_struct Try.underlying37 h2
      match xs, hxl, cs', hlen with
      | [y0, y1, y2], _, [v0, v1, v2], _ =>
        have g0 := hf 0 _ rfl
        have g1 := hf 1 _ rfl
        have g2 := hf 2 _ rfl
        simp [show Try.prog.cellsOf 3 = 1 by kernel_rfl, show Try.prog.cellsOf 31 = 1 by kernel_rfl, show Try.prog.cellsOf 9 = 1 by kernel_rfl] at g0 g1 g2
        obtain ⟨kd, e0, f0, w0⟩ := DataW.trod_int Try.underlying3 g0
        obtain ⟨nn, e1, f1, w1⟩ := DataW.trod_int Try.underlying31 g1
        obtain ⟨ss, e2, f2, _⟩ := DataW.trod_string Try.underlying9 g2
        simp at e0 e1 e2
        subst e0 e1 e2
        have b0 := bounds_i64 w0
        have b1 := bounds_u64 w1
        have c0 := hcell 0 (by omega)
        have c1 := hcell 1 (by omega)
        have c2 := hcell 2 (by omega)
        rw [add_add] at c0 c1 c2
        simp only [Prod.mk.injEq] at hxy
        refine ⟨⟨kd, nn.toNat, ss⟩, ⟨by simpa using c0, ?_, by simpa using c2⟩, ⟨by show nn.toNat < _; omega, b0.1, b0.2⟩, ?_⟩
        · have : ((nn.toNat : Nat) : Int) = nn := by omega
          rw [this]
          simpa using c1
        · rw [hxy.1, f0, f1, f2]
          simp [Rows.uptoBulk, Rows.uptoBulkAll]
          omega
    have inh : Inhabited PieceD := ⟨⟨0, 0, ByteArray.empty⟩⟩
    obtain ⟨f, hfp⟩ := choose_lt each
    have hll : ((List.range len).map f).length = len := by simp
    refine ⟨_, (List.range len).map f, hcs, ⟨some a, m, by rw [hll], by omega, hm, ?_, ?_⟩, ?_⟩
    · intro x hx
      simp only [List.mem_map, List.mem_range] at hx
      obtain ⟨i, hi, rfl⟩ := hx
      exact (hfp i (by omega)).2.1
    · intro hne
      have hpos : 0 < len := by
        rcases Nat.eq_zero_or_pos len with h | h
        · subst h; simp at hne
        · exact h
      obtain ⟨b, o, spot⟩ := a
      have hc := (hfp 0 (by omega)).1.1
      have hspot : spot = none := by simpa [Addr.add] using World.cell?_spot hc
      subst hspot
      refine ⟨b, o, rfl, fun j x hx => ?_⟩
      have hj : j < len := by
        have := (List.getElem?_eq_some_iff.1 hx).1
        simpa using this
      rw [List.getElem?_map, List.getElem?_range hj] at hx
      simp at hx
      subst hx
      have hc := (hfp j (by omega)).1
      rw [add_at, add_at, add_at] at hc
      exact hc
    · have hk := bulk_all_map f D len (fun i hi => (hfp i (by omega)).2.2)
      rw [hx]
      simp only [Rows.uptoBulk]
      omega

/-- What the bound gives. -/
theorem small_of {H : Type} {l : List (DataW H)} (hk : Rows.uptoSmall H l = true) : Rows.uptoBulkAll l ≤ 1048576 := of_decide_eq_true hk

end Go.Proofs.Ytkhgdeklgcafpab
