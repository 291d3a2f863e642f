/-
  A list of lists of bytes that came in, opened.
-/
import Derived.Test.YthjdlbejfaejkaaRowB
import Derived.Deep.Slices
import Derived.ChangeArms
import Derived.OpenShut
namespace Go.Proofs.Ythjdlbejfaejkaa
open Go.RowKit Go.Deep Go.ChangeShapes
set_option linter.unusedVariables false

theorem reads_row (W : World) (x : Addr) (zs : List Int) {len cap : Nat} (hl : len ≤ cap) (hm : cap ≤ maxLen) (hz : zs.length = cap) (hcell : ∀ i, i < zs.length → W.cell? (x.add i) = some (.int .u8 (zs.getD i 0))) (hwz : ∀ n ∈ zs, (Lit.int .u8 n).wf = true) :
    ∃ l, Reads W (.slice (some x) len cap) l := by
  have hlen : ((zs.take len).map fun z => UInt8.ofNat z.toNat).length = len := by rw [List.length_map, List.length_take]; omega
  refine ⟨(zs.take len).map fun z => UInt8.ofNat z.toNat, ⟨some x, cap, by rw [hlen], by omega, hm, by simp, fun hne => ?_⟩⟩
  have hpos : 0 < len := by
    rcases Nat.eq_zero_or_pos len with h | h
    · subst h; simp at hne
    · exact h
  obtain ⟨b, o, spot⟩ := x
  have hc := hcell 0 (by omega)
  have hspot : spot = none := by simpa [Addr.add] using World.cell?_spot hc
  subst hspot
  refine ⟨b, o, rfl, fun j u hu => ?_⟩
  rw [List.getElem?_map, Option.map_eq_some_iff] at hu
  obtain ⟨z, hz1, rfl⟩ := hu
  have hj : j < len := by
    have := (List.getElem?_eq_some_iff.1 hz1).1
    rw [List.length_take] at this; omega
  rw [List.getElem?_take_of_lt hj] at hz1
  have h := hcell j (by omega)
  have hadd : (⟨b, o, Option.none⟩ : Addr).add j = ⟨b, o + j, Option.none⟩ := by unfold Addr.add; split <;> simp_all
  rw [hadd] at h
  rw [h]
  have hzz : zs.getD j 0 = z := by simp [List.getD, hz1]
  rw [hzz]
  have hw := bounds_u8 (hwz z (List.mem_of_getElem? hz1))
  congr 1
  exact (B8_of z.toNat z (by omega))

/-- The slice v holds the lists of bytes ls. -/
def HoldsL (w : World) (v : Value) (ls : List (List UInt8)) : Prop :=
  ∃ a cap, v = .slice a ls.length cap ∧ ls.length ≤ cap ∧ cap ≤ maxLen ∧ (ls ≠ [] → ∃ b o, a = some ⟨b, o, none⟩ ∧ ∀ j l, ls[j]? = some l → ∃ u, w.cell? ⟨b, o + j, none⟩ = some u ∧ Reads w u l)
theorem HoldsL.keep {w w' : World} {v : Value} {ls : List (List UInt8)} (h : HoldsL w v ls) (k : Kept [] w w') : HoldsL w' v ls := by
  obtain ⟨a, cap, h1, h2, h3, h4⟩ := h
  refine ⟨a, cap, h1, h2, h3, fun hne => ?_⟩
  obtain ⟨b, o, h5, h6⟩ := h4 hne
  refine ⟨b, o, h5, fun j l hl => ?_⟩
  obtain ⟨u, hu, hr⟩ := h6 j l hl
  exact ⟨u, by rw [k.cell (World.block_lt_of_cell? _ _ hu) (by simp)]; exact hu, hr.kept k (by simp)⟩
/-- One of them. -/
theorem HoldsL.at {w : World} {v : Value} {ls : List (List UInt8)} (h : HoldsL w v ls) (j : Nat) (l : List UInt8) (hl : ls[j]? = some l) :
    ∃ b o cap a c, v = .slice (some ⟨b, o, none⟩) ls.length cap ∧ ls.length ≤ cap ∧ cap ≤ 9223372036854775807 ∧ w.cell? ⟨b, o + j, none⟩ = some (.slice a l.length c) ∧ Reads w (.slice a l.length c) l := by
  obtain ⟨a, cap, h1, h2, h3, h4⟩ := h
  obtain ⟨b, o, rfl, h6⟩ := h4 (by intro e; subst e; simp at hl)
  obtain ⟨u, hu, hr⟩ := h6 j l hl
  obtain ⟨a', c', rfl, _⟩ := id hr
  exact ⟨b, o, cap, a', c', h1, h2, h3, hu, hr⟩

set_option maxRecDepth 100000 in
theorem open_lists {H : Type} {enc : TypeId × Value → H} {W : World} {fuel : Nat} {cs : List Value} {x : DataW H × List MemPlace} (h : DataW.trod enc Try.prog W 0 (fun _ => true) true fuel 22 cs = some x) :
    ∃ v l, cs = [v] ∧ HoldsL W v l := by
  rcases open_slice Try.underlying22 h with ⟨h0, hx⟩ | ⟨a, len, cap, m, n, D, Pl, hcs, hb, hl, hm, hmm, hx, hel⟩
  · exact ⟨_, [], h0, ⟨none, 0, rfl, by simp, by simp, by simp⟩⟩
  · have hm' : m = cap := by simpa using hmm
    subst hm'
    have each : ∀ i, i < m → ∃ l : List UInt8, ∃ u, W.cell? (a.add i) = some u ∧ Reads W u l := by
      intro i hi
      obtain ⟨cs', h1, h2⟩ := hel i hi
      rw [show Try.prog.cellsOf 32 = 1 by kernel_rfl, Nat.mul_one] at h1
      obtain ⟨_, hlen, hcell⟩ := World.cells?_some h1
      rcases open_ints Try.underlying32 Try.underlying5 (by kernel_rfl) h2 with ⟨hcs2, hx2⟩ | ⟨y, l, c, zs, hcs2, _, hl2, hm2, hz, hx2, hcell2, hwz⟩
      · subst hcs2
        have c0 := hcell 0 (by omega)
        exact ⟨[], _, by simpa [Addr.add] using c0, Reads.nil W⟩
      · subst hcs2
        have c0 := hcell 0 (by omega)
        obtain ⟨ll, hr⟩ := reads_row W y zs hl2 hm2 (by simpa using hz) hcell2 hwz
        exact ⟨ll, _, by simpa [Addr.add] using c0, hr⟩
    have inh : Inhabited (List UInt8) := ⟨[]⟩
    obtain ⟨f, hfp⟩ := choose_lt each
    have hll : ((List.range len).map f).length = len := by simp
    refine ⟨_, (List.range len).map f, hcs, ⟨some a, m, by rw [hll], by omega, hm, ?_⟩⟩
    intro hne
    have hpos : 0 < len := by
      rcases Nat.eq_zero_or_pos len with h | h
      · subst h; simp at hne
      · exact h
    obtain ⟨b, o, spot⟩ := a
    obtain ⟨u0, hc, _⟩ := hfp 0 (by omega)
    have hspot : spot = none := by simpa [Addr.add] using World.cell?_spot hc
    subst hspot
    refine ⟨b, o, rfl, fun j x hx => ?_⟩
    have hj : j < len := by
      have := (List.getElem?_eq_some_iff.1 hx).1
      simpa using this
    rw [List.getElem?_map, List.getElem?_range hj] at hx
    simp at hx
    subst hx
    obtain ⟨u, hu, hr⟩ := hfp j (by omega)
    rw [add_at] at hu
    exact ⟨u, hu, hr⟩

end Go.Proofs.Ythjdlbejfaejkaa
