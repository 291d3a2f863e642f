import Derived.Deep.Slices
import Derived.ChangeArms
import Derived.OpenShut
import Derived.SizedLaws
import Derived.Test.YtaefmhfkjpnbiaaGreatQ36
/-
  Lists of changes that came in, opened.
-/
namespace Go.Proofs.YtaefmhfkjpnbiaaGreat
open Go.RowKit Go.Deep Go.ChangeShapes
set_option linter.unusedVariables false

theorem weightsAll_mem {H : Type} {P : Program} {e : TypeId} {d : DataW H} {n : Nat} : ∀ {ds : List (DataW H)}, d ∈ ds → n ∈ d.weights P e → n ∈ DataW.weightsAll P e ds
  | [], h, _ => by cases h
  | x :: r, h, hn => by
    simp only [DataW.weightsAll, List.mem_append]
    rcases List.mem_cons.1 h with rfl | h
    · exact .inl hn
    · exact .inr (weightsAll_mem h hn)
theorem addr_add_add (a : Addr) (i j : Nat) : (a.add i).add j = a.add (i + j) := by
  obtain ⟨b, o, s⟩ := a
  unfold Addr.add
  by_cases hi : i = 0
  · by_cases hj : j = 0
    · simp [hi, hj]
    · simp [hi, hj]
  · by_cases hj : j = 0
    · simp [hi, hj]
    · simp [hi, hj, Nat.add_assoc]
/-- Sizes that came in. -/
def InQ (rs : List Cq) : Prop := rs.length ≤ 4398046511104 ∧ ∀ x ∈ rs, x.c.val.length ≤ 140737488355328 ∧ x.c.key.length ≤ 140737488355328
set_option maxRecDepth 100000 in
theorem open_chs {H : Type} {enc : TypeId × Value → H} {W : World} {fuel : Nat} {cs : List Value} {x : DataW H × List MemPlace} (h : DataW.trod enc Tryz.prog W 0 (fun _ => true) true fuel 40 cs = some x) (hsz : ∀ n ∈ x.1.weights Tryz.prog 40, n ≤ reachBytes) :
    ∃ v l, cs = [v] ∧ RowQ W v l ∧ ValsQ W l ∧ InQ l := by
  rcases open_slice Tryz.underlying40 h with ⟨h0, hx⟩ | ⟨a, len, cap, m, n, D, Pl, hcs, hb, hl, hm, hmm, hx, hel⟩
  · exact ⟨_, [], h0, ReadsR.nil 3 W, by intro x hx; simp at hx, by simp, by simp⟩
  · have hm' : m = cap := by simpa using hmm
    subst hm'
    have hlen : len ≤ 4398046511104 := by
      have := hsz ((((List.range len).map D).length + ((List.range (m - len)).map fun i => D (len + i)).length) * Tryz.prog.bytesOf 62) (by
        rw [hx]
        simp only [DataW.weights, Tryz.underlying40, List.mem_cons]
        left
        simp)
      rw [show Tryz.prog.bytesOf 62 = 48 by kernel_rfl] at this
      unfold reachBytes at this
      simp at this
      omega
    have each : ∀ i, i < len → ∃ p : Cq, (W.cell? (a.add (i * 3)) = some (Sv p.c.key) ∧ W.cell? (a.add (i * 3 + 1)) = some (.slice p.ad p.c.val.length p.cap) ∧ W.cell? (a.add (i * 3 + 2)) = some (.bool p.c.gone)) ∧ Reads W (.slice p.ad p.c.val.length p.cap) p.c.val ∧ p.c.val.length ≤ 140737488355328 ∧ p.c.key.length ≤ 140737488355328 := by
      intro i hi
      obtain ⟨cs', h1, h2⟩ := hel i (by omega)
      have hwt : ∀ z ∈ (D i).weights Tryz.prog 62, z ≤ reachBytes := fun z hz => hsz z (by
        rw [hx]
        simp only [DataW.weights, Tryz.underlying40, List.mem_cons, List.mem_append]
        exact .inr (.inl (weightsAll_mem (List.mem_map.2 ⟨i, List.mem_range.2 hi, rfl⟩) hz)))
      rw [show Tryz.prog.cellsOf 62 = 3 by kernel_rfl] at h1
      obtain ⟨_, hlen, hcell⟩ := World.cells?_some h1
      obtain ⟨xs, k, hk, hxy, _, hxl, hf⟩ := DataW.trod_struct Tryz.underlying62 h2
      match xs, hxl, cs', hlen with
      | [y0, y1, y2], _, [v0, v1, v2], _ =>
        have g0 := hf 0 _ rfl
        have g1 := hf 1 _ rfl
        have g2 := hf 2 _ rfl
        simp [show Tryz.prog.cellsOf 9 = 1 by kernel_rfl, show Tryz.prog.cellsOf 48 = 1 by kernel_rfl, show Tryz.prog.cellsOf 4 = 1 by kernel_rfl] at g0 g1 g2
        obtain ⟨ks, e0, f0, w0⟩ := DataW.trod_string Tryz.underlying9 g0
        obtain ⟨gn, e2, f2⟩ := DataW.trod_bool Tryz.underlying4 g2
        simp at e0 e2
        subst e0 e2
        have c0 := hcell 0 (by omega)
        have c1 := hcell 1 (by omega)
        have c2 := hcell 2 (by omega)
        rw [addr_add_add] at c0 c1 c2
        have hD : D i = .agg [y0.1, y1.1, y2.1] := by
          have := congrArg Prod.fst hxy
          simpa using this
        have hkl : ks.data.toList.length ≤ 140737488355328 := by
          have := hwt ks.data.toList.length (by
            rw [hD, f0]
            simp [DataW.weights, DataW.weightsEach, Tryz.underlying62])
          unfold reachBytes at this
          omega
        have hks : Sv ks.data.toList = .string ks := by
          obtain ⟨d⟩ := ks
          simp
        have fin : ∀ B, Reads W v1 B → B.length ≤ 140737488351232 → ∃ p : Cq, (W.cell? (a.add (i * 3)) = some (Sv p.c.key) ∧ W.cell? (a.add (i * 3 + 1)) = some (.slice p.ad p.c.val.length p.cap) ∧ W.cell? (a.add (i * 3 + 2)) = some (.bool p.c.gone)) ∧ Reads W (.slice p.ad p.c.val.length p.cap) p.c.val ∧ p.c.val.length ≤ 140737488355328 ∧ p.c.key.length ≤ 140737488355328 := fun B hB hBl => by
          obtain ⟨ad', cp', rfl, _⟩ := id hB
          exact ⟨⟨⟨ks.data.toList, B, gn⟩, ad', cp'⟩, ⟨by rw [hks]; simpa using c0, by simpa using c1, by simpa using c2⟩, hB, by show B.length ≤ _; omega, hkl⟩
        rcases open_ints Tryz.underlying48 Tryz.underlying5 (by kernel_rfl) g1 with ⟨hcs2, hx2⟩ | ⟨y, l, c, zs, hcs2, _, hl2, hm2, hz, hx2, hcell2, hwz⟩
        · simp at hcs2
          subst hcs2
          exact fin [] (Reads.nil W) (by simp)
        · simp at hcs2
          subst hcs2
          have hz2 : zs.length = c := by simpa using hz
          have hw2 : zs.length * Tryz.prog.bytesOf 5 ≤ reachBytes := by
            refine hwt _ ?_
            rw [hD, hx2]
            simp [DataW.weights, DataW.weightsEach, Tryz.underlying62, Tryz.underlying48, lits]
            exact .inr (.inl (by congr 1; omega))
          rw [show Tryz.prog.bytesOf 5 = 1 by kernel_rfl] at hw2
          obtain ⟨B, hB, hBl⟩ := reads_of_row W y zs hl2 hm2 hz2 hcell2 hwz (by unfold reachBytes at hw2; omega)
          exact fin B hB hBl
    obtain ⟨f, hfp⟩ := choose_lt each
    have hll : ((List.range len).map f).length = len := by simp
    refine ⟨_, (List.range len).map f, hcs, ⟨some a, m, by rw [CQ_length, hll], by rw [CQ_length, hll]; omega, hm, by simp, fun hne => ?_⟩, ?_, by rw [hll]; exact hlen, ?_⟩
    · have hpos : 0 < len := by
        rcases Nat.eq_zero_or_pos len with h | h
        · subst h; simp [CQ] at hne
        · exact h
      obtain ⟨b, o, spot⟩ := a
      have hc := (hfp 0 (by omega)).1.1
      have hspot : spot = none := by simpa [Addr.add] using World.cell?_spot hc
      subst hspot
      refine ⟨b, o, rfl, fun j r hr i y hy => ?_⟩
      have hr' : ((List.range len).map f).map encQ = CQ ((List.range len).map f) := rfl
      rw [← hr', List.getElem?_map, Option.map_eq_some_iff] at hr
      obtain ⟨p, hp, rfl⟩ := hr
      have hj : j < len := by
        have := (List.getElem?_eq_some_iff.1 hp).1
        simpa using this
      rw [List.getElem?_map, List.getElem?_range hj] at hp
      simp at hp
      subst hp
      obtain ⟨c0, c1, c2⟩ := (hfp j hj).1
      rw [add_at] at c0 c1 c2
      have hi : i < 3 := (List.getElem?_eq_some_iff.1 hy).1
      rcases (by omega : i = 0 ∨ i = 1 ∨ i = 2) with rfl | rfl | rfl
      · simp [encQ] at hy; subst hy; simpa using c0
      · simp [encQ] at hy; subst hy; simpa [Nat.add_assoc] using c1
      · simp [encQ] at hy; subst hy; simpa [Nat.add_assoc] using c2
    · intro x hx
      simp only [List.mem_map, List.mem_range] at hx
      obtain ⟨i, hi, rfl⟩ := hx
      exact (hfp i hi).2.1
    · intro x hx
      simp only [List.mem_map, List.mem_range] at hx
      obtain ⟨i, hi, rfl⟩ := hx
      exact (hfp i hi).2.2
end Go.Proofs.YtaefmhfkjpnbiaaGreat
