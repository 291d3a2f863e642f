/-
  A script of calls that came in, opened; one call that came in by value.
-/
import Derived.Test.YtilelklcfgemoaaDa
import Derived.Deep.Slices
import Derived.ChangeArms
import Derived.OpenShut
import Derived.SizedLaws
namespace Go.Proofs.Ytilelklcfgemoaa
open Go.RowKit Go.Deep Go.ChangeShapes
set_option linter.unusedVariables false

set_option maxRecDepth 100000 in
/-- A slice that came in lies in the memory that came in. -/
theorem arg_lt {w : World} {base t e : Nat} {a : Option Addr} {n c : Nat} (ht : Try.prog.underlying t = some (.slice e)) (h : Value.okWide Try.prog w .any base t (.slice a n c)) : ∀ g, (Value.slice a n c).ownBlock = some g → g < w.heap.size := by
  intro g hg
  cases a with
  | none => simp [Value.ownBlock] at hg
  | some x =>
    simp [Value.ownBlock] at hg
    subst hg
    have h2 : World.has Try.prog w .any base x e c := by
      simp only [Value.okWide, ht, Cell.okWide, Cell.ok] at h
      exact h.2.2
    obtain ⟨_, _, row, cells, hs, _⟩ := h2
    refine Nat.lt_of_not_le fun hle => ?_
    have hn : w.heap[x.block]? = none := by simpa using hle
    simp [World.shape?, hn] at hs
/-- A call of the script. -/
structure OpL where
  kind : Int
  n : Int
  b : List UInt8
def OpL.ok (x : OpL) : Prop := -9223372036854775808 ≤ x.n ∧ x.n < 9223372036854775808 ∧ x.b.length ≤ 140737488351232
/-- The slice v (three cells an element) reads as the calls l. -/
def HoldsO (w : World) (v : Value) (l : List OpL) : Prop :=
  ∃ a cap, v = .slice a l.length cap ∧ l.length ≤ cap ∧ cap ≤ maxLen ∧ (∀ x ∈ l, x.ok) ∧
    (l ≠ [] → ∃ b o, a = some ⟨b, o, none⟩ ∧ ∀ j x, l[j]? = some x → w.cell? ⟨b, o + j * 3, none⟩ = some (.int .i64 x.kind) ∧ w.cell? ⟨b, o + j * 3 + 1, none⟩ = some (.int .i64 x.n) ∧ ∃ u, w.cell? ⟨b, o + j * 3 + 2, none⟩ = some u ∧ Reads w u x.b)
theorem HoldsO.at {w : World} {v : Value} {l : List OpL} (h : HoldsO w v l) (j : Nat) (x : OpL) (hx : l[j]? = some x) {w' : World} (k : Kept [] w w') :
    ∃ b o cap a c, v = .slice (some ⟨b, o, none⟩) l.length cap ∧ w'.cell? ⟨b, o + j * 3, none⟩ = some (.int .i64 x.kind) ∧ w'.cell? ⟨b, o + j * 3 + 1, none⟩ = some (.int .i64 x.n) ∧ w'.cell? ⟨b, o + j * 3 + 2, none⟩ = some (.slice a x.b.length c) ∧ Reads w (.slice a x.b.length c) x.b ∧ x.ok := by
  obtain ⟨a, cap, rfl, h2, h3, h4, h5⟩ := h
  obtain ⟨b, o, rfl, hc⟩ := h5 (by intro e; subst e; simp at hx)
  obtain ⟨c0, c1, u, c2, hr⟩ := hc j x hx
  obtain ⟨a', c', rfl, _⟩ := id hr
  exact ⟨b, o, cap, a', c', rfl, by rw [k.cell (World.block_lt_of_cell? w _ c0) (by simp)]; exact c0, by rw [k.cell (World.block_lt_of_cell? w _ c1) (by simp)]; exact c1, by rw [k.cell (World.block_lt_of_cell? w _ c2) (by simp)]; exact c2, hr, h4 x (List.mem_of_getElem? hx)⟩
theorem weightsAll_mem {H : Type} {P : Program} {e : TypeId} {d : DataW H} {n : Nat} : ∀ {ds : List (DataW H)}, d ∈ ds → n ∈ d.weights P e → n ∈ DataW.weightsAll P e ds
  | [], h, _ => by cases h
  | x :: r, h, hn => by
    simp only [DataW.weightsAll, List.mem_append]
    rcases List.mem_cons.1 h with rfl | h
    · exact .inl hn
    · exact .inr (weightsAll_mem h hn)
theorem addr_add_add (a : Addr) (i j : Nat) : (a.add i).add j = a.add (i + j) := by
  obtain ⟨b, o, s⟩ := a
  unfold Addr.add
  by_cases hi : i = 0
  · by_cases hj : j = 0
    · simp [hi, hj]
    · simp [hi, hj]
  · by_cases hj : j = 0
    · simp [hi, hj]
    · simp [hi, hj, Nat.add_assoc]

set_option maxRecDepth 100000 in
theorem open_ops {H : Type} {enc : TypeId × Value → H} {W : World} {fuel : Nat} {cs : List Value} {x : DataW H × List MemPlace} (h : DataW.trod enc Try.prog W 0 (fun _ => true) true fuel 22 cs = some x) (hsz : ∀ n ∈ x.1.weights Try.prog 22, n ≤ reachBytes) :
    ∃ v l, cs = [v] ∧ HoldsO W v l := by
  rcases open_slice Try.underlying22 h with ⟨h0, hx⟩ | ⟨a, len, cap, m, n, D, Pl, hcs, hb, hl, hm, hmm, hx, hel⟩
  · exact ⟨_, [], h0, ⟨none, 0, rfl, by simp, by simp, by simp, by simp⟩⟩
  · have hm' : m = cap := by simpa using hmm
    subst hm'
    have each : ∀ i, i < len → ∃ p : OpL, (W.cell? (a.add (i * 3)) = some (.int .i64 p.kind) ∧ W.cell? (a.add (i * 3 + 1)) = some (.int .i64 p.n) ∧ ∃ u, W.cell? (a.add (i * 3 + 2)) = some u ∧ Reads W u p.b) ∧ p.ok := by
      intro i hi
      obtain ⟨cs', h1, h2⟩ := hel i (by omega)
      have hwt : ∀ z ∈ (D i).weights Try.prog 33, z ≤ reachBytes := fun z hz => hsz z (by
        rw [hx]
        simp only [DataW.weights, Try.underlying22, List.mem_cons, List.mem_append]
        exact .inr (.inl (weightsAll_mem (List.mem_map.2 ⟨i, List.mem_range.2 hi, rfl⟩) hz)))
      rw [show Try.prog.cellsOf 33 = 3 by kernel_rfl] at h1
      obtain ⟨_, hlen, hcell⟩ := World.cells?_some h1
      obtain ⟨xs, k, hk, hxy, _, hxl, hf⟩ := DataW.trod_struct Try.underlying33 h2
      match xs, hxl, cs', hlen with
      | [y0, y1, y2], _, [v0, v1, v2], _ =>
        have g0 := hf 0 _ rfl
        have g1 := hf 1 _ rfl
        have g2 := hf 2 _ rfl
        simp [show Try.prog.cellsOf 3 = 1 by kernel_rfl, show Try.prog.cellsOf 31 = 1 by kernel_rfl] at g0 g1 g2
        obtain ⟨kd, e0, f0, w0⟩ := DataW.trod_int Try.underlying3 g0
        obtain ⟨ii, e1, f1, w1⟩ := DataW.trod_int Try.underlying3 g1
        simp at e0 e1
        subst e0 e1
        have b1 := bounds_i64 w1
        have c0 := hcell 0 (by omega)
        have c1 := hcell 1 (by omega)
        have c2 := hcell 2 (by omega)
        rw [addr_add_add] at c0 c1 c2
        have hD : D i = .agg [y0.1, y1.1, y2.1] := by
          have := congrArg Prod.fst hxy
          simpa using this
        have fin : ∀ B, Reads W v2 B → B.length ≤ 140737488351232 → ∃ p : OpL, (W.cell? (a.add (i * 3)) = some (.int .i64 p.kind) ∧ W.cell? (a.add (i * 3 + 1)) = some (.int .i64 p.n) ∧ ∃ u, W.cell? (a.add (i * 3 + 2)) = some u ∧ Reads W u p.b) ∧ p.ok := fun B hB hBl =>
          ⟨⟨kd, ii, B⟩, ⟨by simpa using c0, by simpa using c1, v2, by simpa using c2, hB⟩, by unfold OpL.ok; dsimp only; omega⟩
        rcases open_ints Try.underlying31 Try.underlying5 (by kernel_rfl) g2 with ⟨hcs2, hx2⟩ | ⟨y, l, c, zs, hcs2, _, hl2, hm2, hz, hx2, hcell2, hwz⟩
        · simp at hcs2
          subst hcs2
          exact fin [] (Reads.nil W) (by simp)
        · simp at hcs2
          subst hcs2
          have hz2 : zs.length = c := by simpa using hz
          have hw2 : zs.length * Try.prog.bytesOf 5 ≤ reachBytes := by
            refine hwt _ ?_
            rw [hD, hx2]
            simp [DataW.weights, DataW.weightsEach, Try.underlying33, Try.underlying31, lits]
            exact .inr (.inr (.inl (by congr 1; omega)))
          rw [show Try.prog.bytesOf 5 = 1 by kernel_rfl] at hw2
          obtain ⟨B, hB, hBl⟩ := reads_of_row W y zs hl2 hm2 hz2 hcell2 hwz (by unfold reachBytes at hw2; omega)
          exact fin B hB hBl
    have inh : Inhabited OpL := ⟨⟨0, 0, []⟩⟩
    obtain ⟨f, hfp⟩ := choose_lt each
    have hll : ((List.range len).map f).length = len := by simp
    refine ⟨_, (List.range len).map f, hcs, ⟨some a, m, by rw [hll], by omega, hm, ?_, ?_⟩⟩
    · intro x hx
      simp only [List.mem_map, List.mem_range] at hx
      obtain ⟨i, hi, rfl⟩ := hx
      exact (hfp i (by omega)).2
    · intro hne
      have hpos : 0 < len := by
        rcases Nat.eq_zero_or_pos len with h | h
        · subst h; simp at hne
        · exact h
      obtain ⟨b, o, spot⟩ := a
      have hc := (hfp 0 (by omega)).1.1
      have hspot : spot = none := by simpa [Addr.add] using World.cell?_spot hc
      subst hspot
      refine ⟨b, o, rfl, fun j x hx => ?_⟩
      have hj : j < len := by
        have := (List.getElem?_eq_some_iff.1 hx).1
        simpa using this
      rw [List.getElem?_map, List.getElem?_range hj] at hx
      simp at hx
      subst hx
      have hc := (hfp j (by omega)).1
      rw [add_at, add_at, add_at] at hc
      exact hc
set_option maxRecDepth 100000 in
theorem open_op {H : Type} {enc : TypeId × Value → H} {W : World} {fuel : Nat} {cs : List Value} {x : DataW H × List MemPlace} (h : DataW.trod enc Try.prog W 0 (fun _ => true) true fuel 33 cs = some x) (hl : cs.length = 3) (hsz : ∀ n ∈ x.1.weights Try.prog 33, n ≤ reachBytes) :
    ∃ (p : OpL) (a : Option Addr) (c : Nat), cs = [.int .i64 p.kind, .int .i64 p.n, .slice a p.b.length c] ∧ Reads W (.slice a p.b.length c) p.b ∧ p.ok := by
  obtain ⟨xs, k, hk, hxy, _, hxl, hf⟩ := DataW.trod_struct Try.underlying33 h
  match xs, hxl, cs, hl with
  | [y0, y1, y2], _, [v0, v1, v2], _ =>
    have g0 := hf 0 _ rfl
    have g1 := hf 1 _ rfl
    have g2 := hf 2 _ rfl
    simp [show Try.prog.cellsOf 3 = 1 by kernel_rfl, show Try.prog.cellsOf 31 = 1 by kernel_rfl] at g0 g1 g2
    obtain ⟨kd, e0, f0, w0⟩ := DataW.trod_int Try.underlying3 g0
    obtain ⟨ii, e1, f1, w1⟩ := DataW.trod_int Try.underlying3 g1
    simp at e0 e1
    subst e0 e1
    have b1 := bounds_i64 w1
    have hD : x.1 = .agg [y0.1, y1.1, y2.1] := by
      have := congrArg Prod.fst hxy
      simpa using this
    have fin : ∀ B, Reads W v2 B → B.length ≤ 140737488351232 → ∃ (p : OpL) (a : Option Addr) (c : Nat), [Value.int .i64 kd, .int .i64 ii, v2] = [.int .i64 p.kind, .int .i64 p.n, .slice a p.b.length c] ∧ Reads W (.slice a p.b.length c) p.b ∧ p.ok := fun B hB hBl => by
      obtain ⟨a', c', rfl, _⟩ := id hB
      exact ⟨⟨kd, ii, B⟩, a', c', rfl, hB, by unfold OpL.ok; dsimp only; omega⟩
    rcases open_ints Try.underlying31 Try.underlying5 (by kernel_rfl) g2 with ⟨hcs2, hx2⟩ | ⟨y, l, c, zs, hcs2, _, hl2, hm2, hz, hx2, hcell2, hwz⟩
    · simp at hcs2
      subst hcs2
      exact fin [] (Reads.nil W) (by simp)
    · simp at hcs2
      subst hcs2
      have hz2 : zs.length = c := by simpa using hz
      have hw2 : zs.length * Try.prog.bytesOf 5 ≤ reachBytes := by
        refine hsz _ ?_
        rw [hD, hx2]
        simp [DataW.weights, DataW.weightsEach, Try.underlying33, Try.underlying31, lits]
        exact .inr (.inr (.inl (by congr 1; omega)))
      rw [show Try.prog.bytesOf 5 = 1 by kernel_rfl] at hw2
      obtain ⟨B, hB, hBl⟩ := reads_of_row W y zs hl2 hm2 hz2 hcell2 hwz (by unfold reachBytes at hw2; omega)
      exact fin B hB hBl
end Go.Proofs.Ytilelklcfgemoaa
