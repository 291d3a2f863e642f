/-
  Rows of texts in memory; append to one. A script of calls that came in, opened.
-/
import Derived.Test.YtdcjaopmfccgbaaAwk
import Derived.Deep.Slices
import Derived.ChangeArms
import Derived.OpenShut
import Derived.SizedLaws
namespace Go.Proofs.Ytdcjaopmfccgbaa
open Go.RowKit Go.Deep Go.ChangeShapes
set_option linter.unusedVariables false

theorem inf9 : (Try.prog.info? 9).map (fun i => (i.zero, i.size, i.bytes)) = some (some (.string ⟨#[]⟩), 1, 16) := by kernel_rfl
/-- A text as a cell. -/
def T8 (t : List UInt8) : Value := .string ⟨t.toArray⟩
/-- Texts as cells. -/
def CT (l : List (List UInt8)) : List Value := l.map T8
theorem CT_length (l : List (List UInt8)) : (CT l).length = l.length := by simp [CT]
theorem CT_append (a b : List (List UInt8)) : CT (a ++ b) = CT a ++ CT b := by simp [CT]
theorem CT_one (l : List (List UInt8)) : ∀ u ∈ CT l, u.oneCell' = true := by
  intro u hu
  simp only [CT, List.mem_map] at hu
  obtain ⟨b, _, rfl⟩ := hu
  rfl
/-- The slice v reads as the texts l. -/
def ReadsT (w : World) (v : Value) (l : List (List UInt8)) : Prop :=
  ∃ a cap, v = .slice a l.length cap ∧ l.length ≤ cap ∧ cap ≤ maxLen ∧ (a = none → cap = 0) ∧ (l ≠ [] → ∃ b o, a = some ⟨b, o, none⟩ ∧ ∀ j u, l[j]? = some u → w.cell? ⟨b, o + j, none⟩ = some (T8 u))
theorem ReadsT.nil (w : World) : ReadsT w (.slice none 0 0) [] := ⟨none, 0, rfl, by simp, by simp, by simp, by simp⟩
theorem ReadsT.kept {S : List Nat} {w w' : World} {v : Value} {l : List (List UInt8)} (h : ReadsT w v l) (k : Kept S w w') (hn : ∀ g, v.ownBlock = some g → g ∉ S) : ReadsT w' v l := by
  obtain ⟨a, cap, rfl, h2, h3, h4, h5⟩ := h
  refine ⟨a, cap, rfl, h2, h3, h4, fun hl => ?_⟩
  obtain ⟨b, o, rfl, hc⟩ := h5 hl
  refine ⟨b, o, rfl, fun j u hu => ?_⟩
  have := hc j u hu
  rw [k.cell (World.block_lt_of_cell? w _ this) (hn b rfl)]
  exact this
/-- The slice v owns the texts l, in a row of its own. -/
def OwnsT (w : World) (v : Value) (l : List (List UInt8)) : Prop := w.ownsRow 0 9 1 v l.length (CT l)
theorem OwnsT.nil (w : World) : OwnsT w (.slice none 0 0) [] := World.ownsRow_nil w 0 9 1
theorem OwnsT.reads {w : World} {v : Value} {l : List (List UInt8)} (h : OwnsT w v l) : ReadsT w v l := by
  have hcells := fun g hg => World.ownsRow.cells h (g := g) hg
  rcases h.2 with ⟨rfl, h0⟩ | ⟨g, cap, cur, rfl, _, hg, h1, h2, h3, h4⟩
  · have : l = [] := List.eq_nil_of_length_eq_zero h0
    subst this
    exact ReadsT.nil w
  · refine ⟨some ⟨g, 0, none⟩, cap, rfl, h1, h2, by simp, fun hl => ⟨g, 0, rfl, fun j u hu => ?_⟩⟩
    have := hcells g rfl j (T8 u) (by simp [CT, hu])
    have hadd : (⟨g, 0, Option.none⟩ : Addr).add j = ⟨g, 0 + j, Option.none⟩ := by unfold Addr.add; split <;> simp_all
    rw [hadd] at this
    exact this
theorem OwnsT.kept {S : List Nat} {w w' : World} {v : Value} {l : List (List UInt8)} (h : OwnsT w v l) (k : Kept S w w') (hn : ∀ g, v.ownBlock = some g → g ∉ S) : OwnsT w' v l := by
  refine ⟨h.1, ?_⟩
  rcases h.2 with h0 | ⟨g, cap, cur, rfl, hb, hg, r⟩
  · exact .inl h0
  · exact .inr ⟨g, cap, cur, rfl, hb, k.keeps hg (hn g rfl), r⟩
theorem OwnsT.lt {w : World} {v : Value} {l : List (List UInt8)} (h : OwnsT w v l) {k : Nat} (hk : v.ownBlock = some k) : k < w.heap.size := (World.ownsRow.lt h k hk).2
theorem OwnsT.form {w : World} {v : Value} {l : List (List UInt8)} (h : OwnsT w v l) : ∃ a cap, v = .slice a l.length cap := by
  rcases h.2 with ⟨rfl, h0⟩ | ⟨g, cap, cur, rfl, _⟩
  · exact ⟨none, 0, by rw [h0]⟩
  · exact ⟨_, cap, rfl⟩
theorem run_appendT (w : World) (ty : TypeId) (v : Value) (l : List (List UInt8)) (hown : OwnsT w v l) (x : Value) (m : List (List UInt8)) (hr : ReadsT w x m) (hb : l.length + m.length ≤ 4294967296) :
    ∃ ad n cap w', (Builtin.append_ #[28, 28] ty #[v, x]).run Try.prog w = .ok (.slice ad n cap) w' ∧ OwnsT w' (.slice ad n cap) (l ++ m) ∧ w.grownBy w' v.ownBlock ∧ New w v (.slice ad n cap) := by
  obtain ⟨i0, hi, hz0, hz1, hz2⟩ := info_parts inf9
  have key : ∀ v' w', (Builtin.append_ #[28, 28] ty #[v, x]).run Try.prog w = .ok v' w' → OwnsT w' v' (l ++ m) → w.grownBy w' v.ownBlock → New w v v' → ∃ ad n cap w', (Builtin.append_ #[28, 28] ty #[v, x]).run Try.prog w = .ok (.slice ad n cap) w' ∧ OwnsT w' (.slice ad n cap) (l ++ m) ∧ w.grownBy w' v.ownBlock ∧ New w v (.slice ad n cap) := by
    intro v' w' h1 h2 h3 h4
    obtain ⟨ad, cap, rfl⟩ := h2.form
    exact ⟨ad, _, cap, w', h1, h2, h3, h4⟩
  obtain ⟨a, cap, rfl, h2, h3, h4, h5⟩ := hr
  cases a with
  | none =>
    have hc := h4 rfl
    subst hc
    have h0 : m = [] := List.eq_nil_of_length_eq_zero (by omega)
    subst h0
    have hrun := run_append_owned_none (P := Try.prog) (w := w) 0 28 ty 9 i0 1 Try.underlying28 hi v l.length (CT l) hown
    exact key v w hrun (by rw [List.append_nil]; exact hown) ⟨rfl, rfl, rfl, Nat.le_refl _, fun _ _ _ => rfl⟩ (New.refl w v)
  | some a =>
    have hcell : ∀ j u, (CT m)[j]? = some u → w.cell? (a.add j) = some u := by
      intro j u hu
      simp only [CT, List.getElem?_map, Option.map_eq_some_iff] at hu
      obtain ⟨y, hy, rfl⟩ := hu
      obtain ⟨b, o, hab, hc⟩ := h5 (fun h => by subst h; simp at hy)
      simp at hab
      subst hab
      have hadd : (⟨b, o, Option.none⟩ : Addr).add j = ⟨b, o + j, Option.none⟩ := by unfold Addr.add; split <;> simp_all
      rw [hadd]
      exact hc j y hy
    obtain ⟨v', w', hrun, e1, e2, e3, e4⟩ := run_append_own_at (P := Try.prog) w 0 28 ty 9 i0 _ 1 16 Try.underlying28 hi hz0 hz1 hz2 rfl (by omega) v l.length (CT l) hown a m.length cap (CT m) (by rw [CT_length, Nat.mul_one]) hcell (CT_one m) (by unfold maxLen; omega) (by omega) (Nat.zero_le _)
    refine key v' w' hrun ?_ e2 ?_
    · unfold OwnsT; rw [CT_append, List.length_append]; exact e1
    · intro g hg
      rcases e4 with h | h
      · exact .inl (by rw [← h]; exact hg)
      · exact .inr (Nat.le_of_eq (Option.some.inj (h.symm.trans hg)))

/-- A call of the script. -/
structure OpL where
  kind : Int
  n : Int
  b : List UInt8
def OpL.ok (x : OpL) : Prop := -9223372036854775808 ≤ x.n ∧ x.n < 9223372036854775808 ∧ x.b.length ≤ 140737488351232
/-- The slice v (three cells an element) reads as the calls l. -/
def HoldsO (w : World) (v : Value) (l : List OpL) : Prop :=
  ∃ a cap, v = .slice a l.length cap ∧ l.length ≤ cap ∧ cap ≤ maxLen ∧ (∀ x ∈ l, x.ok) ∧
    (l ≠ [] → ∃ b o, a = some ⟨b, o, none⟩ ∧ ∀ j x, l[j]? = some x → w.cell? ⟨b, o + j * 3, none⟩ = some (.int .i64 x.kind) ∧ w.cell? ⟨b, o + j * 3 + 1, none⟩ = some (.int .i64 x.n) ∧ ∃ u, w.cell? ⟨b, o + j * 3 + 2, none⟩ = some u ∧ Reads w u x.b)
theorem HoldsO.at {w : World} {v : Value} {l : List OpL} (h : HoldsO w v l) (j : Nat) (x : OpL) (hx : l[j]? = some x) {w' : World} (k : Kept [] w w') :
    ∃ b o cap a c, v = .slice (some ⟨b, o, none⟩) l.length cap ∧ w'.cell? ⟨b, o + j * 3, none⟩ = some (.int .i64 x.kind) ∧ w'.cell? ⟨b, o + j * 3 + 1, none⟩ = some (.int .i64 x.n) ∧ w'.cell? ⟨b, o + j * 3 + 2, none⟩ = some (.slice a x.b.length c) ∧ Reads w (.slice a x.b.length c) x.b ∧ x.ok := by
  obtain ⟨a, cap, rfl, h2, h3, h4, h5⟩ := h
  obtain ⟨b, o, rfl, hc⟩ := h5 (by intro e; subst e; simp at hx)
  obtain ⟨c0, c1, u, c2, hr⟩ := hc j x hx
  obtain ⟨a', c', rfl, _⟩ := id hr
  exact ⟨b, o, cap, a', c', rfl, by rw [k.cell (World.block_lt_of_cell? w _ c0) (by simp)]; exact c0, by rw [k.cell (World.block_lt_of_cell? w _ c1) (by simp)]; exact c1, by rw [k.cell (World.block_lt_of_cell? w _ c2) (by simp)]; exact c2, hr, h4 x (List.mem_of_getElem? hx)⟩
theorem weightsAll_mem {H : Type} {P : Program} {e : TypeId} {d : DataW H} {n : Nat} : ∀ {ds : List (DataW H)}, d ∈ ds → n ∈ d.weights P e → n ∈ DataW.weightsAll P e ds
  | [], h, _ => by cases h
  | x :: r, h, hn => by
    simp only [DataW.weightsAll, List.mem_append]
    rcases List.mem_cons.1 h with rfl | h
    · exact .inl hn
    · exact .inr (weightsAll_mem h hn)
theorem addr_add_add (a : Addr) (i j : Nat) : (a.add i).add j = a.add (i + j) := by
  obtain ⟨b, o, s⟩ := a
  unfold Addr.add
  by_cases hi : i = 0
  · by_cases hj : j = 0
    · simp [hi, hj]
    · simp [hi, hj]
  · by_cases hj : j = 0
    · simp [hi, hj]
    · simp [hi, hj, Nat.add_assoc]

set_option maxRecDepth 100000 in
theorem open_ops {H : Type} {enc : TypeId × Value → H} {W : World} {fuel : Nat} {cs : List Value} {x : DataW H × List MemPlace} (h : DataW.trod enc Try.prog W 0 (fun _ => true) true fuel 22 cs = some x) (hsz : ∀ n ∈ x.1.weights Try.prog 22, n ≤ reachBytes) :
    ∃ v l, cs = [v] ∧ HoldsO W v l := by
  rcases open_slice Try.underlying22 h with ⟨h0, hx⟩ | ⟨a, len, cap, m, n, D, Pl, hcs, hb, hl, hm, hmm, hx, hel⟩
  · exact ⟨_, [], h0, ⟨none, 0, rfl, by simp, by simp, by simp, by simp⟩⟩
  · have hm' : m = cap := by simpa using hmm
    subst hm'
    have each : ∀ i, i < len → ∃ p : OpL, (W.cell? (a.add (i * 3)) = some (.int .i64 p.kind) ∧ W.cell? (a.add (i * 3 + 1)) = some (.int .i64 p.n) ∧ ∃ u, W.cell? (a.add (i * 3 + 2)) = some u ∧ Reads W u p.b) ∧ p.ok := by
      intro i hi
      obtain ⟨cs', h1, h2⟩ := hel i (by omega)
      have hwt : ∀ z ∈ (D i).weights Try.prog 37, z ≤ reachBytes := fun z hz => hsz z (by
        rw [hx]
        simp only [DataW.weights, Try.underlying22, List.mem_cons, List.mem_append]
        exact .inr (.inl (weightsAll_mem (List.mem_map.2 ⟨i, List.mem_range.2 hi, rfl⟩) hz)))
      rw [show Try.prog.cellsOf 37 = 3 by kernel_rfl] at h1
      obtain ⟨_, hlen, hcell⟩ := World.cells?_some h1
      obtain ⟨xs, k, hk, hxy, _, hxl, hf⟩ := DataW.trod_struct Try.underlying37 h2
      match xs, hxl, cs', hlen with
      | [y0, y1, y2], _, [v0, v1, v2], _ =>
        have g0 := hf 0 _ rfl
        have g1 := hf 1 _ rfl
        have g2 := hf 2 _ rfl
        simp [show Try.prog.cellsOf 3 = 1 by kernel_rfl, show Try.prog.cellsOf 35 = 1 by kernel_rfl] at g0 g1 g2
        obtain ⟨kd, e0, f0, w0⟩ := DataW.trod_int Try.underlying3 g0
        obtain ⟨ii, e1, f1, w1⟩ := DataW.trod_int Try.underlying3 g1
        simp at e0 e1
        subst e0 e1
        have b1 := bounds_i64 w1
        have c0 := hcell 0 (by omega)
        have c1 := hcell 1 (by omega)
        have c2 := hcell 2 (by omega)
        rw [addr_add_add] at c0 c1 c2
        have hD : D i = .agg [y0.1, y1.1, y2.1] := by
          have := congrArg Prod.fst hxy
          simpa using this
        have fin : ∀ B, Reads W v2 B → B.length ≤ 140737488351232 → ∃ p : OpL, (W.cell? (a.add (i * 3)) = some (.int .i64 p.kind) ∧ W.cell? (a.add (i * 3 + 1)) = some (.int .i64 p.n) ∧ ∃ u, W.cell? (a.add (i * 3 + 2)) = some u ∧ Reads W u p.b) ∧ p.ok := fun B hB hBl =>
          ⟨⟨kd, ii, B⟩, ⟨by simpa using c0, by simpa using c1, v2, by simpa using c2, hB⟩, by unfold OpL.ok; dsimp only; omega⟩
        rcases open_ints Try.underlying35 Try.underlying5 (by kernel_rfl) g2 with ⟨hcs2, hx2⟩ | ⟨y, l, c, zs, hcs2, _, hl2, hm2, hz, hx2, hcell2, hwz⟩
        · simp at hcs2
          subst hcs2
          exact fin [] (Reads.nil W) (by simp)
        · simp at hcs2
          subst hcs2
          have hz2 : zs.length = c := by simpa using hz
          have hw2 : zs.length * Try.prog.bytesOf 5 ≤ reachBytes := by
            refine hwt _ ?_
            rw [hD, hx2]
            simp [DataW.weights, DataW.weightsEach, Try.underlying37, Try.underlying35, lits]
            exact .inr (.inr (.inl (by congr 1; omega)))
          rw [show Try.prog.bytesOf 5 = 1 by kernel_rfl] at hw2
          obtain ⟨B, hB, hBl⟩ := reads_of_row W y zs hl2 hm2 hz2 hcell2 hwz (by unfold reachBytes at hw2; omega)
          exact fin B hB hBl
    have inh : Inhabited OpL := ⟨⟨0, 0, []⟩⟩
    obtain ⟨f, hfp⟩ := choose_lt each
    have hll : ((List.range len).map f).length = len := by simp
    refine ⟨_, (List.range len).map f, hcs, ⟨some a, m, by rw [hll], by omega, hm, ?_, ?_⟩⟩
    · intro x hx
      simp only [List.mem_map, List.mem_range] at hx
      obtain ⟨i, hi, rfl⟩ := hx
      exact (hfp i (by omega)).2
    · intro hne
      have hpos : 0 < len := by
        rcases Nat.eq_zero_or_pos len with h | h
        · subst h; simp at hne
        · exact h
      obtain ⟨b, o, spot⟩ := a
      have hc := (hfp 0 (by omega)).1.1
      have hspot : spot = none := by simpa [Addr.add] using World.cell?_spot hc
      subst hspot
      refine ⟨b, o, rfl, fun j x hx => ?_⟩
      have hj : j < len := by
        have := (List.getElem?_eq_some_iff.1 hx).1
        simpa using this
      rw [List.getElem?_map, List.getElem?_range hj] at hx
      simp at hx
      subst hx
      have hc := (hfp j (by omega)).1
      rw [add_at, add_at, add_at] at hc
      exact hc
end Go.Proofs.Ytdcjaopmfccgbaa
