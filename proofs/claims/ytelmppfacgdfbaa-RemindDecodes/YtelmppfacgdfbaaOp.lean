/-
  Rows of reminders that came in; scripts of calls.
-/
import Derived.Test.YtelmppfacgdfbaaQj
import Derived.Deep.Slices
import Derived.ChangeArms
import Derived.OpenShut
import Derived.SizedLaws
namespace Go.Proofs.Ytelmppfacgdfbaa
set_option maxRecDepth 100000
open Go.RowKit Go.Deep Go.ChangeShapes
set_option linter.unusedVariables false
theorem rowR_form {w : World} {v : Value} {l : List Rm} (h : ReadsR 5 w v (CR l)) : ∃ a c, v = .slice a l.length c ∧ l.length ≤ c ∧ c ≤ 9223372036854775807 := by
  have := ReadsR.form h
  rwa [CR_length] at this
theorem rowR_at {w : World} {a : Option Addr} {n c : Nat} {l : List Rm} (h : ReadsR 5 w (.slice a n c) (CR l)) {j : Nat} {y : Rm} (hy : l[j]? = some y) : ∃ b o, a = some ⟨b, o, none⟩ ∧ w.cell? ⟨b, o + j * 5, none⟩ = some (Sv y.ac) ∧ w.cell? ⟨b, o + j * 5 + 1, none⟩ = some (Sv y.nm) ∧ w.cell? ⟨b, o + j * 5 + 2, none⟩ = some (Iv y.due) ∧ w.cell? ⟨b, o + j * 5 + 3, none⟩ = some (Iv y.per) ∧ w.cell? ⟨b, o + j * 5 + 4, none⟩ = some (Iv y.kind) := by
  obtain ⟨b, o, c', e, hc⟩ := ReadsR.at h j (cellsR y) (by simp [CR, hy])
  injection e with e _ _
  have h0 := hc 0 _ rfl
  have h1 := hc 1 _ rfl
  have h2 := hc 2 _ rfl
  have h3 := hc 3 _ rfl
  have h4 := hc 4 _ rfl
  rw [Nat.add_zero] at h0
  exact ⟨b, o, e, h0, h1, h2, h3, h4⟩
/-- Reminders that came in. -/
def RemsIn (W : World) (v : Value) (l : List Rm) : Prop := ReadsR 5 W v (CR l) ∧ ∀ r ∈ l, R64 r
theorem open_rem {H : Type} {enc : TypeId × Value → H} {W : World} {fuel : Nat} {cs : List Value} {x : DataW H × List MemPlace} (h : DataW.trod enc Try.prog W 0 (fun _ => true) true fuel 52 cs = some x) (hl : cs.length = 5) :
    ∃ r : Rm, cs = cellsR r ∧ R64 r := by
  obtain ⟨xs, k, hk, hxy, _, hxl, hf⟩ := DataW.trod_struct Try.underlying52 h
  match xs, hxl, cs, hl with
  | [y0, y1, y2, y3, y4], _, [v0, v1, v2, v3, v4], _ =>
    have g0 := hf 0 _ rfl
    have g1 := hf 1 _ rfl
    have g2 := hf 2 _ rfl
    have g3 := hf 3 _ rfl
    have g4 := hf 4 _ rfl
    simp [show Try.prog.cellsOf 9 = 1 by kernel_rfl, show Try.prog.cellsOf 2 = 1 by kernel_rfl] at g0 g1 g2 g3 g4
    obtain ⟨s, e0, f0, w0⟩ := DataW.trod_string Try.underlying9 g0
    obtain ⟨t, e1, f1, w1⟩ := DataW.trod_string Try.underlying9 g1
    obtain ⟨a, e2, f2, w2⟩ := DataW.trod_int Try.underlying2 g2
    obtain ⟨b, e3, f3, w3⟩ := DataW.trod_int Try.underlying2 g3
    obtain ⟨c, e4, f4, w4⟩ := DataW.trod_int Try.underlying2 g4
    simp at e0 e1 e2 e3 e4
    subst e0 e1 e2 e3 e4
    have hs : Sv s.data.toList = .string s := by obtain ⟨d⟩ := s; simp
    have ht : Sv t.data.toList = .string t := by obtain ⟨d⟩ := t; simp
    exact ⟨⟨s.data.toList, t.data.toList, a, b, c⟩, by rw [← hs, ← ht]; rfl, ⟨bounds_i64 w2, bounds_i64 w3, bounds_i64 w4⟩⟩
theorem open_rems {H : Type} {enc : TypeId × Value → H} {W : World} {fuel : Nat} {cs : List Value} {x : DataW H × List MemPlace} (h : DataW.trod enc Try.prog W 0 (fun _ => true) true fuel 33 cs = some x) :
    ∃ v l, cs = [v] ∧ RemsIn W v l := by
  rcases open_slice Try.underlying33 h with ⟨h0, hx⟩ | ⟨a, len, cap, m, n, D, Pl, hcs, hb, hl, hm, hmm, hx, hel⟩
  · exact ⟨_, [], h0, ReadsR.nil 5 W, by simp⟩
  · have hm' : m = cap := by simpa using hmm
    subst hm'
    have each : ∀ i, i < len → ∃ q : Rm, (∀ j y, (cellsR q)[j]? = some y → W.cell? (a.add (i * 5 + j)) = some y) ∧ R64 q := by
      intro i hi
      obtain ⟨cs', h1, h2⟩ := hel i (by omega)
      rw [show Try.prog.cellsOf 52 = 5 by kernel_rfl] at h1
      obtain ⟨_, hlen, hcell⟩ := World.cells?_some h1
      obtain ⟨q, rfl, hk⟩ := open_rem h2 (by simpa using hlen)
      refine ⟨q, fun j y hy => ?_, hk⟩
      have hj := (List.getElem?_eq_some_iff.1 hy).1
      have := hcell j (by simpa [cellsR] using hj)
      rw [addr_add_add] at this
      rw [this]
      simp [hy]
    obtain ⟨f, hfp⟩ := choose_lt each
    have hll : ((List.range len).map f).length = len := by simp
    refine ⟨_, (List.range len).map f, hcs, ⟨some a, m, by rw [CR_length, hll], by rw [CR_length, hll]; omega, hm, by simp, fun hne => ?_⟩, ?_⟩
    · have hpos : 0 < len := by
        rcases Nat.eq_zero_or_pos len with h | h
        · subst h; simp [CR] at hne
        · exact h
      obtain ⟨b, o, spot⟩ := a
      have hc := (hfp 0 (by omega)).1 0 _ rfl
      have hspot : spot = none := by simpa [Addr.add] using World.cell?_spot hc
      subst hspot
      refine ⟨b, o, rfl, fun j r hr i y hy => ?_⟩
      have hr' : ((List.range len).map f).map cellsR = CR ((List.range len).map f) := rfl
      rw [← hr', List.getElem?_map, Option.map_eq_some_iff] at hr
      obtain ⟨p, hp, rfl⟩ := hr
      have hj : j < len := by
        have := (List.getElem?_eq_some_iff.1 hp).1
        simpa using this
      rw [List.getElem?_map, List.getElem?_range hj] at hp
      simp at hp
      subst hp
      have := (hfp j hj).1 i y hy
      rw [add_at] at this
      rw [Nat.add_assoc]
      exact this
    · intro x hx
      simp only [List.mem_map, List.mem_range] at hx
      obtain ⟨i, hi, rfl⟩ := hx
      exact (hfp i hi).2
/-- A call: its kind, a reminder, a tick. -/
structure Pq where
  kind : Int
  r : Rm
  now : Int
instance : Inhabited Pq := ⟨⟨0, default, 0⟩⟩
def cellsP (o : Pq) : List Value := [Iv o.kind, Sv o.r.ac, Sv o.r.nm, Iv o.r.due, Iv o.r.per, Iv o.r.kind, Iv o.now]
def CP (l : List Pq) : List (List Value) := l.map cellsP
theorem CP_length (l : List Pq) : (CP l).length = l.length := by simp [CP]
/-- The slice v reads as these calls. -/
def RowP (w : World) (v : Value) (l : List Pq) : Prop := ReadsR 7 w v (CP l)
theorem RowP.kept {S : List Nat} {w w' : World} {v : Value} {l : List Pq} (h : RowP w v l) (k : Kept S w w') (hn : ∀ g, v.ownBlock = some g → g ∉ S) : RowP w' v l := ReadsR.kept h k hn
theorem RowP.bound {w : World} {a : Option Addr} {n c : Nat} {l : List Pq} (h : RowP w (.slice a n c) l) : n = l.length ∧ n ≤ c ∧ c ≤ 9223372036854775807 := by
  obtain ⟨a', c', e, h1, h2⟩ := ReadsR.form h
  rw [CP_length] at e h1
  injection e with _ e2 e3
  subst e2 e3
  exact ⟨rfl, h1, h2⟩
theorem RowP.at {w : World} {a : Option Addr} {n c : Nat} {l : List Pq} (h : RowP w (.slice a n c) l) {j : Nat} {q : Pq} (hq : l[j]? = some q) : ∃ b o, a = some ⟨b, o, none⟩ ∧ w.cell? ⟨b, o + j * 7, none⟩ = some (Iv q.kind) ∧ w.cell? ⟨b, o + j * 7 + 1, none⟩ = some (Sv q.r.ac) ∧ w.cell? ⟨b, o + j * 7 + 2, none⟩ = some (Sv q.r.nm) ∧ w.cell? ⟨b, o + j * 7 + 3, none⟩ = some (Iv q.r.due) ∧ w.cell? ⟨b, o + j * 7 + 4, none⟩ = some (Iv q.r.per) ∧ w.cell? ⟨b, o + j * 7 + 5, none⟩ = some (Iv q.r.kind) ∧ w.cell? ⟨b, o + j * 7 + 6, none⟩ = some (Iv q.now) := by
  obtain ⟨b, o, c', e, hc⟩ := ReadsR.at h j (cellsP q) (by simp [CP, hq])
  injection e with e _ _
  have h0 := hc 0 _ rfl
  have h1 := hc 1 _ rfl
  have h2 := hc 2 _ rfl
  have h3 := hc 3 _ rfl
  have h4 := hc 4 _ rfl
  have h5 := hc 5 _ rfl
  have h6 := hc 6 _ rfl
  rw [Nat.add_zero] at h0
  exact ⟨b, o, e, h0, h1, h2, h3, h4, h5, h6⟩
/-- Calls that came in. -/
def OpsIn (W : World) (v : Value) (l : List Pq) : Prop := RowP W v l ∧ ∀ o ∈ l, R64 o.r ∧ I64 o.now
theorem open_op {H : Type} {enc : TypeId × Value → H} {W : World} {fuel : Nat} {cs : List Value} {x : DataW H × List MemPlace} (h : DataW.trod enc Try.prog W 0 (fun _ => true) true fuel 61 cs = some x) (hl : cs.length = 7) :
    ∃ o : Pq, cs = cellsP o ∧ R64 o.r ∧ I64 o.now := by
  obtain ⟨xs, k, hk, hxy, _, hxl, hf⟩ := DataW.trod_struct Try.underlying61 h
  match xs, hxl, cs, hl with
  | [y0, y1, y2], _, [v0, v1, v2, v3, v4, v5, v6], _ =>
    have g0 := hf 0 _ rfl
    have g1 := hf 1 _ rfl
    have g2 := hf 2 _ rfl
    simp [show Try.prog.cellsOf 3 = 1 by kernel_rfl, show Try.prog.cellsOf 52 = 5 by kernel_rfl, show Try.prog.cellsOf 2 = 1 by kernel_rfl] at g0 g1 g2
    obtain ⟨kd, e0, f0, w0⟩ := DataW.trod_int Try.underlying3 g0
    obtain ⟨n, e2, f2, w2⟩ := DataW.trod_int Try.underlying2 g2
    obtain ⟨r, er, h6⟩ := open_rem g1 (by rfl)
    simp at e0 e2
    subst e0 e2
    simp [cellsR] at er
    obtain ⟨rfl, rfl, rfl, rfl, rfl⟩ := er
    exact ⟨⟨kd, r, n⟩, rfl, h6, bounds_i64 w2⟩
theorem open_ops {H : Type} {enc : TypeId × Value → H} {W : World} {fuel : Nat} {cs : List Value} {x : DataW H × List MemPlace} (h : DataW.trod enc Try.prog W 0 (fun _ => true) true fuel 22 cs = some x) :
    ∃ v l, cs = [v] ∧ OpsIn W v l := by
  rcases open_slice Try.underlying22 h with ⟨h0, hx⟩ | ⟨a, len, cap, m, n, D, Pl, hcs, hb, hl, hm, hmm, hx, hel⟩
  · exact ⟨_, [], h0, ReadsR.nil 7 W, by simp⟩
  · have hm' : m = cap := by simpa using hmm
    subst hm'
    have each : ∀ i, i < len → ∃ q : Pq, (∀ j y, (cellsP q)[j]? = some y → W.cell? (a.add (i * 7 + j)) = some y) ∧ R64 q.r ∧ I64 q.now := by
      intro i hi
      obtain ⟨cs', h1, h2⟩ := hel i (by omega)
      rw [show Try.prog.cellsOf 61 = 7 by kernel_rfl] at h1
      obtain ⟨_, hlen, hcell⟩ := World.cells?_some h1
      obtain ⟨q, rfl, hk⟩ := open_op h2 (by simpa using hlen)
      refine ⟨q, fun j y hy => ?_, hk⟩
      have hj := (List.getElem?_eq_some_iff.1 hy).1
      have := hcell j (by simpa [cellsP] using hj)
      rw [addr_add_add] at this
      rw [this]
      simp [hy]
    obtain ⟨f, hfp⟩ := choose_lt each
    have hll : ((List.range len).map f).length = len := by simp
    refine ⟨_, (List.range len).map f, hcs, ⟨some a, m, by rw [CP_length, hll], by rw [CP_length, hll]; omega, hm, by simp, fun hne => ?_⟩, ?_⟩
    · have hpos : 0 < len := by
        rcases Nat.eq_zero_or_pos len with h | h
        · subst h; simp [CP] at hne
        · exact h
      obtain ⟨b, o, spot⟩ := a
      have hc := (hfp 0 (by omega)).1 0 _ rfl
      have hspot : spot = none := by simpa [Addr.add] using World.cell?_spot hc
      subst hspot
      refine ⟨b, o, rfl, fun j r hr i y hy => ?_⟩
      have hr' : ((List.range len).map f).map cellsP = CP ((List.range len).map f) := rfl
      rw [← hr', List.getElem?_map, Option.map_eq_some_iff] at hr
      obtain ⟨p, hp, rfl⟩ := hr
      have hj : j < len := by
        have := (List.getElem?_eq_some_iff.1 hp).1
        simpa using this
      rw [List.getElem?_map, List.getElem?_range hj] at hp
      simp at hp
      subst hp
      have := (hfp j hj).1 i y hy
      rw [add_at] at this
      rw [Nat.add_assoc]
      exact this
    · intro x hx
      simp only [List.mem_map, List.mem_range] at hx
      obtain ⟨i, hi, rfl⟩ := hx
      exact (hfp i hi).2
end Go.Proofs.Ytelmppfacgdfbaa
