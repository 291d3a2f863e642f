/-
  Rows of texts that came in, opened.
-/
import Derived.Test.YtmihpgejaobdbaaRs
import Derived.Deep.Slices
import Derived.ChangeArms
import Derived.OpenShut
import Derived.SizedLaws
namespace Go.Proofs.Ytmihpgejaobdbaa
set_option maxRecDepth 100000
open Go.RowKit Go.Deep Go.ChangeShapes
set_option linter.unusedVariables false
theorem addr_add_add (a : Addr) (i j : Nat) : (a.add i).add j = a.add (i + j) := by
  obtain ⟨b, o, s⟩ := a
  unfold Addr.add
  by_cases hi : i = 0
  · by_cases hj : j = 0
    · simp [hi, hj]
    · simp [hi, hj]
  · by_cases hj : j = 0
    · simp [hi, hj]
    · simp [hi, hj, Nat.add_assoc]
theorem weightsAll_mem {H : Type} {P : Program} {e : TypeId} {d : DataW H} {n : Nat} : ∀ {ds : List (DataW H)}, d ∈ ds → n ∈ d.weights P e → n ∈ DataW.weightsAll P e ds
  | [], h, _ => by cases h
  | x :: r, h, hn => by
    simp only [DataW.weightsAll, List.mem_append]
    rcases List.mem_cons.1 h with rfl | h
    · exact .inl hn
    · exact .inr (weightsAll_mem h hn)
/-- Keys that came in. -/
def KeysIn (W : World) (v : Value) (l : List (List UInt8)) : Prop := TextsIn W v l ∧ ∀ t ∈ l, t.length ≤ 140737488355328
theorem open_textsI {H : Type} {enc : TypeId × Value → H} {W : World} {fuel : Nat} {cs : List Value} {x : DataW H × List MemPlace} (h : DataW.trod enc Try.prog W 0 (fun _ => true) true fuel 37 cs = some x) (hsz : ∀ n ∈ x.1.weights Try.prog 37, n ≤ reachBytes) :
    ∃ v l, cs = [v] ∧ KeysIn W v l := by
  rcases open_slice Try.underlying37 h with ⟨h0, hx⟩ | ⟨a, len, cap, m, n, D, Pl, hcs, hb, hl, hm, hmm, hx, hel⟩
  · exact ⟨_, [], h0, ReadsR.nil 1 W, by simp⟩
  · have hm' : m = cap := by simpa using hmm
    subst hm'
    have each : ∀ i, i < len → ∃ t : List UInt8, W.cell? (a.add i) = some (Sv t) ∧ t.length ≤ 140737488355328 := by
      intro i hi
      obtain ⟨cs', h1, h2⟩ := hel i (by omega)
      have hwt : ∀ z ∈ (D i).weights Try.prog 9, z ≤ reachBytes := fun z hz => hsz z (by
        rw [hx]
        simp only [DataW.weights, Try.underlying37, List.mem_cons, List.mem_append]
        exact .inr (.inl (weightsAll_mem (List.mem_map.2 ⟨i, List.mem_range.2 hi, rfl⟩) hz)))
      rw [show Try.prog.cellsOf 9 = 1 by kernel_rfl] at h1
      obtain ⟨_, hlen, hcell⟩ := World.cells?_some h1
      obtain ⟨s, e0, f0, w0⟩ := DataW.trod_string Try.underlying9 h2
      subst e0
      have h5 := hcell 0 (by simp)
      rw [addr_add_add] at h5
      have hl' : s.data.toList.length ≤ 140737488355328 := by
        have := hwt s.data.toList.length (by
          have e : D i = .lit (.string s.data.toList) := congrArg Prod.fst f0
          rw [e]
          simp [DataW.weights])
        unfold reachBytes at this
        omega
      refine ⟨s.data.toList, ?_, hl'⟩
      have hs : Sv s.data.toList = .string s := by
        obtain ⟨d⟩ := s
        simp
      rw [hs]
      simpa using h5
    obtain ⟨f, hfp⟩ := choose_lt each
    have hll : (CT ((List.range len).map f)).length = len := by simp [CT]
    refine ⟨_, (List.range len).map f, hcs, ⟨some a, m, by rw [hll], by rw [hll]; omega, hm, by simp, fun hne => ?_⟩, fun t ht => by
      obtain ⟨i, hi, rfl⟩ := List.mem_map.1 ht
      exact (hfp i (List.mem_range.1 hi)).2⟩
    have hpos : 0 < len := by
      rcases Nat.eq_zero_or_pos len with h | h
      · subst h; simp [CT] at hne
      · exact h
    obtain ⟨b, o, spot⟩ := a
    have hc := (hfp 0 (by omega)).1
    have hspot : spot = none := by simpa [Addr.add] using World.cell?_spot hc
    subst hspot
    refine ⟨b, o, rfl, fun j r hr i y hy => ?_⟩
    rw [CT, List.getElem?_map, Option.map_eq_some_iff] at hr
    obtain ⟨p, hp, rfl⟩ := hr
    have hj : j < len := by
      have := (List.getElem?_eq_some_iff.1 hp).1
      simpa using this
    rw [List.getElem?_map, List.getElem?_range hj] at hp
    simp at hp
    subst hp
    have hi : i = 0 := by
      have := (List.getElem?_eq_some_iff.1 hy).1
      simp at this
      exact this
    subst hi
    simp at hy
    subst hy
    have := (hfp j hj).1
    rw [add_at] at this
    rw [Nat.mul_one, Nat.add_zero]
    exact this
theorem sv_str (s : ByteArray) : Sv s.data.toList = .string s := by
  obtain ⟨d⟩ := s
  simp
/-- A call: its kind, and its key. -/
structure Pq where
  kind : Int
  key : List UInt8
instance : Inhabited Pq := ⟨⟨0, []⟩⟩
def cellsP (o : Pq) : List Value := [.int .i64 o.kind, Sv o.key]
def CP (l : List Pq) : List (List Value) := l.map cellsP
theorem CP_length (l : List Pq) : (CP l).length = l.length := by simp [CP]
/-- The slice v reads as these calls. -/
def RowP (w : World) (v : Value) (l : List Pq) : Prop := ReadsR 2 w v (CP l)
theorem RowP.kept0 {w w' : World} {v : Value} {l : List Pq} (h : RowP w v l) (k : Kept [] w w') : RowP w' v l := ReadsR.kept h k (by simp)
theorem RowP.bound {w : World} {a : Option Addr} {n c : Nat} {l : List Pq} (h : RowP w (.slice a n c) l) : n = l.length ∧ n ≤ c ∧ c ≤ 9223372036854775807 := by
  obtain ⟨a', c', e, h1, h2⟩ := ReadsR.form h
  rw [CP_length] at e h1
  injection e with _ e2 e3
  subst e2 e3
  exact ⟨rfl, h1, h2⟩
theorem RowP.at {w : World} {a : Option Addr} {n c : Nat} {l : List Pq} (h : RowP w (.slice a n c) l) {j : Nat} {q : Pq} (hq : l[j]? = some q) : ∃ b o, a = some ⟨b, o, none⟩ ∧ w.cell? ⟨b, o + j * 2, none⟩ = some (.int .i64 q.kind) ∧ w.cell? ⟨b, o + j * 2 + 1, none⟩ = some (Sv q.key) := by
  obtain ⟨b, o, c', e, hc⟩ := ReadsR.at h j (cellsP q) (by simp [CP, hq])
  injection e with e _ _
  have h0 := hc 0 _ rfl
  have h1 := hc 1 _ rfl
  rw [Nat.add_zero] at h0
  exact ⟨b, o, e, h0, h1⟩
/-- Calls that came in. -/
def OpsIn (W : World) (v : Value) (l : List Pq) : Prop := RowP W v l ∧ ∀ o ∈ l, o.key.length ≤ 140737488355328
theorem open_ops {H : Type} {enc : TypeId × Value → H} {W : World} {fuel : Nat} {cs : List Value} {x : DataW H × List MemPlace} (h : DataW.trod enc Try.prog W 0 (fun _ => true) true fuel 22 cs = some x) (hsz : ∀ n ∈ x.1.weights Try.prog 22, n ≤ reachBytes) :
    ∃ v l, cs = [v] ∧ OpsIn W v l := by
  rcases open_slice Try.underlying22 h with ⟨h0, hx⟩ | ⟨a, len, cap, m, n, D, Pl, hcs, hb, hl, hm, hmm, hx, hel⟩
  · exact ⟨_, [], h0, ReadsR.nil 2 W, by simp⟩
  · have hm' : m = cap := by simpa using hmm
    subst hm'
    have each : ∀ i, i < len → ∃ q : Pq, (∀ j y, (cellsP q)[j]? = some y → W.cell? (a.add (i * 2 + j)) = some y) ∧ q.key.length ≤ 140737488355328 := by
      intro i hi
      obtain ⟨cs', h1, h2⟩ := hel i (by omega)
      have hwt : ∀ z ∈ (D i).weights Try.prog 32, z ≤ reachBytes := fun z hz => hsz z (by
        rw [hx]
        simp only [DataW.weights, Try.underlying22, List.mem_cons, List.mem_append]
        exact .inr (.inl (weightsAll_mem (List.mem_map.2 ⟨i, List.mem_range.2 hi, rfl⟩) hz)))
      rw [show Try.prog.cellsOf 32 = 2 by kernel_rfl] at h1
      obtain ⟨_, hlen, hcell⟩ := World.cells?_some h1
      obtain ⟨xs, k, hk, hxy, _, hxl, hf⟩ := DataW.trod_struct Try.underlying32 h2
      match xs, hxl, cs', hlen with
      | [y0, y1], _, [v0, v1], _ =>
        have g0 := hf 0 _ rfl
        have g1 := hf 1 _ rfl
        simp [show Try.prog.cellsOf 9 = 1 by kernel_rfl, show Try.prog.cellsOf 3 = 1 by kernel_rfl] at g0 g1
        obtain ⟨kd, e0, f0, w0⟩ := DataW.trod_int Try.underlying3 g0
        obtain ⟨s, e1, f1, w1⟩ := DataW.trod_string Try.underlying9 g1
        simp at e0 e1
        subst e0 e1
        have hD : D i = .agg [y0.1, y1.1] := by
          have := congrArg Prod.fst hxy
          simpa using this
        have hs : Sv s.data.toList = .string s := by
          obtain ⟨d⟩ := s
          simp
        refine ⟨⟨kd, s.data.toList⟩, fun j y hy => ?_, ?_⟩
        · have hj := (List.getElem?_eq_some_iff.1 hy).1
          have := hcell j (by simpa [cellsP] using hj)
          rw [addr_add_add] at this
          rw [this]
          simp only [cellsP, hs] at hy
          exact hy
        · have := hwt s.data.toList.length (by
            rw [hD, f1]
            simp [DataW.weights, DataW.weightsEach, Try.underlying32])
          unfold reachBytes at this
          show s.data.toList.length ≤ _
          omega
    obtain ⟨f, hfp⟩ := choose_lt each
    have hll : ((List.range len).map f).length = len := by simp
    refine ⟨_, (List.range len).map f, hcs, ⟨some a, m, by rw [CP_length, hll], by rw [CP_length, hll]; omega, hm, by simp, fun hne => ?_⟩, fun o ho => by
      obtain ⟨i, hi, rfl⟩ := List.mem_map.1 ho
      exact (hfp i (List.mem_range.1 hi)).2⟩
    have hpos : 0 < len := by
      rcases Nat.eq_zero_or_pos len with h | h
      · subst h; simp [CP] at hne
      · exact h
    obtain ⟨b, o, spot⟩ := a
    have hc := (hfp 0 (by omega)).1 0 _ rfl
    have hspot : spot = none := by simpa [Addr.add] using World.cell?_spot hc
    subst hspot
    refine ⟨b, o, rfl, fun j r hr i y hy => ?_⟩
    have hr' : ((List.range len).map f).map cellsP = CP ((List.range len).map f) := rfl
    rw [← hr', List.getElem?_map, Option.map_eq_some_iff] at hr
    obtain ⟨p, hp, rfl⟩ := hr
    have hj : j < len := by
      have := (List.getElem?_eq_some_iff.1 hp).1
      simpa using this
    rw [List.getElem?_map, List.getElem?_range hj] at hp
    simp at hp
    subst hp
    have := (hfp j hj).1 i y hy
    rw [add_at] at this
    rw [Nat.add_assoc]
    exact this
end Go.Proofs.Ytmihpgejaobdbaa
