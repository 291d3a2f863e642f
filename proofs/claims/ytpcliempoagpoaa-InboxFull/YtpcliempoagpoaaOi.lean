/-
  Letters that came in, opened.
-/
import Derived.Test.YtpcliempoagpoaaFw
import Derived.Deep.Slices
import Derived.ChangeArms
import Derived.OpenShut
import Derived.SizedLaws
namespace Go.Proofs.Ytpcliempoagpoaa
open Go.RowKit Go.Deep Go.ChangeShapes
set_option linter.unusedVariables false
theorem addr_add_add (a : Addr) (i j : Nat) : (a.add i).add j = a.add (i + j) := by
  obtain ⟨b, o, s⟩ := a
  unfold Addr.add
  by_cases hi : i = 0
  · by_cases hj : j = 0
    · simp [hi, hj]
    · simp [hi, hj]
  · by_cases hj : j = 0
    · simp [hi, hj]
    · simp [hi, hj, Nat.add_assoc]
theorem readsJ_of_row (W : World) (x : Addr) (zs : List Int) {len cap : Nat} (hl : len ≤ cap) (hm : cap ≤ maxLen) (hz : zs.length = cap) (hcell : ∀ i, i < zs.length → W.cell? (x.add i) = some (.int .i64 (zs.getD i 0))) (hwz : ∀ n ∈ zs, (Lit.int .i64 n).wf = true) :
    ∃ l, ReadsJ W (.slice (some x) len cap) l ∧ (∀ z ∈ l, I64 z) ∧ l.length = len := by
  have hlen : (zs.take len).length = len := by rw [List.length_take]; omega
  refine ⟨zs.take len, ⟨some x, cap, by rw [CJ_length, hlen], by rw [CJ_length]; omega, hm, by simp, fun hne => ?_⟩, fun z hz => bounds_i64 (hwz z (List.mem_of_mem_take hz)), hlen⟩
  have hpos : 0 < len := by
    rcases Nat.eq_zero_or_pos len with h | h
    · subst h; simp [CJ] at hne
    · exact h
  obtain ⟨b, o, spot⟩ := x
  have hc := hcell 0 (by omega)
  have hspot : spot = none := by simpa [Addr.add] using World.cell?_spot hc
  subst hspot
  refine ⟨b, o, rfl, fun j r hr i y hy => ?_⟩
  simp only [CJ, List.getElem?_map, Option.map_eq_some_iff] at hr
  obtain ⟨z, hz1, rfl⟩ := hr
  have hi : i = 0 := by
    have := (List.getElem?_eq_some_iff.1 hy).1
    simp at this
    exact this
  subst hi
  simp at hy
  subst hy
  have hj : j < len := by
    have := (List.getElem?_eq_some_iff.1 hz1).1
    rw [List.length_take] at this; omega
  rw [List.getElem?_take_of_lt hj] at hz1
  have h := hcell j (by omega)
  rw [add_at] at h
  rw [Nat.mul_one, Nat.add_zero, h]
  have hzz : zs.getD j 0 = z := by simp [List.getD, hz1]
  rw [hzz]
set_option maxRecDepth 100000 in
/-- A letter that came in. -/
theorem open_let {H : Type} {enc : TypeId × Value → H} {W : World} {fuel : Nat} {cs : List Value} {x : DataW H × List MemPlace} (h : DataW.trod enc Try.prog W 0 (fun _ => true) true fuel 34 cs = some x) (hl : cs.length = 4) :
    ∃ q : Lq, cs = cellsQ q ∧ ReadsJ W q.sl q.x.args ∧ q.x.ok := by
  obtain ⟨xs, k, hk, hxy, _, hxl, hf⟩ := DataW.trod_struct Try.underlying34 h
  match xs, hxl, cs, hl with
  | [y0, y1, y2, y3], _, [v0, v1, v2, v3], _ =>
    have g0 := hf 0 _ rfl
    have g1 := hf 1 _ rfl
    have g2 := hf 2 _ rfl
    have g3 := hf 3 _ rfl
    simp [show Try.prog.cellsOf 9 = 1 by kernel_rfl, show Try.prog.cellsOf 31 = 1 by kernel_rfl, show Try.prog.cellsOf 2 = 1 by kernel_rfl, show Try.prog.cellsOf 32 = 1 by kernel_rfl] at g0 g1 g2 g3
    obtain ⟨s, e0, f0, w0⟩ := DataW.trod_string Try.underlying9 g0
    obtain ⟨n, e1, f1, w1⟩ := DataW.trod_int Try.underlying31 g1
    obtain ⟨kd, e2, f2, w2⟩ := DataW.trod_int Try.underlying2 g2
    simp at e0 e1 e2
    subst e0 e1 e2
    have b1 := bounds_u64 w1
    have b2 := bounds_i64 w2
    obtain ⟨m, rfl⟩ := Int.eq_ofNat_of_zero_le b1.1
    have hs : Sv s.data.toList = .string s := by
      obtain ⟨d⟩ := s
      simp
    have fin : ∀ B, ReadsJ W v3 B → (∀ z ∈ B, I64 z) → ∃ q : Lq, [Value.string s, .int .u64 (m : Int), .int .i64 kd, v3] = cellsQ q ∧ ReadsJ W q.sl q.x.args ∧ q.x.ok := fun B hB hBl => by
      obtain ⟨a', c', rfl, _⟩ := hB.form
      exact ⟨⟨⟨s.data.toList, m, kd, B⟩, a', c'⟩, by rw [← hs]; rfl, hB, ⟨by show m < _; omega, b2, hBl⟩⟩
    rcases open_ints Try.underlying32 Try.underlying2 (by kernel_rfl) g3 with ⟨hcs3, hx3⟩ | ⟨y, l, c, zs, hcs3, _, hl3, hm3, hz, hx3, hcell3, hwz⟩
    · simp at hcs3
      subst hcs3
      exact fin [] (ReadsJ.nil W) (by simp)
    · simp at hcs3
      subst hcs3
      obtain ⟨B, hB, hBl, _⟩ := readsJ_of_row W y zs hl3 hm3 (by simpa using hz) hcell3 hwz
      exact fin B hB hBl
set_option maxRecDepth 100000 in
/-- A list of letters that came in. -/
theorem open_lets {H : Type} {enc : TypeId × Value → H} {W : World} {fuel : Nat} {cs : List Value} {x : DataW H × List MemPlace} (h : DataW.trod enc Try.prog W 0 (fun _ => true) true fuel 28 cs = some x) :
    ∃ v l, cs = [v] ∧ RowQ W v l ∧ ValsQ W l ∧ (∀ q ∈ l, q.x.ok) := by
  rcases open_slice Try.underlying28 h with ⟨h0, hx⟩ | ⟨a, len, cap, m, n, D, Pl, hcs, hb, hl, hm, hmm, hx, hel⟩
  · exact ⟨_, [], h0, ReadsR.nil 4 W, by intro x hx; simp at hx, by simp⟩
  · have hm' : m = cap := by simpa using hmm
    subst hm'
    have each : ∀ i, i < len → ∃ q : Lq, (∀ j y, (cellsQ q)[j]? = some y → W.cell? (a.add (i * 4 + j)) = some y) ∧ ReadsJ W q.sl q.x.args ∧ q.x.ok := by
      intro i hi
      obtain ⟨cs', h1, h2⟩ := hel i (by omega)
      rw [show Try.prog.cellsOf 34 = 4 by kernel_rfl] at h1
      obtain ⟨_, hlen, hcell⟩ := World.cells?_some h1
      obtain ⟨q, rfl, hr, hk⟩ := open_let h2 (by simpa using hlen)
      refine ⟨q, fun j y hy => ?_, hr, hk⟩
      have hj := (List.getElem?_eq_some_iff.1 hy).1
      have := hcell j (by simpa [cellsQ] using hj)
      rw [addr_add_add] at this
      rw [this]
      simp [hy]
    obtain ⟨f, hfp⟩ := choose_lt each
    have hll : ((List.range len).map f).length = len := by simp
    refine ⟨_, (List.range len).map f, hcs, ⟨some a, m, by rw [CQ_length, hll], by rw [CQ_length, hll]; omega, hm, by simp, fun hne => ?_⟩, ?_, ?_⟩
    · have hpos : 0 < len := by
        rcases Nat.eq_zero_or_pos len with h | h
        · subst h; simp [CQ] at hne
        · exact h
      obtain ⟨b, o, spot⟩ := a
      have hc := (hfp 0 (by omega)).1 0 _ rfl
      have hspot : spot = none := by simpa [Addr.add] using World.cell?_spot hc
      subst hspot
      refine ⟨b, o, rfl, fun j r hr i y hy => ?_⟩
      have hr' : ((List.range len).map f).map cellsQ = CQ ((List.range len).map f) := rfl
      rw [← hr', List.getElem?_map, Option.map_eq_some_iff] at hr
      obtain ⟨p, hp, rfl⟩ := hr
      have hj : j < len := by
        have := (List.getElem?_eq_some_iff.1 hp).1
        simpa using this
      rw [List.getElem?_map, List.getElem?_range hj] at hp
      simp at hp
      subst hp
      have := (hfp j hj).1 i y hy
      rw [add_at] at this
      rw [Nat.add_assoc]
      exact this
    · intro x hx
      simp only [List.mem_map, List.mem_range] at hx
      obtain ⟨i, hi, rfl⟩ := hx
      exact (hfp i hi).2.1
    · intro x hx
      simp only [List.mem_map, List.mem_range] at hx
      obtain ⟨i, hi, rfl⟩ := hx
      exact (hfp i hi).2.2
/-- Letters that came in. -/
def LetsIn (W : World) (v : Value) (l : List Lq) : Prop := RowQ W v l ∧ ValsQ W l ∧ ∀ q ∈ l, q.x.ok
theorem open_letsI {H : Type} {enc : TypeId × Value → H} {W : World} {fuel : Nat} {cs : List Value} {x : DataW H × List MemPlace} (h : DataW.trod enc Try.prog W 0 (fun _ => true) true fuel 28 cs = some x) : ∃ v l, cs = [v] ∧ LetsIn W v l := open_lets h
end Go.Proofs.Ytpcliempoagpoaa
