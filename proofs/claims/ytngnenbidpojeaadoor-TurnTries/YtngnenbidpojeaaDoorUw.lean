/-
  Letters and arrays that came in.
-/
import Derived.Test.YtngnenbidpojeaaDoorUv
namespace Go.Proofs.YtngnenbidpojeaaDoor
set_option maxRecDepth 100000
open Go.RowKit Go.Deep Go.ChangeShapes
set_option linter.unusedVariables false
theorem size_list (s : ByteArray) : s.size = s.data.toList.length := by
  rw [Array.length_toList]
  rfl

/-- A row of k cells an element that came in. -/
theorem open_row {α : Type} [Inhabited α] {H : Type} {enc : TypeId × Value → H} {W : World} {fuel : Nat} {cs : List Value} {x : DataW H × List MemPlace} {T e : TypeId} {k : Nat} (hT : Tryd.prog.underlying T = some (.slice e)) (hk : Tryd.prog.cellsOf e = k) (hk0 : 0 < k) (cellsA : α → List Value) (ok : α → Prop)
    (hlen : ∀ a, (cellsA a).length = k)
    (each1 : ∀ (n : Nat) (cs : List Value) (y : DataW H × List MemPlace), DataW.trod enc Tryd.prog W 0 (fun _ => true) true n e cs = some y → cs.length = k → ∃ a, cs = cellsA a ∧ ok a)
    (h : DataW.trod enc Tryd.prog W 0 (fun _ => true) true fuel T cs = some x) :
    ∃ (v : Value) (l : List α), cs = [v] ∧ ReadsR k W v (l.map cellsA) ∧ ∀ a ∈ l, ok a := by
  rcases open_slice hT h with ⟨h0, hx⟩ | ⟨a, len, cap, m, n, D, Pl, hcs, hb, hl, hm, hmm, hx, hel⟩
  · exact ⟨_, [], h0, ReadsR.nil k W, by simp⟩
  · have hm' : m = cap := by simpa using hmm
    subst hm'
    have each : ∀ i, i < len → ∃ q : α, (∀ j y, (cellsA q)[j]? = some y → W.cell? (a.add (i * k + j)) = some y) ∧ ok q := by
      intro i hi
      obtain ⟨cs', h1, h2⟩ := hel i (by omega)
      rw [hk] at h1
      obtain ⟨_, hlen', hcell⟩ := World.cells?_some h1
      obtain ⟨q, rfl, hok⟩ := each1 _ _ _ h2 (by simpa using hlen')
      refine ⟨q, fun j y hy => ?_, hok⟩
      have hj := (List.getElem?_eq_some_iff.1 hy).1
      have := hcell j (by rw [hlen] at hj; exact hj)
      rw [addr_add_add] at this
      rw [this]
      simp [hy]
    obtain ⟨f, hfp⟩ := choose_lt each
    have hll : ((List.range len).map f).length = len := by simp
    refine ⟨_, (List.range len).map f, hcs, ⟨some a, m, by rw [List.length_map, hll], by rw [List.length_map, hll]; omega, hm, by simp, fun hne => ?_⟩, ?_⟩
    · have hpos : 0 < len := by
        rcases Nat.eq_zero_or_pos len with h | h
        · subst h; simp at hne
        · exact h
      obtain ⟨b, o, spot⟩ := a
      have hq0 : ∃ y, (cellsA (f 0))[0]? = some y := ⟨(cellsA (f 0))[0]'(by rw [hlen]; exact hk0), by simp⟩
      obtain ⟨y, hy⟩ := hq0
      have hc := (hfp 0 (by omega)).1 0 y hy
      have hspot : spot = none := by simpa [Addr.add] using World.cell?_spot hc
      subst hspot
      refine ⟨b, o, rfl, fun j r hr i y hy => ?_⟩
      rw [List.getElem?_map, Option.map_eq_some_iff] at hr
      obtain ⟨p, hp, rfl⟩ := hr
      have hj : j < len := by
        have := (List.getElem?_eq_some_iff.1 hp).1
        simpa using this
      have hpf : p = f j := by
        rw [List.getElem?_map] at hp
        simp [hj] at hp
        exact hp.symm
      subst hpf
      have := (hfp j hj).1 i y hy
      rw [add_at] at this
      rw [Nat.add_assoc]
      exact this
    · intro q hq
      obtain ⟨i, hi, rfl⟩ := List.mem_map.1 hq
      exact (hfp i (by simpa using hi)).2
section
variable {H : Type} {enc : TypeId × Value → H} {W : World} {fuel : Nat} {cs : List Value} {x : DataW H × List MemPlace}
/-- A letter that came in. -/
structure LtIn (W : World) (v : Value) (l : Lt) : Prop where
  form : ∃ av, v = .agg #[.string ⟨l.fr.toArray⟩, .int .u64 (l.ser : Int), .int .i64 l.kind, av] ∧ ReadsR 1 W av (rowJ l.args)
  ok : l.ok
  fr : l.fr.length ≤ 9223372036854775807
theorem open_let_N (h : DataW.trod enc Tryd.prog W 0 (fun _ => true) true fuel 25 cs = some x) : ∃ (a b c d : Value) (l : Lt), cs = [a, b, c, d] ∧ LtIn W (.agg #[a, b, c, d]) l := by
  obtain ⟨xs, k, hk, hxy, hcl, hxl, hf⟩ := DataW.trod_struct Tryd.underlying25 h
  have hc4 : cs.length = 4 := hcl.trans (show Tryd.prog.cellsOf 25 = 4 by kernel_rfl)
  match xs, hxl, cs, hc4 with
  | [y0, y1, y2, y3], _, [v0, v1, v2, v3], _ =>
    have g0 := hf 0 _ rfl
    have g1 := hf 1 _ rfl
    have g2 := hf 2 _ rfl
    have g3 := hf 3 _ rfl
    simp [show Tryd.prog.cellsOf 9 = 1 by kernel_rfl, show Tryd.prog.cellsOf 22 = 1 by kernel_rfl, show Tryd.prog.cellsOf 2 = 1 by kernel_rfl, show Tryd.prog.cellsOf 23 = 1 by kernel_rfl] at g0 g1 g2 g3
    obtain ⟨s, e0, -, w0⟩ := DataW.trod_string Tryd.underlying9 g0
    obtain ⟨n, e1, -, w1⟩ := DataW.trod_int Tryd.underlying22 g1
    obtain ⟨kd, e2, -, w2⟩ := DataW.trod_int Tryd.underlying2 g2
    obtain ⟨v, l, e3, r3, o3⟩ := open_row (α := Int) Tryd.underlying23 (show Tryd.prog.cellsOf 2 = 1 by kernel_rfl) (by omega) (fun z => [.int .i64 z]) I64 (fun _ => rfl) (fun n cs y hy hl => by
      obtain ⟨z, e, -, hw⟩ := DataW.trod_int Tryd.underlying2 hy
      exact ⟨z, e, bounds_i64 hw⟩) g3
    simp at e0 e1 e2 e3
    subst e0 e1 e2 e3
    have b1 := bounds_u64 w1
    obtain ⟨m, rfl⟩ := Int.eq_ofNat_of_zero_le b1.1
    have hs : Value.string ⟨s.data.toList.toArray⟩ = .string s := by
      obtain ⟨d⟩ := s
      simp
    refine ⟨_, _, _, _, ⟨s.data.toList, m, kd, l⟩, rfl, ⟨_, ?_, r3⟩, ⟨by show m < 18446744073709551616; omega, bounds_i64 w2, o3⟩, ?_⟩
    · rw [hs]
    · have : s.size = s.data.toList.length := size_list s
      show s.data.toList.length ≤ _
      rw [← this]
      exact Nat.le_trans w0 (by decide)
end
end Go.Proofs.YtngnenbidpojeaaDoor
