/-
  Letters and arrays that came in.
-/
import Derived.Test.YtpodoiichpnpjaaDoorOp
import Derived.Test.YtpodoiichpnpjaaDoorRz
namespace Go.Proofs.YtpodoiichpnpjaaDoor
set_option maxRecDepth 100000
open Go.RowKit Go.Deep Go.ChangeShapes
set_option linter.unusedVariables false
theorem okWide_arr {P : Program} {w : World} {r : Reach} {base : Nat} {t e : TypeId} {n : Nat} {v : Value} (ht : P.underlying t = some (.array n e)) (h : Value.okWide P w r base t v) : ∃ cs, v = .agg cs ∧ cs.size = P.cellsOf t := by
  simp only [Value.okWide, ht] at h
  obtain ⟨cs, h1, h2, _⟩ := h
  exact ⟨cs, h1, h2⟩
section
variable {H : Type} {enc : TypeId × Value → H} {W : World} {fuel : Nat} {cs : List Value} {x : DataW H × List MemPlace}
/-- An array of integers that came in. -/
theorem open_arr {t : TypeId} {n : Nat} (ht : Tryd.prog.underlying t = some (.array n 2)) (hc : Tryd.prog.cellsOf t = n) (h : DataW.trod enc Tryd.prog W 0 (fun _ => true) true fuel t cs = some x) : ∃ A : List Int, cs = BI A ∧ A.length = n ∧ ∀ z ∈ A, I64 z := by
  obtain ⟨xs, m, -, -, hl, hxl, hel⟩ := DataW.trod_array ht h
  rw [hc] at hl
  rw [show Tryd.prog.cellsOf 2 = 1 by kernel_rfl] at hel
  have each : ∀ i, i < n → ∃ z : Int, cs[i]? = some (.int .i64 z) ∧ I64 z := fun i hi => by
    have h1 := hel i hi
    rw [List.getElem?_eq_getElem (by omega)] at h1
    obtain ⟨z, e, -, hw⟩ := DataW.trod_int Tryd.underlying2 h1
    refine ⟨z, ?_, bounds_i64 hw⟩
    have := congrArg (·[0]?) e
    simpa [List.getElem?_drop] using this
  obtain ⟨f, hf⟩ := choose_lt each
  refine ⟨(List.range n).map f, ?_, by simp, fun z hz => ?_⟩
  · apply List.ext_getElem?
    intro i
    by_cases hi : i < n
    · rw [(hf i hi).1]
      simp [BI, hi]
    · rw [List.getElem?_eq_none (by omega), List.getElem?_eq_none (by simp [BI]; omega)]
  · obtain ⟨i, hi, rfl⟩ := List.mem_map.1 hz
    exact (hf i (by simpa using hi)).2
/-- A letter that came in. -/
structure LtIn (W : World) (v : Value) (l : Lt) : Prop where
  form : ∃ av, v = .agg #[.string ⟨l.fr.toArray⟩, .int .u64 (l.ser : Int), .int .i64 l.kind, av] ∧ ReadsR 1 W av (rowJ l.args)
  ok : l.ok
  fr : l.fr.length ≤ 9223372036854775807
theorem open_let (h : DataW.trod enc Tryd.prog W 0 (fun _ => true) true fuel 30 cs = some x) : ∃ (a b c d : Value) (l : Lt), cs = [a, b, c, d] ∧ LtIn W (.agg #[a, b, c, d]) l := by
  obtain ⟨xs, k, hk, hxy, hcl, hxl, hf⟩ := DataW.trod_struct Tryd.underlying30 h
  have hc4 : cs.length = 4 := hcl.trans (show Tryd.prog.cellsOf 30 = 4 by kernel_rfl)
  match xs, hxl, cs, hc4 with
  | [y0, y1, y2, y3], _, [v0, v1, v2, v3], _ =>
    have g0 := hf 0 _ rfl
    have g1 := hf 1 _ rfl
    have g2 := hf 2 _ rfl
    have g3 := hf 3 _ rfl
    simp [show Tryd.prog.cellsOf 9 = 1 by kernel_rfl, show Tryd.prog.cellsOf 27 = 1 by kernel_rfl, show Tryd.prog.cellsOf 2 = 1 by kernel_rfl, show Tryd.prog.cellsOf 28 = 1 by kernel_rfl] at g0 g1 g2 g3
    obtain ⟨s, e0, -, w0⟩ := DataW.trod_string Tryd.underlying9 g0
    obtain ⟨n, e1, -, w1⟩ := DataW.trod_int Tryd.underlying27 g1
    obtain ⟨kd, e2, -, w2⟩ := DataW.trod_int Tryd.underlying2 g2
    obtain ⟨v, l, e3, r3, o3⟩ := open_row (α := Int) Tryd.underlying28 (show Tryd.prog.cellsOf 2 = 1 by kernel_rfl) (by omega) (fun z => [.int .i64 z]) I64 (fun _ => rfl) (fun n cs y hy hl => by
      obtain ⟨z, e, -, hw⟩ := DataW.trod_int Tryd.underlying2 hy
      exact ⟨z, e, bounds_i64 hw⟩) g3
    simp at e0 e1 e2 e3
    subst e0 e1 e2 e3
    have b1 := bounds_u64 w1
    obtain ⟨m, rfl⟩ := Int.eq_ofNat_of_zero_le b1.1
    have hs : Value.string ⟨s.data.toList.toArray⟩ = .string s := by
      obtain ⟨d⟩ := s
      simp
    refine ⟨_, _, _, _, ⟨s.data.toList, m, kd, l⟩, rfl, ⟨_, ?_, r3⟩, ⟨by show m < 18446744073709551616; omega, bounds_i64 w2, o3⟩, ?_⟩
    · rw [hs]
    · have : s.size = s.data.toList.length := size_list s
      show s.data.toList.length ≤ _
      rw [← this]
      exact Nat.le_trans w0 (by decide)
end
end Go.Proofs.YtpodoiichpnpjaaDoor
