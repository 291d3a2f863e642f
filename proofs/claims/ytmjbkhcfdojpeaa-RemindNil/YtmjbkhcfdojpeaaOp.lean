/-
  Rows of reminders that came in; scripts of calls.
-/
import Derived.Test.YtmjbkhcfdojpeaaQj
import Derived.Deep.Slices
import Derived.ChangeArms
import Derived.OpenShut
import Derived.SizedLaws
namespace Go.Proofs.Ytmjbkhcfdojpeaa
set_option maxRecDepth 100000
open Go.RowKit Go.Deep Go.ChangeShapes
set_option linter.unusedVariables false
theorem rowR_form {w : World} {v : Value} {l : List Rm} (h : ReadsR 5 w v (CR l)) : ∃ a c, v = .slice a l.length c ∧ l.length ≤ c ∧ c ≤ 9223372036854775807 := by
  have := ReadsR.form h
  rwa [CR_length] at this
theorem rowR_at {w : World} {a : Option Addr} {n c : Nat} {l : List Rm} (h : ReadsR 5 w (.slice a n c) (CR l)) {j : Nat} {y : Rm} (hy : l[j]? = some y) : ∃ b o, a = some ⟨b, o, none⟩ ∧ w.cell? ⟨b, o + j * 5, none⟩ = some (Sv y.ac) ∧ w.cell? ⟨b, o + j * 5 + 1, none⟩ = some (Sv y.nm) ∧ w.cell? ⟨b, o + j * 5 + 2, none⟩ = some (Iv y.due) ∧ w.cell? ⟨b, o + j * 5 + 3, none⟩ = some (Iv y.per) ∧ w.cell? ⟨b, o + j * 5 + 4, none⟩ = some (Iv y.kind) := by
  obtain ⟨b, o, c', e, hc⟩ := ReadsR.at h j (cellsR y) (by simp [CR, hy])
  injection e with e _ _
  have h0 := hc 0 _ rfl
  have h1 := hc 1 _ rfl
  have h2 := hc 2 _ rfl
  have h3 := hc 3 _ rfl
  have h4 := hc 4 _ rfl
  rw [Nat.add_zero] at h0
  exact ⟨b, o, e, h0, h1, h2, h3, h4⟩
/-- Reminders that came in. -/
def RemsIn (W : World) (v : Value) (l : List Rm) : Prop := ReadsR 5 W v (CR l) ∧ ∀ r ∈ l, R64 r
theorem open_rem {H : Type} {enc : TypeId × Value → H} {W : World} {fuel : Nat} {cs : List Value} {x : DataW H × List MemPlace} (h : DataW.trod enc Try.prog W 0 (fun _ => true) true fuel 52 cs = some x) (hl : cs.length = 5) :
    ∃ r : Rm, cs = cellsR r ∧ R64 r := by
  obtain ⟨xs, k, hk, hxy, _, hxl, hf⟩ := DataW.trod_struct Try.underlying52 h
  match xs, hxl, cs, hl with
  | [y0, y1, y2, y3, y4], _, [v0, v1, v2, v3, v4], _ =>
    have g0 := hf 0 _ rfl
    have g1 := hf 1 _ rfl
    have g2 := hf 2 _ rfl
    have g3 := hf 3 _ rfl
    have g4 := hf 4 _ rfl
    simp [show Try.prog.cellsOf 9 = 1 by kernel_rfl, show Try.prog.cellsOf 2 = 1 by kernel_rfl] at g0 g1 g2 g3 g4
    obtain ⟨s, e0, f0, w0⟩ := DataW.trod_string Try.underlying9 g0
    obtain ⟨t, e1, f1, w1⟩ := DataW.trod_string Try.underlying9 g1
    obtain ⟨a, e2, f2, w2⟩ := DataW.trod_int Try.underlying2 g2
    obtain ⟨b, e3, f3, w3⟩ := DataW.trod_int Try.underlying2 g3
    obtain ⟨c, e4, f4, w4⟩ := DataW.trod_int Try.underlying2 g4
    simp at e0 e1 e2 e3 e4
    subst e0 e1 e2 e3 e4
    have hs : Sv s.data.toList = .string s := by obtain ⟨d⟩ := s; simp
    have ht : Sv t.data.toList = .string t := by obtain ⟨d⟩ := t; simp
    exact ⟨⟨s.data.toList, t.data.toList, a, b, c⟩, by rw [← hs, ← ht]; rfl, ⟨bounds_i64 w2, bounds_i64 w3, bounds_i64 w4⟩⟩
end Go.Proofs.Ytmjbkhcfdojpeaa
