/-
  Units twice, of a Log with one unit.
-/
import Derived.Test.YtdcjaopmfccgbaaNilWalk
namespace Go.Proofs.Ytdcjaopmfccgbaa
open Go.RowKit
set_option linter.unusedVariables false

theorem str35 (v : Value) (l : List UInt8) (w : World) (h : Reads w v l) : (convert 35 9 v).run Try.prog w = .ok (.string ⟨l.toArray⟩) w := string_of (P := Try.prog) 35 5 Try.underlying35 9 Try.underlying5 Try.underlying9 v l w h
theorem units_lg {w : World} {H : List Nat} {q : Nat} {s : St} {p fr ct ep : Nat} {us : List (List UInt8)} {over : Bool} (h : Lg w H q s p fr ct ep us over) :
    Calls Try.prog 19 #[.pointer (some ⟨p, 0, none⟩)] w fun e w' => ∃ g, e = .returned (.slice (some ⟨g, 0, none⟩) us.length us.length) ∧ UR w w' g us us.length ∧ Kept [] w w' ∧ w.heap.size ≤ g := by
  have hl := h.len
  obtain ⟨F, G, rfl, hD, hL, h3, h4, h5, h6⟩ := h
  exact units_any hL hl.1 hl.2.1
/-- Units twice, and the text of the one unit. -/
theorem two_units {w0 w : World} {H : List Nat} {q : Nat} {s : St} {p fr ct ep : Nat} {l : List UInt8} {a : Option Addr} {n cap : Nat} (hr : Reads w0 (.slice a n cap) l) (h : Lg w H q s p fr ct ep [l] false) (k : Kept [] w0 w) (hn : l.length = n) :
    Calls Try.prog 19 #[.pointer (some ⟨p, 0, none⟩)] w fun e wa => ∃ g1, e = .returned (.slice (some ⟨g1, 0, none⟩) 1 1) ∧ (convert 35 9 (.slice a n cap)).run Try.prog wa = .ok (.string ⟨l.toArray⟩) wa ∧
      Calls Try.prog 19 #[.pointer (some ⟨p, 0, none⟩)] wa fun e wb => ∃ g2 a2 c2, e = .returned (.slice (some ⟨g2, 0, none⟩) 1 1) ∧ wb.cell? ⟨g2, 0, none⟩ = some (.slice a2 n c2) ∧ (convert 35 9 (.slice a2 n c2)).run Try.prog wb = .ok (.string ⟨l.toArray⟩) wb ∧ (convert 35 9 (.slice a n cap)).run Try.prog wb = .ok (.string ⟨l.toArray⟩) wb ∧ Kept [] w0 wb := by
  have hd := h
  have kd := k
  refine (units_lg hd).mono fun e wa ⟨g1, he, _, ka, _⟩ => ⟨g1, he, str35 _ _ wa (hr.kept (kd.trans ka (by simp)) (by simp)), ?_⟩
  refine (units_lg (hd.kept ka (by simp))).mono fun e wb ⟨g2, he, hU, kb, _⟩ => ?_
  obtain ⟨a2, c2, h1, h2, _⟩ := hU.at 0 l rfl
  rw [hn] at h1 h2
  have hk := (kd.trans ka (by simp)).trans kb (by simp)
  exact ⟨g2, a2, c2, he, h1, str35 _ _ wb h2.reads, str35 _ _ wb (hr.kept hk (by simp)), hk⟩

end Go.Proofs.Ytdcjaopmfccgbaa
