/-
  A script of calls, as it lies in memory. Nothing here speaks of the program.
-/
import Derived.Test.YtbnakokadaifjaaPlay
namespace Go.Proofs.Ytbnakokadaifjaa
open Go.RowKit
set_option linter.unusedVariables false

/-- A call: its kind, its counter, its number. -/
structure OpD where
  kind : Int
  i : Int
  n : Nat

/-- The slice v (three cells an element) reads as the calls l. -/
def HoldsO (w : World) (v : Value) (l : List OpD) : Prop :=
  ∃ a cap, v = .slice a l.length cap ∧ l.length ≤ cap ∧ cap ≤ maxLen ∧ (∀ x ∈ l, x.n < 18446744073709551616) ∧
    (l ≠ [] → ∃ b o, a = some ⟨b, o, none⟩ ∧ ∀ j x, l[j]? = some x → w.cell? ⟨b, o + j * 3, none⟩ = some (.int .i64 x.kind) ∧ w.cell? ⟨b, o + j * 3 + 1, none⟩ = some (.int .i64 x.i) ∧ w.cell? ⟨b, o + j * 3 + 2, none⟩ = some (.int .u64 (x.n : Int)))

theorem HoldsO.kept {w w' : World} {v : Value} {l : List OpD} (h : HoldsO w v l) (k : Kept [] w w') : HoldsO w' v l := by
  obtain ⟨a, cap, rfl, h2, h3, h4, h5⟩ := h
  refine ⟨a, cap, rfl, h2, h3, h4, fun hl => ?_⟩
  obtain ⟨b, o, rfl, hc⟩ := h5 hl
  refine ⟨b, o, rfl, fun j x hx => ?_⟩
  obtain ⟨c0, c1, c2⟩ := hc j x hx
  rw [k.cell (World.block_lt_of_cell? w _ c0) (by simp), k.cell (World.block_lt_of_cell? w _ c1) (by simp), k.cell (World.block_lt_of_cell? w _ c2) (by simp)]
  exact ⟨c0, c1, c2⟩

/-- The call that is played lies at block r. -/
def OpAt (w : World) (r : Nat) (kd i : Int) (n : Nat) : Prop := w.heap[r]? = some (.cells #[.int .i64 kd, .int .i64 i, .int .u64 (n : Int)] 37 (0, 0))
theorem OpAt.kept {S : List Nat} {w w' : World} {r : Nat} {kd i : Int} {n : Nat} (h : OpAt w r kd i n) (k : Kept S w w') (hn : r ∉ S) : OpAt w' r kd i n := k.keeps h hn
theorem OpAt.one {w : World} {r : Nat} {kd i : Int} {n : Nat} (h : OpAt w r kd i n) : w.cell? ⟨r, 1, none⟩ = some (.int .i64 i) := by
  unfold OpAt at h
  simp [World.cell?, h]
theorem OpAt.two {w : World} {r : Nat} {kd i : Int} {n : Nat} (h : OpAt w r kd i n) : w.cell? ⟨r, 2, none⟩ = some (.int .u64 (n : Int)) := by
  unfold OpAt at h
  simp [World.cell?, h]

/-- What is held while a call is played: the script's call, the document's counter. -/
def Held (q r i y n : Nat) (w : World) : Prop := w.cell? ⟨r, 1, none⟩ = some (.int .i64 (i : Int)) ∧ w.cell? ⟨r, 2, none⟩ = some (.int .u64 (n : Int)) ∧ w.cell? ⟨q, i, none⟩ = some (.int .u64 (y : Int))
theorem held_of {w0 w : World} {p q r i y n : Nat} {kd : Int} {l m : List Nat} (hP : PS w0 p q l m w) (hO : OpAt w r kd (i : Int) n) (hy : m[i]? = some y) : Held q r i y n w := ⟨hO.one, hO.two, hP.row.cell hy⟩

end Go.Proofs.Ytbnakokadaifjaa
