/-
  few, and awake.
-/
import Derived.Test.YtpcliempoagpoaaEn
namespace Go.Proofs.Ytpcliempoagpoaa
open Go.RowKit
set_option linter.unusedVariables false
section
variable {w : World}
/-- Letters of a size that is looked at. -/
def FewQ (l : List Lq) : Prop := l.length ≤ 301 ∧ ∀ q ∈ l, q.x.fr.length ≤ 1000 ∧ q.x.args.length ≤ 1000
/-- What few answers. -/
def FewAt (l : List Lq) (w : World) (e : Ending) (w' : World) : Prop := ∃ b : Bool, e = .returned (.bool b) ∧ (b = true → FewQ l) ∧ Kept [] w w'
theorem few_yes {l : List Lq} {w w' : World} (h : FewQ l) (k : Kept [] w w') : FewAt l w (.returned (.bool true)) w' := ⟨true, rfl, fun _ => h, k⟩
theorem few_no {l : List Lq} {w w' : World} (k : Kept [] w w') : FewAt l w (.returned (.bool false)) w' := ⟨false, rfl, (fun h => Bool.noConfusion h), k⟩
/-- A new block of rows reads as them. -/
theorem reads_rows {k : Nat} (w : World) (rs : List (List Value)) (hw : Wide k rs) (hl : rs.length ≤ maxLen) (t : TypeId) (fr : Nat × Nat) : ReadsR k (w.alloc (.cells rs.flatten.toArray t fr)) (.slice (some ⟨w.heap.size, 0, none⟩) rs.length rs.length) rs := by
  have hh : (w.alloc (.cells rs.flatten.toArray t fr)).heap[w.heap.size]? = some (.cells rs.flatten.toArray t fr) := heap_alloc_new w _
  refine ⟨_, rs.length, rfl, Nat.le_refl _, hl, by simp, fun _ => ⟨w.heap.size, 0, rfl, fun j u hu i x hx => ?_⟩⟩
  have := hw.at j u hu i x hx
  unfold World.cell?
  rw [hh]
  simpa using this
theorem rowQ_new (w : World) (l : List Lq) (hl : l.length ≤ 1000) (t : TypeId) (fr : Nat × Nat) : RowQ (w.alloc (.cells (CQ l).flatten.toArray t fr)) (.slice (some ⟨w.heap.size, 0, none⟩) l.length l.length) l := by
  have := reads_rows w (CQ l) (CQ_wide l) (by rw [CQ_length]; unfold maxLen; omega) t fr
  rwa [CQ_length] at this
end
end Go.Proofs.Ytpcliempoagpoaa
