/-
  Reader.Text and NewReader.
-/
import Derived.Test.YtbmpoboenhdnoaaRNum
namespace Go.Proofs.Ytbmpoboenhdnoaa
set_option maxRecDepth 100000
open Go.RowKit
/-- The facts that the walk of Reader.Text wants of a Reader. -/
theorem isR_form {t : TypeId} {w : World} {p : Nat} {v : Value} {l : List UInt8} {bad : Bool} (hR : IsR t w p v l bad) : ∃ a cap, v = .slice a l.length cap ∧ l.length ≤ cap ∧ cap ≤ 9223372036854775807 := by
  obtain ⟨a, cap, rfl, h2, h3, -, -⟩ := hR.reads
  exact ⟨a, cap, rfl, h2, h3⟩
set_option maxHeartbeats 400000 in
theorem newr_any (v : Value) (l : List UInt8) (w : World) (h : Reads w v l) (hl : l.length ≤ 140737488355328) :
    Calls Try.prog 38 #[v] w fun e w' => ∃ p v', e = .returned (.pointer (some ⟨p, 0, none⟩)) ∧ IsR 85 w' p v' l false ∧ Kept [] w w' ∧ Fresh w v' ∧ w.heap.size ≤ p := by
  go_enter Try.func38, Try.ntmps38
  go_wp2_with (go_at_call 49; refine (clone_any v l _ h hl).mono ?_; rintro e w1 ⟨v1, rfl, hown, hk, hf⟩; obtain ⟨a1, c1, hv1⟩ := hown.form; rw [hv1])
  go_ret
  subst hv1
  have hne : (Value.slice a1 l.length c1).ownBlock ≠ some w1.heap.size := fun h => by have := hown.lt h; omega
  exact ⟨w1.heap.size, _, rfl, ⟨heap_alloc_new w1 _, hown.reads.kept ((Kept.refl [] w1).alloc _) (by simp), hne, by simp⟩, hk.alloc _, hf, hk.size⟩
end Go.Proofs.Ytbmpoboenhdnoaa
