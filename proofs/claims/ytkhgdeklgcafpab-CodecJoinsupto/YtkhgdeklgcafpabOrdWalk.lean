/-
  CodecOrder: the walk.
-/
import Derived.Test.YtkhgdeklgcafpabNilWalk
import Derived.Test.YtkhgdeklgcafpabOrd
namespace Go.Proofs.Ytkhgdeklgcafpab
open Go.RowKit
attribute [local go_sem ↓] Go.wp_at_zero Go.wp_at_succ

/-- NewWriter: a Writer in new memory. -/
theorem newW (w : World) : Calls Try.prog 6 #[] w fun e w' => ∃ p, e = .returned (.pointer (some ⟨p, 0, none⟩)) ∧ IsW 44 5 w' p (.slice none 0 0) [] ∧ Kept [] w w' ∧ w.heap.size ≤ p :=
  (new_w w).mono fun e w' ⟨he, hw⟩ => ⟨_, he, by subst hw; exact new_isW w, by subst hw; exact (Kept.refl [] w).alloc _, Nat.le_refl _⟩

/-- A new Writer's footprint is its block. -/
theorem foot_nil (p : Nat) : foot p (.slice none 0 0) = [p] := rfl

/-- The slice that a new Writer's first call has laid is new. -/
theorem new_nil {w : World} {v : Value} (h : New w (.slice none 0 0) v) : Fresh w v := fun g hg => by
  rcases h g hg with h1 | h1
  · simp [Value.ownBlock] at h1
  · exact h1

end Go.Proofs.Ytkhgdeklgcafpab
