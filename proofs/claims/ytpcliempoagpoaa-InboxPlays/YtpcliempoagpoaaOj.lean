/-
  Integers that came in, opened.
-/
import Derived.Test.YtpcliempoagpoaaOi
namespace Go.Proofs.Ytpcliempoagpoaa
open Go.RowKit Go.Deep Go.ChangeShapes
set_option linter.unusedVariables false
/-- Integers that came in. -/
def IntsIn (W : World) (v : Value) (l : List Int) : Prop := ReadsJ W v l ∧ ∀ z ∈ l, I64 z
theorem open_intsI {H : Type} {enc : TypeId × Value → H} {W : World} {fuel : Nat} {cs : List Value} {x : DataW H × List MemPlace} (h : DataW.trod enc Try.prog W 0 (fun _ => true) true fuel 32 cs = some x) : ∃ v l, cs = [v] ∧ IntsIn W v l := by
  rcases open_ints Try.underlying32 Try.underlying2 (by kernel_rfl) h with ⟨hcs, hx⟩ | ⟨y, l, c, zs, hcs, _, hl, hm, hz, hx, hcell, hwz⟩
  · exact ⟨_, [], hcs, ReadsJ.nil W, by simp⟩
  · obtain ⟨B, hB, hBl, _⟩ := readsJ_of_row W y zs hl hm (by simpa using hz) hcell hwz
    exact ⟨_, B, hcs, hB, hBl⟩
end Go.Proofs.Ytpcliempoagpoaa
