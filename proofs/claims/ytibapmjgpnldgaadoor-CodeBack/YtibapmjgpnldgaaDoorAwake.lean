/-
  awake: the program answers.
-/
import Derived.Test.YtibapmjgpnldgaaDoorRText
import Derived.Test.YtibapmjgpnldgaaDoorWText
namespace Go.Proofs.YtibapmjgpnldgaaDoor
set_option maxRecDepth 100000
open Go.RowKit
/-- A new Writer. -/
theorem new_isW (w : World) : IsW 117 5 (w.alloc (.cells #[.slice none 0 0] 117)) w.heap.size (.slice none 0 0) [] :=
  ⟨heap_alloc_new w _, Owns.nil 5 _, by simp [Value.ownBlock]⟩
/-- A row of bytes that was just laid reads as it was laid. -/
theorem reads_new (w : World) (l : List UInt8) (hl : l.length ≤ maxLen) : Reads (w.alloc (.cells (C8 l).toArray 5)) (.slice (some ⟨w.heap.size, 0, none⟩) l.length l.length) l := by
  refine ⟨_, l.length, rfl, Nat.le_refl _, hl, by simp, fun _ => ⟨w.heap.size, 0, rfl, fun j u hu => ?_⟩⟩
  have h := World.news_of_block (w := w.alloc (.cells (C8 l).toArray 5)) (heap_alloc_new w _) j (B8 u) (by simp [C8, hu])
  have hadd : (⟨w.heap.size, 0, Option.none⟩ : Addr).add j = ⟨w.heap.size, 0 + j, Option.none⟩ := by unfold Addr.add; split <;> simp_all
  rw [hadd] at h
  exact h
theorem enc300 : enc 300 = [249, 1, 44] := by decide
theorem rnum300 : rnum [249, 1, 44] false = (300, [], false) := by decide
end Go.Proofs.YtibapmjgpnldgaaDoor
