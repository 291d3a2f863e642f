/-
  CodecNil: the walk.
-/
import Derived.Test.YtkhgdeklgcafpabRef
import Derived.Test.YtkhgdeklgcafpabAwake
import Derived.Deep.RegionWith
import Derived.Deep.DrawnRows
namespace Go.Proofs.Ytkhgdeklgcafpab
open Go.RowKit
attribute [local go_sem ↓] Go.wp_at_zero Go.wp_at_succ

theorem IsW.drew {t e : TypeId} {w : World} {p : Nat} {v : Value} {l : List UInt8} (h : IsW t e w p v l) : IsW t e w.drew p v l := ⟨h.box, h.own, h.apart⟩

theorem foot_new {w : World} {p : Nat} {x : Nat} (hp : w.heap.size ≤ p) (hx : x ∈ foot p (.slice none 0 0)) : x ∈ ([] : List Nat) ∨ w.heap.size ≤ x := by
  rw [mem_foot] at hx
  rcases hx with rfl | hx
  · exact .inr hp
  · simp [Value.ownBlock] at hx

end Go.Proofs.Ytkhgdeklgcafpab
