/-
  Blocks of two cells; a struct and two values as results.
-/
import Derived.Test.YtpodoiichpnpjaaDoorRo
namespace Go.Proofs.YtpodoiichpnpjaaDoor
open Go.RowKit
set_option linter.unusedVariables false
section
variable {w : World} {b : Nat} {v0 v1 x0 x1 : Value} {t : TypeId}
theorem cells2 (h : w.heap[b]? = some (.cells #[v0, v1] t (0, 0))) : w.cell? ⟨b, 0, none⟩ = some v0 ∧ w.cell? ⟨b, 1, none⟩ = some v1 := by simp [World.cell?, h]
theorem free2 (h : w.heap[b]? = some (.cells #[v0, v1] t (0, 0))) : w.frozen? ⟨b, 0, none⟩ = false ∧ w.frozen? ⟨b, 1, none⟩ = false := by simp [World.frozen?, h]
theorem put2 (h : w.heap[b]? = some (.cells #[v0, v1] t (0, 0))) (x0 x1 : Value) : ∃ W, (w.setCell ⟨b, 0, none⟩ x0).setCell ⟨b, 1, none⟩ x1 = W ∧ Kept [b] w W ∧ W.heap[b]? = some (.cells #[x0, x1] t (0, 0)) := by
  refine ⟨_, rfl, ((Kept.refl [b] w).setCell (.inl (by simp)) _).setCell (.inl (by simp)) _, ?_⟩
  have h1 : (w.setCell ⟨b, 0, none⟩ x0).heap[b]? = some (.cells #[x0, v1] t (0, 0)) := set_at h
  exact set_at h1
end
section
variable {P : Program}
theorem results_cell_row3 {fn : Func} {p u u' : Tmp} {ty : TypeId} (h : fn.results = #[.cell p ty, .tmp u, .tmp u']) (tmps : Array Value) (w : World) (g : Nat) (t : TypeId) (cs : Array Value) (fr : Nat × Nat) (d : TypeDesc)
    (hp : tmps.getD p undef = .pointer (some ⟨g, 0, none⟩)) (hg : w.heap[g]? = some (.cells cs t fr)) (hu : P.underlying ty = some d) (hd : (match d with | .struct _ | .array _ _ => true | _ => false) = true) (hi : (P.info? ty).map (·.size) = some cs.size) (r : Value) (hr : tmps.getD u undef = r) (r' : Value) (hr' : tmps.getD u' undef = r') :
    (results fn tmps).run P w = .ok (.tuple #[.agg cs, r, r']) w := by
  have hp' : tmps[p]?.getD undef = .pointer (some ⟨g, 0, none⟩) := by simpa using hp
  have hr1 : tmps[u]?.getD undef = r := by simpa using hr
  have hr2 : tmps[u']?.getD undef = r' := by simpa using hr'
  simp [results, h, hp', hr1, hr2, asAddr, run_loadVar_row w g t ty cs fr d hg hu hd hi]
end
end Go.Proofs.YtpodoiichpnpjaaDoor
