/-
  A window of a law's own: what it remembers is good, and all of it is new.
-/
import Derived.Test.YtngjljgcldfekaaWt
namespace Go.Proofs.Ytngjljgcldfekaa
open Go.RowKit
set_option linter.unusedVariables false
/-- A window that was made since w0. -/
structure Win (w0 w : World) (p : Nat) (L : List Cl) : Prop where
  is : IsWd w p L
  good : Good L
  kept : Kept [] w0 w
  new : w0.heap.size ≤ p
section
variable {w0 w w' : World} {p : Nat} {L : List Cl}
theorem Win.kept0 (h : Win w0 w p L) (k : Kept [] w w') : Win w0 w' p L := ⟨h.is.kept0 k, h.good, h.kept.trans k (by simp), h.new⟩
theorem win_new (k : Kept [] w0 w) : Calls Try.prog 10 #[] w fun e w' => e = .returned (.pointer (some ⟨w.heap.size, 0, none⟩)) ∧ Win w0 w' w.heap.size [] ∧ Kept [] w w' := by
  refine new10.mono ?_
  rintro e w1 ⟨rfl, h, k1, -⟩
  exact ⟨rfl, ⟨h, Good.nil, k.trans k1 (by simp), k.size⟩, k1⟩
theorem win_add (h : Win w0 w p L) {c s : Nat} (hc : U64 c) (hs : U64 s) : Calls Try.prog 11 #[.pointer (some ⟨p, 0, none⟩), Uv c, Uv s] w fun e w' => e = .returned (.bool (!seenL L c s)) ∧ Win w0 w' p (nxt L c s) ∧ Kept [p] w w' := by
  refine (add11 h.is h.good c s).mono ?_
  rintro e w1 ⟨rfl, h1, k1⟩
  exact ⟨rfl, ⟨h1, h.good.nxt hc hs, h.kept.trans k1 (fun x hx => by simp at hx; subst hx; exact .inr h.new), h.new⟩, k1⟩
theorem win_seen (h : Win w0 w p L) (c s : Nat) : Calls Try.prog 14 #[.pointer (some ⟨p, 0, none⟩), Uv c, Uv s] w fun e w' => e = .returned (.bool (seenL L c s)) ∧ Win w0 w' p L ∧ Kept [] w w' := by
  refine (seen14 h.is c s).mono ?_
  rintro e w1 ⟨rfl, k1⟩
  exact ⟨rfl, h.kept0 k1, k1⟩
theorem win_serials (h : Win w0 w p L) (c : Nat) : Calls Try.prog 17 #[.pointer (some ⟨p, 0, none⟩), Uv c] w fun e w' => ∃ v, e = .returned v ∧ OwnsU w' v (srl L c) ∧ Fresh w v ∧ Win w0 w' p L ∧ Kept [] w w' := by
  refine (serials17 h.is c).mono ?_
  rintro e w1 ⟨v, rfl, h1, k1, h2⟩
  exact ⟨v, rfl, h1, h2, h.kept0 k1, k1⟩
theorem win_clients (h : Win w0 w p L) : Calls Try.prog 23 #[.pointer (some ⟨p, 0, none⟩)] w fun e w' => ∃ v, e = .returned v ∧ OwnsU w' v (clis L) ∧ Fresh w v ∧ Win w0 w' p L ∧ Kept [] w w' := by
  refine (clients23 h.is).mono ?_
  rintro e w1 ⟨v, rfl, h1, k1, h2⟩
  exact ⟨v, rfl, h1, h2, h.kept0 k1, k1⟩
set_option maxRecDepth 100000 in
set_option maxHeartbeats 1000000 in
theorem awake9 : Calls Try.prog 9 #[] w fun e w' => e = .returned (.bool true) ∧ Kept [] w w' := by
  go_enter Try.func9, Try.ntmps9
  go_wp2_with fail
  refine (win_new (Kept.refl [] w)).mono ?_
  rintro e w1 ⟨rfl, h1, k1⟩
  go_wp2_with fail
  refine (win_add (c := 1) (s := 5) h1 (by unfold U64; omega) (by unfold U64; omega)).mono ?_
  rintro e w2 ⟨rfl, h2, -⟩
  have e1 : seenL [] 1 5 = false := by decide
  have e2 : nxt [] 1 5 = [⟨1, [5]⟩] := rfl
  have e3 : seenL [⟨1, [5]⟩] 1 5 = true := by decide
  rw [e1]
  rw [e2] at h2
  go_wp2_with fail
  refine (win_add (c := 1) (s := 5) h2 (by unfold U64; omega) (by unfold U64; omega)).mono ?_
  rintro e w3 ⟨rfl, h3, -⟩
  have e4 : nxt [⟨1, [5]⟩] 1 5 = [⟨1, [5]⟩] := by unfold nxt; rw [if_pos e3]
  rw [e3]
  rw [e4] at h3
  go_wp2_with fail
  refine (win_seen h3 1 5).mono ?_
  rintro e w4 ⟨rfl, h4, -⟩
  rw [e3]
  go_wp2_with fail
  go_ret
  exact ⟨rfl, h4.kept⟩
end
end Go.Proofs.Ytngjljgcldfekaa
