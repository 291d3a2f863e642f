/-
  The document's Decode.
-/
import Derived.Test.YtngjljgcldfekaaDd
namespace Go.Proofs.Ytngjljgcldfekaa
open Go.RowKit
set_option linter.unusedVariables false
/-- The document's window at p and its Reader at q, side by side. -/
structure SF (w0 w : World) (p q : Nat) (A : List Cl) (l : List UInt8) (bad : Bool) : Prop where
  ref : ∃ v qs, IsF w p v qs ∧ mx qs = A
  good : Good A
  rd : ∃ u, IsR 74 w q u l bad ∧ u.ownBlock ≠ some p
  newq : w0.heap.size ≤ q
  newp : w0.heap.size ≤ p
  kept : Kept [] w0 w
section
variable {w0 w : World} {p q : Nat} {A : List Cl} {l : List UInt8} {bad : Bool}
theorem SF.cell (h : SF w0 w p q A l bad) : w.cell? ⟨q, 1, none⟩ = some (.bool bad) := by
  obtain ⟨u, h1, -⟩ := h.rd
  exact (cell_of_two h1.box).2
theorem sf_num (h : SF w0 w p q A l bad) : Calls Try.prog 42 #[.pointer (some ⟨q, 0, none⟩)] w fun e w' => e = .returned (.int .u64 ((rnum l bad).1 : Int)) ∧ SF w0 w' p q A (rnum l bad).2.1 (rnum l bad).2.2 := by
  obtain ⟨u, h1, h2⟩ := h.rd
  obtain ⟨v, qs, h3, h4⟩ := h.ref
  refine (refr_any q u l bad w h1).mono ?_
  rintro e w' ⟨rfl, u', i1, i2, i3⟩
  exact ⟨rfl, ⟨v, qs, h3.besides h1.box (by decide) (by decide) (by decide) i2, h4⟩, h.good, ⟨u', i1, fun e => h2 (i3 p e)⟩, h.newq, h.newp, h.kept.trans i2 (fun x hx => by simp at hx; subst hx; exact .inr h.newq)⟩
theorem sf_add (h : SF w0 w p q A l bad) {c s : Nat} (hc : U64 c) (hs : U64 s) : Calls Try.prog 12 #[.pointer (some ⟨p, 0, none⟩), Uv c, Uv s] w fun e w' => e = .returned (.bool (!seenL A c s)) ∧ SF w0 w' p q (nxt A c s) l bad := by
  obtain ⟨u, h1, h2⟩ := h.rd
  obtain ⟨v, qs, h3, rfl⟩ := h.ref
  refine (radd12 h3 (by have := h.good.len; rw [mx, List.length_map] at this; exact this) h.good.four c s).mono ?_
  rintro e w' ⟨rfl, v', qs', i1, i2, k1⟩
  exact ⟨rfl, ⟨v', qs', i1, i2⟩, h.good.nxt hc hs, ⟨u, h1.kept k1 (by simp; exact box_ne h1.box h3.box (by decide)) (fun g hg hm => by simp at hm; subst hm; exact h2 hg), h2⟩, h.newq, h.newp, h.kept.trans k1 (fun x hx => by simp at hx; subst hx; exact .inr h.newp)⟩
theorem sf_place_some (h : SF w0 w p q A l bad) {c : Nat} (hz : ∃ z ∈ A, z.c = c) : Calls Try.prog 31 #[.pointer (some ⟨p, 0, none⟩), Uv c] w fun e w' => (∃ j : Nat, e = .returned (.int .i64 (j : Int))) ∧ w = w' := by
  obtain ⟨v, qs, h3, rfl⟩ := h.ref
  rcases where_is (mx qs) c with ⟨j, x, i1, i2, i3, -⟩ | ⟨i1, -⟩
  · obtain ⟨y, hy, rfl⟩ := mx_get i1
    refine (place31_some h3 hy i2 (fun z hm => i3 z.x (mx_take hm))).mono ?_
    rintro e w' ⟨rfl, rfl⟩
    exact ⟨⟨j, rfl⟩, rfl⟩
  · obtain ⟨z, i2, i3⟩ := hz
    exact absurd i3 (i1 z i2)
theorem sf_place_none (h : SF w0 w p q A l bad) {c : Nat} (hz : ∀ z ∈ A, z.c ≠ c) : Calls Try.prog 31 #[.pointer (some ⟨p, 0, none⟩), Uv c] w fun e w' => e = .returned (.int .i64 (-1)) ∧ w = w' := by
  obtain ⟨v, qs, h3, rfl⟩ := h.ref
  exact place31_none h3 fun y hy => hz y.x (List.mem_map.2 ⟨y, hy, rfl⟩)
theorem sf_end (h : SF w0 w p q A l bad) : Calls Try.prog 43 #[.pointer (some ⟨q, 0, none⟩)] w fun e w' => e = .returned (.bool (!bad && l.isEmpty)) ∧ w = w' := by
  obtain ⟨u, h1, -⟩ := h.rd
  exact refr_end q u l bad w h1
/-- What the document's Decode answers. -/
def RDecAt (w : World) (o : Option (List Cl)) (e : Ending) (w' : World) : Prop :=
  (o = none ∧ e = .returned (.tuple #[.pointer none, .int .i64 2]) ∧ Kept [] w w') ∨
  (∃ p A, o = some A ∧ e = .returned (.tuple #[.pointer (some ⟨p, 0, none⟩), .int .i64 0]) ∧ (∃ v qs, IsF w' p v qs ∧ mx qs = A) ∧ Good A ∧ Kept [] w w' ∧ w.heap.size ≤ p)
theorem rdec_no {o : Option (List Cl)} {w' : World} (h : o = none) (k : Kept [] w w') : RDecAt w o (.returned (.tuple #[.pointer none, .int .i64 2])) w' := .inl ⟨h, rfl, k⟩
theorem rdec_yes {o : Option (List Cl)} {w' : World} {p q : Nat} {A : List Cl} {l : List UInt8} {bad : Bool} (h : o = some A) (hS : SF w w' p q A l bad) : RDecAt w o (.returned (.tuple #[.pointer (some ⟨p, 0, none⟩), .int .i64 0])) w' := .inr ⟨p, A, h, rfl, hS.ref, hS.good, hS.kept, hS.newp⟩
/-- What is left of bytes that go on with n clients, A being there. -/
def Go1 (o : Option (List Cl)) (n : Nat) (A : List Cl) (l : List UInt8) : Prop := o = (rwin n A l).bind fun y => if y.2 = [] then some y.1 else none
/-- And with k serials of the client c ahead of them. -/
def Go2 (o : Option (List Cl)) (n k c : Nat) (A : List Cl) (l : List UInt8) : Prop := o = (rser c k A l).bind fun x => (rwin n x.1 x.2).bind fun y => if y.2 = [] then some y.1 else none
theorem go1_step {o : Option (List Cl)} {n : Nat} (h : Go1 o (n + 1) A l) : (num l = none → o = none) ∧ ∀ c l1, num l = some (c, l1) → (num l1 = none → o = none) ∧ ∀ k l2, num l1 = some (k, l2) → (k = 0 ∨ 4 < k ∨ (∃ z ∈ A, z.c = c) → o = none) ∧ (¬ (k = 0 ∨ 4 < k ∨ ∃ z ∈ A, z.c = c) → Go2 o n k c A l2) := by
  unfold Go1 at h
  rw [rwin] at h
  refine ⟨fun h1 => ?_, fun c l1 h1 => ⟨fun h2 => ?_, fun k l2 h2 => ⟨fun h3 => ?_, fun h3 => ?_⟩⟩⟩
  · rw [h]; unfold rcl; rw [h1]; rfl
  · rw [h]; unfold rcl; rw [h1]; dsimp only [Option.bind_some]; rw [h2]; rfl
  · rw [h]; unfold rcl; rw [h1]; dsimp only [Option.bind_some]; rw [h2]; dsimp only [Option.bind_some]; rw [if_pos h3]; rfl
  · unfold Go2; rw [h]; unfold rcl; rw [h1]; dsimp only [Option.bind_some]; rw [h2]; dsimp only [Option.bind_some]; rw [if_neg h3, Option.bind_assoc]
theorem go2_zero {o : Option (List Cl)} {n c : Nat} (h : Go2 o n 0 c A l) : Go1 o n A l := h
theorem go2_step {o : Option (List Cl)} {n k c : Nat} (h : Go2 o n (k + 1) c A l) : (num l = none → o = none) ∧ ∀ s r, num l = some (s, r) → (seenL A c s = true → o = none) ∧ (seenL A c s = false → Go2 o n k c (addL A c s) r) := by
  unfold Go2 at h
  rw [rser] at h
  refine ⟨fun h1 => ?_, fun s r h1 => ⟨fun h2 => ?_, fun h2 => ?_⟩⟩
  · rw [h, h1]; rfl
  · rw [h, h1]; dsimp only [Option.bind_some]; rw [if_pos h2]; rfl
  · unfold Go2; rw [h, h1]; dsimp only [Option.bind_some]; rw [if_neg (by simp [h2])]
end
end Go.Proofs.Ytngjljgcldfekaa
