/-
  The program's queue and the document's, side by side.
-/
import Derived.Test.YtelmppfacgdfbaaSo
import Derived.Test.YtelmppfacgdfbaaOn
namespace Go.Proofs.Ytelmppfacgdfbaa
set_option maxRecDepth 100000
open Go.RowKit Go.Shelf
set_option linter.unusedVariables false
/-- The program's queue at p has A, the document's at f has B; both are new since w0; nothing elder was turned. -/
structure Two (w0 w : World) (p f : Nat) (A B : List Rm) : Prop where
  isQ : IsQ w p A
  hasF : HasF w f B
  hp : w0.heap.size ≤ p
  hf : w0.heap.size ≤ f
  gA : GoodQ A
  gB : GoodQ B
  kept : Kept [] w0 w
section
variable {w0 w w' : World} {p f : Nat} {A B A' B' : List Rm}
theorem Two.kept0 (T : Two w0 w p f A B) (k : Kept [] w w') : Two w0 w' p f A B := ⟨T.isQ.kept0 k, T.hasF.kept0 k, T.hp, T.hf, T.gA, T.gB, T.kept.trans k (by simp)⟩
theorem Two.prog (T : Two w0 w p f A B) (h : IsQ w' p A') (g : GoodQ A') (k : Kept [p] w w') : Two w0 w' p f A' B := by
  obtain ⟨v, hF⟩ := T.hasF
  exact ⟨h, ⟨v, hF.besides T.isQ k⟩, T.hp, T.hf, g, T.gB, T.kept.trans k (fun x hx => by simp at hx; subst hx; exact .inr T.hp)⟩
theorem Two.doc (T : Two w0 w p f A B) (h : HasF w' f B') (g : GoodQ B') (k : Kept [f] w w') : Two w0 w' p f A B' := by
  obtain ⟨v, hF⟩ := T.hasF
  exact ⟨T.isQ.besides hF k, h, T.hp, T.hf, T.gA, g, T.kept.trans k (fun x hx => by simp at hx; subst hx; exact .inr T.hf)⟩
theorem Two.pl (T : Two w0 w p f A B) : p < w.heap.size := T.isQ.lt
theorem Two.fl (T : Two w0 w p f A B) : f < w.heap.size := T.hasF.lt
theorem two_set (T : Two w0 w p f A B) (r : Rm) (h6 : R64 r) (ha : r.ac.length ≤ 1000000) (hn : r.nm.length ≤ 1000000) : Calls Try.prog 17 #[.pointer (some ⟨p, 0, none⟩), Rv r] w fun e w' => e = .returned (Iv (setA A r)) ∧ Two w0 w' p f (setQ A r) B ∧ Kept [p, f] w w' := by
  refine (set17 T.isQ T.gA r (by omega) (by omega)).mono ?_
  rintro e w1 ⟨rfl, h, k⟩
  exact ⟨rfl, T.prog h (T.gA.setQ h6) k, k.mono (by simp)⟩
theorem two_setF (T : Two w0 w p f A B) (r : Rm) (h6 : R64 r) (ha : r.ac.length ≤ 1000000) : Calls Try.prog 21 #[.pointer (some ⟨f, 0, none⟩), Rv r] w fun e w' => e = .returned (Iv (setA B r)) ∧ Two w0 w' p f A (setQ B r) ∧ Kept [p, f] w w' := by
  refine (set21 T.hasF T.gB r ha).mono ?_
  rintro e w1 ⟨rfl, h, k⟩
  exact ⟨rfl, T.doc h (T.gB.setQ h6) k, k.mono (by simp)⟩
theorem two_can (T : Two w0 w p f A B) (ac nm : List UInt8) : Calls Try.prog 20 #[.pointer (some ⟨p, 0, none⟩), Sv ac, Sv nm] w fun e w' => e = .returned (.bool (hasR A ac nm)) ∧ Two w0 w' p f (canR A ac nm) B ∧ Kept [p, f] w w' := by
  refine (cancel20 T.isQ T.gA ac nm).mono ?_
  rintro e w1 ⟨rfl, h, k⟩
  exact ⟨rfl, T.prog h (T.gA.can _ _) k, k.mono (by simp)⟩
theorem two_canF (T : Two w0 w p f A B) (ac nm : List UInt8) : Calls Try.prog 23 #[.pointer (some ⟨f, 0, none⟩), Sv ac, Sv nm] w fun e w' => e = .returned (.bool (hasR B ac nm)) ∧ Two w0 w' p f A (canR B ac nm) ∧ Kept [p, f] w w' := by
  refine (cancel23' T.hasF (by have := T.gB.len; omega) ac nm).mono ?_
  rintro e w1 ⟨rfl, h, k⟩
  exact ⟨rfl, T.doc h (T.gB.can _ _) k, k.mono (by simp)⟩
theorem two_due (T : Two w0 w p f A B) (now : Int) : Calls Try.prog 24 #[.pointer (some ⟨p, 0, none⟩), Iv now] w fun e w' => e = .returned (.tuple #[Rv (dueA A now).1, .bool (dueA A now).2]) ∧ Two w0 w' p f A B ∧ Kept [p, f] w w' := by
  refine (due24 T.isQ T.gA now).mono ?_
  rintro e w1 ⟨rfl, k⟩
  exact ⟨rfl, T.kept0 k, k.mono (by simp)⟩
theorem two_dueF (T : Two w0 w p f A B) (now : Int) : Calls Try.prog 25 #[.pointer (some ⟨f, 0, none⟩), Iv now] w fun e w' => e = .returned (.tuple #[Rv (dueA B now).1, .bool (dueA B now).2]) ∧ Two w0 w' p f A B ∧ Kept [p, f] w w' := by
  refine (due25 T.hasF (by have := T.gB.len; omega) now).mono ?_
  rintro e w1 ⟨rfl, k⟩
  exact ⟨rfl, T.kept0 k, k.mono (by simp)⟩
theorem two_ser (T : Two w0 w p f A B) (now : Int) : Calls Try.prog 19 #[.pointer (some ⟨p, 0, none⟩), Iv now] w fun e w' => e = .returned (.tuple #[Rv (dueA A now).1, .bool (dueA A now).2]) ∧ Two w0 w' p f (serQ A now) B ∧ Kept [p, f] w w' := by
  refine (serve19 T.isQ T.gA now).mono ?_
  rintro e w1 ⟨rfl, h, k⟩
  exact ⟨rfl, T.prog h (T.gA.ser now) k, k.mono (by simp)⟩
theorem two_serF (T : Two w0 w p f A B) (now : Int) : Calls Try.prog 22 #[.pointer (some ⟨f, 0, none⟩), Iv now] w fun e w' => e = .returned (.tuple #[Rv (dueA B now).1, .bool (dueA B now).2]) ∧ Two w0 w' p f A (serQ B now) ∧ Kept [p, f] w w' := by
  refine (serve22 T.hasF T.gB now).mono ?_
  rintro e w1 ⟨rfl, h, k⟩
  exact ⟨rfl, T.doc h (T.gB.ser now) k, k.mono (by simp)⟩
theorem two_same (T : Two w0 w p f A A) : Calls Try.prog 16 #[.pointer (some ⟨p, 0, none⟩), .pointer (some ⟨f, 0, none⟩)] w fun e w' => e = .returned (.bool true) ∧ Two w0 w' p f A A ∧ Kept [p, f] w w' := by
  refine (same16 T.isQ T.hasF T.gA).mono ?_
  rintro e w1 ⟨rfl, k⟩
  exact ⟨rfl, T.kept0 k, k.mono (by simp)⟩
/-- Both, new. -/
theorem two_new (k : Kept [] w0 w) (hB : IsQ w p []) (hp : w0.heap.size ≤ p) : Two w0 (w.alloc (.cells #[.slice none 0 0] 35)) p w.heap.size [] [] := by
  have kA := (Kept.refl [] w).alloc (.cells #[.slice none 0 0] 35)
  exact ⟨hB.kept0 kA, ⟨.slice none 0 0, heap_alloc_new w _, OwnsR.nil _ _ _⟩, hp, k.size, GoodQ.nil, GoodQ.nil, k.trans kA (by simp)⟩
end
end Go.Proofs.Ytelmppfacgdfbaa
