/-
  Two objects side by side.
-/
import Derived.Test.YtmihpgejaobdbaaHs
import Derived.Test.YtmihpgejaobdbaaLi
namespace Go.Proofs.Ytmihpgejaobdbaa
set_option maxRecDepth 100000
open Go.RowKit
set_option linter.unusedVariables false
/-- What lies in the blocks F, and stays while these are kept. -/
structure Stays (X : World → List Nat → Prop) : Prop where
  kept : ∀ {S : List Nat} {w w' : World} {F : List Nat}, X w F → Kept S w w' → (∀ b ∈ F, b ∉ S) → X w' F
  lt : ∀ {w : World} {F : List Nat}, X w F → ∀ b ∈ F, b < w.heap.size
/-- Two of them, in memory that is new since w, and apart. -/
def Pair (w wr : World) (X Y : World → List Nat → Prop) : Prop := ∃ F G, X wr F ∧ Y wr G ∧ (∀ b ∈ F, b ∉ G) ∧ (∀ b ∈ F, w.heap.size ≤ b) ∧ (∀ b ∈ G, w.heap.size ≤ b) ∧ Kept [] w wr
section
variable {w wr : World} {X Y : World → List Nat → Prop}
theorem Pair.swap (h : Pair w wr X Y) : Pair w wr Y X := by
  obtain ⟨F, G, h1, h2, h3, h4, h5, h6⟩ := h
  exact ⟨G, F, h2, h1, fun b hb hc => h3 b hc hb, h5, h4, h6⟩
theorem Pair.old (h : Pair w wr X Y) : Kept [] w wr := by
  obtain ⟨F, G, -, -, -, -, -, h6⟩ := h
  exact h6
theorem Pair.left (h : Pair w wr X Y) : ∃ F, X wr F := by
  obtain ⟨F, G, h1, -⟩ := h
  exact ⟨F, h1⟩
theorem Pair.right (h : Pair w wr X Y) : ∃ F, Y wr F := h.swap.left
theorem Pair.quiet (h : Pair w wr X Y) (sX : Stays X) (sY : Stays Y) {w' : World} (k : Kept [] wr w') : Pair w w' X Y := by
  obtain ⟨F, G, h1, h2, h3, h4, h5, h6⟩ := h
  exact ⟨F, G, sX.kept h1 k (by simp), sY.kept h2 k (by simp), h3, h4, h5, h6.trans k (by simp)⟩
theorem Pair.step (h : Pair w wr X Y) (sY : Stays Y) : ∃ F, X wr F ∧ ∀ (w' : World) (F' : List Nat) (X' : World → List Nat → Prop), X' w' F' → Kept F wr w' → (∀ b ∈ F', b ∈ F ∨ wr.heap.size ≤ b) → Pair w w' X' Y := by
  obtain ⟨F, G, h1, h2, h3, h4, h5, h6⟩ := h
  refine ⟨F, h1, fun w' F' X' x k f => ⟨F', G, x, sY.kept h2 k (fun b hb hc => h3 b hc hb), fun b hb hc => ?_, fun b hb => ?_, h5, h6.trans k (fun b hb => .inr (h4 b hb))⟩⟩
  · rcases f b hb with h | h
    · exact h3 b h hc
    · have := sY.lt h2 b hc
      omega
  · rcases f b hb with h | h
    · exact h4 b h
    · exact Nat.le_trans h6.size h
end
/-- A table, and what it has. -/
def TX (T : Nat) (m : Int) (L : List Ky) : World → List Nat → Prop := fun w F => IsT w T m L F
/-- The document's. -/
def UX (U : Nat) (m : Int) (L : List Ky) : World → List Nat → Prop := fun w F => ∃ v, IsU w U m L v ∧ F = footU U v
theorem stays_T (T : Nat) (m : Int) (L : List Ky) : Stays (TX T m L) := ⟨fun h k hn => h.kept k hn, fun h => h.lt⟩
theorem stays_U (U : Nat) (m : Int) (L : List Ky) : Stays (UX U m L) := ⟨fun ⟨v, h, e⟩ k hn => by subst e; exact ⟨v, h.kept k hn, rfl⟩, fun ⟨v, h, e⟩ => by subst e; exact h.lt⟩
section
variable {w wr : World} {T U : Nat} {m : Int} {L : List Ky} {Y : World → List Nat → Prop}
/-- Touch, beside another. -/
theorem Pair.touch (h : Pair w wr (TX T m L) Y) (sY : Stays Y) {k : Ky} (hl : k.length ≤ 140737488355328) (hc : L.length ≤ cp m) (hm : cp m ≤ 10000) : Calls Try.prog 10 #[Pp T, Sv k] wr fun e w' => e = .returned (tin (touchT (cp m) L k).2) ∧ Pair w w' (TX T m (touchT (cp m) L k).1) Y := by
  obtain ⟨F, hX, hs⟩ := h.step sY
  exact (touch10 hX hl hc hm).mono fun e w' ⟨h1, F', h2, h3, h4⟩ => ⟨h1, hs w' F' _ h2 h3 h4⟩
theorem Pair.drop (h : Pair w wr (TX T m L) Y) (sY : Stays Y) {k : Ky} (hl : k.length ≤ 140737488355328) : Calls Try.prog 12 #[Pp T, Sv k] wr fun e w' => e = .returned (.bool (decide (k ∈ L))) ∧ Pair w w' (TX T m (noT L k)) Y := by
  obtain ⟨F, hX, hs⟩ := h.step sY
  exact (drop12 hX hl).mono fun e w' ⟨h1, F', h2, h3, h4⟩ => ⟨h1, hs w' F' _ h2 h3 (fun b hb => .inl (h4 b hb))⟩
theorem Pair.touchU (h : Pair w wr (UX U m L) Y) (sY : Stays Y) (k : Ky) (hl : L.length ≤ 10000) (hm : 1 ≤ m) : Calls Try.prog 11 #[Pp U, Sv k] wr fun e w' => e = .returned (tin (touchT m.toNat L k).2) ∧ Pair w w' (UX U m (touchT m.toNat L k).1) Y := by
  obtain ⟨F, ⟨v, hX, rfl⟩, hs⟩ := h.step sY
  exact (touch11 hX hl hm k).mono fun e w' ⟨h1, v', h2, h3, h4⟩ => ⟨h1, hs w' _ _ ⟨v', h2, rfl⟩ h3 h4⟩
theorem Pair.dropU (h : Pair w wr (UX U m L) Y) (sY : Stays Y) (k : Ky) (hl : L.length ≤ 10000) : Calls Try.prog 13 #[Pp U, Sv k] wr fun e w' => e = .returned (.bool (decide (k ∈ L))) ∧ Pair w w' (UX U m (noT L k)) Y := by
  obtain ⟨F, ⟨v, hX, rfl⟩, hs⟩ := h.step sY
  refine (drop13 hX (by omega) k).mono fun e w' ⟨h1, v', h2, h3, h4⟩ => ⟨h1, hs w' _ _ ⟨v', h2, rfl⟩ (h3.mono (fun x hx => .inl (mem_footU.2 (.inl (by simpa using hx))))) (fun b hb => ?_)⟩
  rcases mem_footU.1 hb with rfl | hb
  · exact .inl (mem_footU.2 (.inl rfl))
  · exact .inr (h4 b hb)
end
/-- How many, of a number that is not too great. -/
theorem cp_min (n : Nat) (h : n ≤ 10000) : cp (min (max (n : Int) 1) 10000) = max n 1 := by
  unfold cp
  omega
theorem lastT_len (c : Nat) (D : List Ky) : (lastT c D).length ≤ c := by
  unfold lastT
  rw [List.length_drop]
  omega
end Go.Proofs.Ytmihpgejaobdbaa
