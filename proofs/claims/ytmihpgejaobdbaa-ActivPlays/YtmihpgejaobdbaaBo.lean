/-
  The program's table and the document's, side by side.
-/
import Derived.Test.YtmihpgejaobdbaaPr
import Derived.Test.YtmihpgejaobdbaaOq
namespace Go.Proofs.Ytmihpgejaobdbaa
set_option maxRecDepth 100000
open Go.RowKit
set_option linter.unusedVariables false
section
variable {w : World}
/-- The program's table and the document's, with the same keys. -/
structure Both (w wr : World) (T U : Nat) (mt : Int) (L : List Ky) : Prop where
  pair : Pair w wr (TX T mt L) (UX U ((cp mt : Nat) : Int) L)
  few : L.length ≤ cp mt
  cap : cp mt ≤ 10000
theorem Both.quiet {wr w' : World} {T U : Nat} {mt : Int} {L : List Ky} (h : Both w wr T U mt L) (k : Kept [] wr w') : Both w w' T U mt L := ⟨h.pair.quiet (stays_T _ _ _) (stays_U _ _ _) k, h.few, h.cap⟩
theorem Both.touchT_ {wr : World} {T U : Nat} {mt : Int} {L : List Ky} (h : Both w wr T U mt L) {k : Ky} (hl : k.length ≤ 140737488355328) :
    Calls Try.prog 10 #[Pp T, Sv k] wr fun e w' => e = .returned (tin (touchT (cp mt) L k).2) ∧ Calls Try.prog 11 #[Pp U, Sv k] w' fun e w'' => e = .returned (tin (touchT (cp mt) L k).2) ∧ Both w w'' T U mt (touchT (cp mt) L k).1 := by
  refine (h.pair.touch (stays_U _ _ _) hl h.few h.cap).mono ?_
  rintro e w' ⟨rfl, p⟩
  refine ⟨rfl, (p.swap.touchU (stays_T _ _ _) k (by have := h.few; have := h.cap; omega) (by have := cp_pos mt; omega)).mono ?_⟩
  rintro e w'' ⟨rfl, p'⟩
  rw [Int.toNat_natCast] at p' ⊢
  exact ⟨rfl, p'.swap, touchT_len h.few k, h.cap⟩
theorem Both.dropT {wr : World} {T U : Nat} {mt : Int} {L : List Ky} (h : Both w wr T U mt L) {k : Ky} (hl : k.length ≤ 140737488355328) :
    Calls Try.prog 12 #[Pp T, Sv k] wr fun e w' => e = .returned (.bool (decide (k ∈ L))) ∧ Calls Try.prog 13 #[Pp U, Sv k] w' fun e w'' => e = .returned (.bool (decide (k ∈ L))) ∧ Both w w'' T U mt (noT L k) := by
  refine (h.pair.drop (stays_U _ _ _) hl).mono ?_
  rintro e w' ⟨rfl, p⟩
  refine ⟨rfl, (p.swap.dropU (stays_T _ _ _) k (by have := h.few; have := h.cap; omega)).mono ?_⟩
  rintro e w'' ⟨rfl, p'⟩
  exact ⟨rfl, p'.swap, Nat.le_trans (noT_len L k) h.few, h.cap⟩
/-- What a round looks at. -/
theorem Both.cells {wr : World} {T U : Nat} {mt : Int} {L : List Ky} (h : Both w wr T U mt L) : ∃ a c, wr.cell? ⟨U, 1, none⟩ = some (.slice a L.length c) ∧ wr.cell? ⟨U, 0, none⟩ = some (.int .i64 ((cp mt : Nat) : Int)) ∧ TextsIn wr (.slice a L.length c) L := by
  obtain ⟨G, v, hU, rfl⟩ := h.pair.right
  obtain ⟨a, c, rfl, -⟩ := OwnsR.form hU.own
  have ht : TextsIn wr _ L := hU.own.reads (CT_wide _)
  rw [CT_length] at ht hU
  exact ⟨a, c, (cell_of_two hU.box).2, (cell_of_two hU.box).1, ht⟩
theorem Both.has {wr : World} {T U : Nat} {mt : Int} {L : List Ky} (h : Both w wr T U mt L) {k : Ky} (hl : k.length ≤ 140737488355328) : Calls Try.prog 14 #[Pp T, Sv k] wr fun e w' => e = .returned (.bool (decide (k ∈ L))) ∧ wr = w' := by
  obtain ⟨F, hT⟩ := h.pair.left
  exact has14 hT hl
theorem Both.list {wr : World} {T U : Nat} {mt : Int} {L : List Ky} (h : Both w wr T U mt L) : Calls Try.prog 17 #[Pp T] wr fun e w' => ∃ a c, e = .returned (.slice a L.length c) ∧ TextsIn w' (.slice a L.length c) L ∧ Kept [] wr w' := by
  obtain ⟨F, hT⟩ := h.pair.left
  refine (list17 hT (by have := h.few; have := h.cap; omega)).mono ?_
  rintro e w' ⟨v, rfl, hO, k, hf⟩
  obtain ⟨a, c, rfl, -⟩ := OwnsR.form hO
  have ht : TextsIn w' _ L := hO.reads (CT_wide _)
  rw [CT_length] at ht ⊢
  exact ⟨a, c, rfl, ht, k⟩
theorem Both.most {wr : World} {T U : Nat} {mt : Int} {L : List Ky} (h : Both w wr T U mt L) : Calls Try.prog 18 #[Pp T] wr fun e w' => e = .returned (.int .i64 ((cp mt : Nat) : Int)) ∧ wr = w' := by
  obtain ⟨F, hT⟩ := h.pair.left
  have := most18 hT
  rw [cp_eq] at this
  exact this
end
end Go.Proofs.Ytmihpgejaobdbaa
