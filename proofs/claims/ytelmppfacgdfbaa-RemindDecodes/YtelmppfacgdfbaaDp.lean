/-
  The reminder that bytes go on with; without memory.
-/
import Derived.Test.YtelmppfacgdfbaaQj
import Derived.Test.YtelmppfacgdfbaaQd
namespace Go.Proofs.Ytelmppfacgdfbaa
set_option linter.unusedVariables false
theorem rnum_true (l : List UInt8) : (rnum l true).2.2 = true := by
  unfold rnum
  split <;> rfl
theorem rtext_true (l : List UInt8) : (rtext l true).2.2 = true := by
  unfold rtext
  split
  · rfl
  · exact rnum_true l
theorem rnum_rest (l : List UInt8) (bad : Bool) : (rnum l bad).2.1.length ≤ l.length := by
  unfold rnum
  split <;> simp
theorem rtext_rest (l : List UInt8) (bad : Bool) : (rtext l bad).1.length ≤ l.length ∧ (rtext l bad).2.1.length ≤ l.length := by
  have := rnum_rest l bad
  unfold rtext
  split
  · simp
  · simp only [List.length_take, List.length_drop]
    omega
/-- What five reads tell, and leave. -/
def rd5 (l : List UInt8) (bad : Bool) : Rm × List UInt8 × Bool :=
  (⟨(rtext l bad).1, (rtext (rtext l bad).2.1 (rtext l bad).2.2).1,
    unfold (rnum (rtext (rtext l bad).2.1 (rtext l bad).2.2).2.1 (rtext (rtext l bad).2.1 (rtext l bad).2.2).2.2).1,
    unfold (rnum (rnum (rtext (rtext l bad).2.1 (rtext l bad).2.2).2.1 (rtext (rtext l bad).2.1 (rtext l bad).2.2).2.2).2.1 (rnum (rtext (rtext l bad).2.1 (rtext l bad).2.2).2.1 (rtext (rtext l bad).2.1 (rtext l bad).2.2).2.2).2.2).1,
    unfold (rnum (rnum (rnum (rtext (rtext l bad).2.1 (rtext l bad).2.2).2.1 (rtext (rtext l bad).2.1 (rtext l bad).2.2).2.2).2.1 (rnum (rtext (rtext l bad).2.1 (rtext l bad).2.2).2.1 (rtext (rtext l bad).2.1 (rtext l bad).2.2).2.2).2.2).2.1 (rnum (rnum (rtext (rtext l bad).2.1 (rtext l bad).2.2).2.1 (rtext (rtext l bad).2.1 (rtext l bad).2.2).2.2).2.1 (rnum (rtext (rtext l bad).2.1 (rtext l bad).2.2).2.1 (rtext (rtext l bad).2.1 (rtext l bad).2.2).2.2).2.2).2.2).1⟩,
   (rnum (rnum (rnum (rtext (rtext l bad).2.1 (rtext l bad).2.2).2.1 (rtext (rtext l bad).2.1 (rtext l bad).2.2).2.2).2.1 (rnum (rtext (rtext l bad).2.1 (rtext l bad).2.2).2.1 (rtext (rtext l bad).2.1 (rtext l bad).2.2).2.2).2.2).2.1 (rnum (rnum (rtext (rtext l bad).2.1 (rtext l bad).2.2).2.1 (rtext (rtext l bad).2.1 (rtext l bad).2.2).2.2).2.1 (rnum (rtext (rtext l bad).2.1 (rtext l bad).2.2).2.1 (rtext (rtext l bad).2.1 (rtext l bad).2.2).2.2).2.2).2.2).2.1,
   (rnum (rnum (rnum (rtext (rtext l bad).2.1 (rtext l bad).2.2).2.1 (rtext (rtext l bad).2.1 (rtext l bad).2.2).2.2).2.1 (rnum (rtext (rtext l bad).2.1 (rtext l bad).2.2).2.1 (rtext (rtext l bad).2.1 (rtext l bad).2.2).2.2).2.2).2.1 (rnum (rnum (rtext (rtext l bad).2.1 (rtext l bad).2.2).2.1 (rtext (rtext l bad).2.1 (rtext l bad).2.2).2.2).2.1 (rnum (rtext (rtext l bad).2.1 (rtext l bad).2.2).2.1 (rtext (rtext l bad).2.1 (rtext l bad).2.2).2.2).2.2).2.2).2.2)
theorem rd5_64 (l : List UInt8) (bad : Bool) : R64 (rd5 l bad).1 := ⟨unfold_I64 _ (rnum_lt _ _), unfold_I64 _ (rnum_lt _ _), unfold_I64 _ (rnum_lt _ _)⟩
theorem rd5_len (l : List UInt8) (bad : Bool) : (rd5 l bad).1.ac.length ≤ l.length ∧ (rd5 l bad).1.nm.length ≤ l.length ∧ (rd5 l bad).2.1.length ≤ l.length := by
  have h1 := rtext_rest l bad
  have h2 := rtext_rest (rtext l bad).2.1 (rtext l bad).2.2
  have h3 := rnum_rest (rtext (rtext l bad).2.1 (rtext l bad).2.2).2.1 (rtext (rtext l bad).2.1 (rtext l bad).2.2).2.2
  refine ⟨h1.1, Nat.le_trans h2.1 h1.2, ?_⟩
  exact Nat.le_trans (rnum_rest _ _) (Nat.le_trans (rnum_rest _ _) (Nat.le_trans (rnum_rest _ _) (Nat.le_trans h2.2 h1.2)))
theorem rd5_true (l : List UInt8) : (rd5 l true).2.2 = true := by
  unfold rd5
  dsimp only
  rw [rtext_true, rtext_true, rnum_true, rnum_true, rnum_true]
/-- What is wrong with one more. -/
def badC (Q : List Rm) (r : Rm) : Prop := isKey r.ac = false ∨ 40 < r.nm.length ∨ r.due < 0 ∨ r.per < 1 ∨ hasR Q r.ac r.nm = true ∨ ∃ y ∈ Q.getLast?, ¬ LR y r
theorem int_bad {l : List UInt8} (h : int l = none) : rnum l false = (0, [], true) := num_none (int_none h)
theorem rqs_step (n : Nat) (Q : List Rm) (l : List UInt8) : ((rd5 l false).2.2 = true ∧ rqs (n + 1) Q l = none) ∨ ((rd5 l false).2.2 = false ∧ (badC Q (rd5 l false).1 → rqs (n + 1) Q l = none) ∧ (¬ badC Q (rd5 l false).1 → rqs (n + 1) Q l = rqs n (Q ++ [(rd5 l false).1]) (rd5 l false).2.1)) := by
  rw [rqs]
  unfold rd5
  dsimp only
  cases h1 : txt l with
  | none =>
    left
    rw [txt_none h1]
    dsimp only
    rw [rtext_true, rnum_true, rnum_true, rnum_true]
    exact ⟨rfl, rfl⟩
  | some a =>
    obtain ⟨ac, l1⟩ := a
    rw [txt_some h1]
    dsimp only [Option.bind_some]
    cases h2 : txt l1 with
    | none =>
      left
      rw [txt_none h2]
      dsimp only
      rw [rnum_true, rnum_true, rnum_true]
      exact ⟨rfl, rfl⟩
    | some b =>
      obtain ⟨nm, l2⟩ := b
      rw [txt_some h2]
      dsimp only [Option.bind_some]
      cases h3 : int l2 with
      | none =>
        left
        rw [int_bad h3]
        dsimp only
        rw [rnum_true, rnum_true]
        exact ⟨rfl, rfl⟩
      | some c =>
        obtain ⟨due, l3⟩ := c
        obtain ⟨i1, i2, -⟩ := int_some h3
        rw [i1]
        dsimp only [Option.bind_some]
        rw [i2]
        cases h4 : int l3 with
        | none =>
          left
          rw [int_bad h4]
          dsimp only
          rw [rnum_true]
          exact ⟨rfl, rfl⟩
        | some d =>
          obtain ⟨per, l4⟩ := d
          obtain ⟨i3, i4, -⟩ := int_some h4
          rw [i3]
          dsimp only [Option.bind_some]
          rw [i4]
          cases h5 : int l4 with
          | none =>
            left
            rw [int_bad h5]
            exact ⟨rfl, rfl⟩
          | some e =>
            obtain ⟨kind, l5⟩ := e
            obtain ⟨i5, i6, -⟩ := int_some h5
            rw [i5]
            dsimp only [Option.bind_some]
            rw [i6]
            right
            refine ⟨rfl, fun h => if_pos h, fun h => if_neg h⟩
theorem last_is {Q : List Rm} {y : Rm} (h : Q.getLast? = some y) : Q[Q.length - 1]? = some y := by
  rw [← h, List.getLast?_eq_getElem?]
/-- Behind the last one it is laid last. -/
theorem lay_last {Q : List Rm} (g : GoodQ Q) {r : Rm} (h : ∀ y ∈ Q.getLast?, LR y r) : layR Q r = Q ++ [r] := by
  have hall : ∀ p y, Q[p]? = some y → p < Q.length → LR y r := fun p y hp hlt => by
    obtain ⟨z, hz⟩ : ∃ z, Q.getLast? = some z := by
      cases hq : Q.getLast? with
      | none => rw [List.getLast?_eq_none_iff] at hq; subst hq; simp at hlt
      | some z => exact ⟨z, rfl⟩
    have hzr := h z (by rw [hz]; rfl)
    rcases Nat.lt_or_ge p (Q.length - 1) with hlt2 | hge
    · exact (ris_lt g.ris hp (last_is hz) hlt2).trans hzr
    · have : p = Q.length - 1 := by omega
      subst this
      rw [last_is hz] at hp
      injection hp with hp
      rw [← hp]
      exact hzr
  have hp : plR Q r = Q.length := plR_is (Nat.le_refl _) (fun p y hp hlt => hall p y hp hlt) (fun p y hp hle => by have := get_lt hp; omega)
  rw [layR_eq, hp, List.take_length, List.drop_length]
theorem badC_err {Q : List Rm} {r : Rm} (h : ¬ badC Q r) : errR r = 0 ∧ hasR Q r.ac r.nm = false ∧ ∀ y ∈ Q.getLast?, LR y r := by
  unfold badC at h
  refine ⟨?_, ?_, ?_⟩
  · rw [errR, if_neg, if_neg]
    · rintro (e | e)
      · exact h (.inr (.inr (.inl e)))
      · exact h (.inr (.inr (.inr (.inl e))))
    · rintro (e | e)
      · exact h (.inl e)
      · exact h (.inr (.inl e))
  · cases hh : hasR Q r.ac r.nm with
    | false => rfl
    | true => exact absurd (.inr (.inr (.inr (.inr (.inl hh))))) h
  · intro y hy
    exact Classical.byContradiction fun e => h (.inr (.inr (.inr (.inr (.inr ⟨y, hy, e⟩)))))
theorem err_bad {Q : List Rm} {r : Rm} (h : errR r ≠ 0) : badC Q r := by
  unfold errR at h
  split at h
  · rename_i h1
    rcases h1 with h1 | h1
    · exact .inl h1
    · exact .inr (.inl h1)
  · split at h
    · rename_i h1
      rcases h1 with h1 | h1
      · exact .inr (.inr (.inl h1))
      · exact .inr (.inr (.inr (.inl h1)))
    · exact absurd rfl h
/-- What Set leaves of one that is not wrong. -/
theorem setQ_last {Q : List Rm} (g : GoodQ Q) {r : Rm} (h : ¬ badC Q r) (hl : Q.length < 64) : setA Q r = 0 ∧ setQ Q r = Q ++ [r] := by
  obtain ⟨h1, h2, h3⟩ := badC_err h
  have ha : setA Q r = 0 := by rw [setA, if_neg (by simp [h1]), if_neg (fun e => by have := e.2; omega)]
  refine ⟨ha, ?_⟩
  rw [setQ, if_pos ha, setR, canR_none h2, lay_last g h3]
end Go.Proofs.Ytelmppfacgdfbaa
