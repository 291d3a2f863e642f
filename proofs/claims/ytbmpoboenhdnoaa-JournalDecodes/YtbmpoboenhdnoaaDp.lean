/-
  What the bytes that are still to be read make of a journal; without memory.
-/
import Derived.Test.YtbmpoboenhdnoaaZj
namespace Go.Proofs.Ytbmpoboenhdnoaa
set_option linter.unusedVariables false
theorem rnum_true (l : List UInt8) : (rnum l true).2.2 = true := by
  unfold rnum
  split <;> rfl
theorem int_bad {l : List UInt8} (h : int l = none) : rnum l false = (0, [], true) := num_none (int_none h)
/-- What is behind the base. -/
def contJ (ver : Nat) (base : List Int) (r : List UInt8) : Option Jn := (num r).bind fun c => if 16 < c.1 ∨ ver < c.1 then none else (revs c.1 [] c.2).bind fun d => if d.2 = [] then some ⟨base, d.1, ver⟩ else none
/-- After k registers, A, the bytes r are left. -/
def AInv (l : List UInt8) (ver k : Nat) (A : List Int) (r : List UInt8) (bad : Bool) : Prop :=
  (bad = true → decJn l = none) ∧ (bad = false → decJn l = (rint (8 - k) r).bind fun b => contJ ver (A ++ b.1) b.2)
theorem AInv.start (l : List UInt8) : AInv l (rnum l false).1 0 [] (rnum l false).2.1 (rnum l false).2.2 := by
  cases h : num l with
  | none =>
    rw [num_none h]
    refine ⟨fun _ => ?_, (fun h => by cases h)⟩
    unfold decJn
    rw [h]
    rfl
  | some a =>
    obtain ⟨n, r⟩ := a
    rw [num_some h]
    refine ⟨(fun h => by cases h), fun _ => ?_⟩
    unfold decJn contJ
    rw [h]
    rfl
theorem AInv.step {l : List UInt8} {ver k : Nat} {A : List Int} {r : List UInt8} {bad : Bool} (h : AInv l ver k A r bad) (hk : k < 8) : AInv l ver (k + 1) (A ++ [unfold (rnum r bad).1]) (rnum r bad).2.1 (rnum r bad).2.2 := by
  cases bad with
  | true => exact ⟨fun _ => h.1 rfl, fun e => by rw [rnum_true] at e; cases e⟩
  | false =>
    have h2 := h.2 rfl
    rw [show 8 - k = (8 - (k + 1)) + 1 by omega, rint] at h2
    cases hi : int r with
    | none =>
      rw [int_bad hi]
      rw [hi] at h2
      exact ⟨fun _ => h2, (fun e => by cases e)⟩
    | some x =>
      obtain ⟨z, r'⟩ := x
      obtain ⟨e1, e2, -⟩ := int_some hi
      rw [e1]
      dsimp only
      rw [e2]
      refine ⟨(fun e => by cases e), fun _ => ?_⟩
      rw [hi] at h2
      rw [h2]
      dsimp only [Option.bind_some]
      cases rint (8 - (k + 1)) r' with
      | none => rfl
      | some b => simp
/-- After k events, E, of n, the bytes r are left. -/
def BInv (l : List UInt8) (ver : Nat) (A : List Int) (n k : Nat) (E : List Ev) (r : List UInt8) (bad : Bool) : Prop :=
  (bad = true → decJn l = none) ∧ (bad = false → ((16 < n ∨ ver < n) → decJn l = none) ∧ (¬ (16 < n ∨ ver < n) → decJn l = (revs (n - k) E r).bind fun d => if d.2 = [] then some ⟨A, d.1, ver⟩ else none))
theorem BInv.start {l : List UInt8} {ver : Nat} {A : List Int} {r : List UInt8} {bad : Bool} (h : AInv l ver 8 A r bad) : BInv l ver A (rnum r bad).1 0 [] (rnum r bad).2.1 (rnum r bad).2.2 := by
  cases bad with
  | true => exact ⟨fun _ => h.1 rfl, fun e => by rw [rnum_true] at e; cases e⟩
  | false =>
    have h2 := h.2 rfl
    rw [Nat.sub_self, rint] at h2
    dsimp only [Option.bind_some] at h2
    rw [List.append_nil] at h2
    unfold contJ at h2
    cases hi : num r with
    | none =>
      rw [num_none hi]
      rw [hi] at h2
      exact ⟨fun _ => h2, (fun e => by cases e)⟩
    | some x =>
      obtain ⟨n, r'⟩ := x
      rw [num_some hi]
      rw [hi] at h2
      dsimp only [Option.bind_some] at h2
      refine ⟨(fun e => by cases e), fun _ => ⟨fun hb => ?_, fun hb => ?_⟩⟩
      · rw [h2, if_pos hb]
      · rw [h2, if_neg hb]
        rfl
theorem BInv.big {l : List UInt8} {ver : Nat} {A : List Int} {n k : Nat} {E : List Ev} {r : List UInt8} {bad : Bool} (h : BInv l ver A n k E r bad) (hb : 16 < n ∨ ver < n) : decJn l = none := by
  cases bad with
  | true => exact h.1 rfl
  | false => exact (h.2 rfl).1 hb
/-- The register of the next event is none. -/
theorem BInv.no {l : List UInt8} {ver : Nat} {A : List Int} {n k : Nat} {E : List Ev} {r : List UInt8} {bad : Bool} (h : BInv l ver A n k E r bad) (hk : k < n) (hs : ¬ (16 < n ∨ ver < n)) (h7 : 7 < (rnum r bad).1) : decJn l = none := by
  cases bad with
  | true => exact h.1 rfl
  | false =>
    have h2 := (h.2 rfl).2 hs
    rw [show n - k = (n - (k + 1)) + 1 by omega, revs] at h2
    cases hi : num r with
    | none => rw [num_none hi] at h7; exact absurd h7 (by decide)
    | some x =>
      obtain ⟨m, r'⟩ := x
      rw [num_some hi] at h7
      rw [hi] at h2
      dsimp only [Option.bind_some] at h2 h7
      rw [h2]
      cases int r' with
      | none => rfl
      | some y =>
        dsimp only [Option.bind_some]
        rw [if_pos h7]
        rfl
/-- One event more. -/
theorem BInv.yes {l : List UInt8} {ver : Nat} {A : List Int} {n k : Nat} {E : List Ev} {r : List UInt8} {bad : Bool} (h : BInv l ver A n k E r bad) (hk : k < n) (h7 : ¬ 7 < (rnum r bad).1) : BInv l ver A n (k + 1) (E ++ [⟨(rnum r bad).1, unfold (rnum (rnum r bad).2.1 (rnum r bad).2.2).1⟩]) (rnum (rnum r bad).2.1 (rnum r bad).2.2).2.1 (rnum (rnum r bad).2.1 (rnum r bad).2.2).2.2 := by
  cases bad with
  | true => exact ⟨fun _ => h.1 rfl, fun e => by rw [rnum_true, rnum_true] at e; cases e⟩
  | false =>
    obtain ⟨h1, h2⟩ := h.2 rfl
    rw [show n - k = (n - (k + 1)) + 1 by omega, revs] at h2
    cases hi : num r with
    | none =>
      rw [num_none hi]
      refine ⟨fun _ => ?_, (fun e => by dsimp only at e; rw [rnum_true] at e; cases e)⟩
      by_cases hs : 16 < n ∨ ver < n
      · exact h1 hs
      · rw [h2 hs, hi]
        rfl
    | some x =>
      obtain ⟨m, r'⟩ := x
      rw [num_some hi] at h7 ⊢
      dsimp only at h7 ⊢
      cases hj : int r' with
      | none =>
        rw [int_bad hj]
        refine ⟨fun _ => ?_, (fun e => by cases e)⟩
        by_cases hs : 16 < n ∨ ver < n
        · exact h1 hs
        · rw [h2 hs, hi]
          dsimp only [Option.bind_some]
          rw [hj]
          rfl
      | some y =>
        obtain ⟨z, r2⟩ := y
        obtain ⟨e1, e2, -⟩ := int_some hj
        rw [e1]
        dsimp only
        rw [e2]
        refine ⟨(fun e => by cases e), fun _ => ⟨h1, fun hs => ?_⟩⟩
        rw [h2 hs, hi]
        dsimp only [Option.bind_some]
        rw [hj]
        dsimp only [Option.bind_some]
        rw [if_neg h7]
theorem BInv.fin {l : List UInt8} {ver : Nat} {A : List Int} {n : Nat} {E : List Ev} {r : List UInt8} {bad : Bool} (h : BInv l ver A n n E r bad) (hs : ¬ (16 < n ∨ ver < n)) : decJn l = if (!bad && r.isEmpty) = true then some ⟨A, E, ver⟩ else none := by
  cases bad with
  | true => rw [h.1 rfl]; rfl
  | false =>
    rw [(h.2 rfl).2 hs, Nat.sub_self, revs]
    cases r with
    | nil => rfl
    | cons a r => rfl
/-- Eight places, the first ones filled. -/
def padA (A : List Int) : List Int := A ++ List.replicate (8 - A.length) 0
theorem padA_length {A : List Int} (h : A.length ≤ 8) : (padA A).length = 8 := by simp [padA]; omega
theorem padA_full {A : List Int} (h : A.length = 8) : padA A = A := by simp [padA, h]
theorem padA_more {A : List Int} (h : A.length < 8) (x : Int) : (padA A).set A.length x = padA (A ++ [x]) := by
  have e1 : padA A = A ++ (0 :: List.replicate (8 - (A.length + 1)) 0) := by rw [padA, show 8 - A.length = (8 - (A.length + 1)) + 1 by omega, List.replicate_succ]
  rw [e1, List.set_append_right _ _ (Nat.le_refl _), Nat.sub_self, List.set_cons_zero, padA, List.length_append]
  simp
end Go.Proofs.Ytbmpoboenhdnoaa
