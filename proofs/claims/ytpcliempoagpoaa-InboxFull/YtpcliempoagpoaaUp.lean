/-
  Lists of letters as bytes: what Unpack reads. No program.
-/
import Derived.Test.YtpcliempoagpoaaPk
namespace Go.Proofs.Ytpcliempoagpoaa
open Go.RowKit
set_option linter.unusedVariables false
/-- j letters that bytes begin with, what is left, and whether all was there; none, if one of them isn't there. -/
def rlN : Nat → List UInt8 → Bool → Option (List Lt × List UInt8 × Bool)
  | 0, l, b => some ([], l, b)
  | j + 1, l, b => (rlN j l b).bind fun r => (rlet r.2.1 r.2.2).1.map fun x => (r.1 ++ [x], (rlet r.2.1 r.2.2).2.1, (rlet r.2.1 r.2.2).2.2)
/-- The list that bytes are. -/
def decP (l : List UInt8) : Option (List Lt) :=
  (rlN (rnum l false).1 (rnum l false).2.1 (rnum l false).2.2).bind fun r => if (!r.2.2 && r.2.1.isEmpty) = true then some r.1 else none
theorem rlet_some {l : List UInt8} {b : Bool} {x : Lt} (h : (rlet l b).1 = some x) : (rlet l b).2.2 = false := by
  unfold rlet at h ⊢
  dsimp only at h ⊢
  split at h
  · cases h
  · split at h
    · cases h
    · rename_i h1 h2
      rw [if_neg h1, if_neg h2]
      simp at h2
      exact h2.1
theorem encL_four (x : Lt) : 4 ≤ (encL x).length := by
  have h1 := enc_length x.fr.length
  have h2 := enc_length x.ser
  have h3 := enc_length (fold x.kind)
  have h4 := enc_length x.args.length
  simp only [encL, List.length_append]
  omega
theorem rlN_stop {j : Nat} {l : List UInt8} {b : Bool} (h : rlN j l b = none) : ∀ n, j ≤ n → rlN n l b = none := by
  intro n hn
  induction n with
  | zero =>
    have : j = 0 := by omega
    subst this
    exact h
  | succ n ih =>
    rcases Nat.eq_or_lt_of_le hn with h1 | h1
    · subst h1; exact h
    · simp only [rlN, ih (by omega), Option.bind_none]
theorem rlN_none {j : Nat} {l : List UInt8} {b : Bool} {r : List Lt × List UInt8 × Bool} (h : rlN j l b = some r) (hx : (rlet r.2.1 r.2.2).1 = none) : rlN (j + 1) l b = none := by
  simp only [rlN, h, Option.bind_some, hx, Option.map_none]
theorem rlN_next {j : Nat} {l : List UInt8} {b : Bool} {r : List Lt × List UInt8 × Bool} (h : rlN j l b = some r) {x : Lt} (hx : (rlet r.2.1 r.2.2).1 = some x) : rlN (j + 1) l b = some (r.1 ++ [x], (rlet r.2.1 r.2.2).2.1, (rlet r.2.1 r.2.2).2.2) := by
  simp only [rlN, h, Option.bind_some, hx, Option.map_some]
/-- Letters' bytes. -/
def encT (l : List Lt) : List UInt8 := l.flatMap encL
theorem rlN_fwd (j : Nat) : ∀ {l : List UInt8} {b : Bool} {r : List Lt × List UInt8 × Bool}, rlN j l b = some r → r.1.length = j ∧ l = encT r.1 ++ r.2.1 ∧ (0 < j → r.2.2 = false ∧ b = false) ∧ (j = 0 → r.2.2 = b) ∧ (∀ x ∈ r.1, x.ok ∧ x.formed = true) := by
  induction j with
  | zero => intro l b r h; cases h; exact ⟨rfl, rfl, by omega, fun _ => rfl, by simp⟩
  | succ j ih =>
    intro l b r h
    simp only [rlN, Option.bind_eq_some_iff, Option.map_eq_some_iff] at h
    obtain ⟨s, hs, x, hx, rfl⟩ := h
    obtain ⟨h1, h2, h3, h4, h5⟩ := ih hs
    have hb := rlet_some hx
    have he := rlet_fwd (l := s.2.1) (bad := s.2.2) (x := x) (rest := (rlet s.2.1 s.2.2).2.1) (by
      rw [← hx, ← hb])
    refine ⟨by simp [h1], ?_, fun _ => ⟨hb, ?_⟩, by omega, ?_⟩
    · have e1 : encT (s.1 ++ [x]) = encT s.1 ++ encL x := by simp [encT]
      dsimp only
      rw [e1, List.append_assoc, ← he.2]
      exact h2
    · rcases Nat.eq_zero_or_pos j with h | h
      · rw [← h4 h]; exact he.1
      · exact (h3 h).2
    · intro y hy
      simp at hy
      rcases hy with hy | rfl
      · exact h5 y hy
      · exact rlet_ok hx
theorem encT_len (l : List Lt) : 4 * l.length ≤ (encT l).length := by
  induction l with
  | nil => simp
  | cons x l ih =>
    have := encL_four x
    have e : encT (x :: l) = encL x ++ encT l := rfl
    rw [e, List.length_append, List.length_cons]
    omega
theorem rlN_len {j : Nat} {l : List UInt8} {b : Bool} {r : List Lt × List UInt8 × Bool} (h : rlN j l b = some r) : 4 * j ≤ l.length := by
  obtain ⟨h1, h2, -⟩ := rlN_fwd j h
  have := encT_len r.1
  have := congrArg List.length h2
  rw [List.length_append] at this
  omega
theorem rnum_rest (l : List UInt8) (b : Bool) : (rnum l b).2.1.length ≤ l.length := by
  unfold rnum
  split
  · simp
  · simp
/-- What was packed is unpacked as it was. -/
theorem rlN_back (l : List Lt) (hl : ∀ x ∈ l, x.ok ∧ x.formed = true) : ∀ rest, rlN l.length (encT l ++ rest) false = some (l, rest, false) := by
  suffices h : ∀ j, j ≤ l.length → ∀ rest, rlN j (encT l ++ rest) false = some (l.take j, encT (l.drop j) ++ rest, false) by
    intro rest
    have := h l.length (Nat.le_refl _) rest
    simpa [encT] using this
  intro j
  induction j with
  | zero => intro _ rest; simp [rlN]
  | succ j ih =>
    intro hj rest
    have hlt : j < l.length := by omega
    have hx := hl l[j] (List.getElem_mem hlt)
    have e : encT (l.drop j) = encL l[j] ++ encT (l.drop (j + 1)) := by
      rw [List.drop_eq_getElem_cons hlt]
      rfl
    have hb := rlet_back l[j] hx.1 hx.2 (encT (l.drop (j + 1)) ++ rest)
    simp only [rlN, ih (by omega) rest, Option.bind_some]
    rw [e, List.append_assoc, hb]
    simp only [Option.map_some, Option.some.injEq, Prod.mk.injEq, and_true]
    rw [List.take_add_one, List.getElem?_eq_getElem hlt]
    rfl
theorem decP_pack (l : List Lq) (hok : ∀ q ∈ l, q.x.ok) (hf : ∀ q ∈ l, q.x.formed = true) (hl : l.length < 18446744073709551616) : decP (enc l.length ++ encA l) = some (l.map (·.x)) := by
  have e : encA l = encT (l.map (·.x)) := by simp [encA, encT, List.flatMap_map]
  have h1 := rnum_back l.length hl (encA l)
  have h2 := rlN_back (l.map (·.x)) (fun x hx => by
    obtain ⟨q, hq, rfl⟩ := List.mem_map.1 hx
    exact ⟨hok q hq, hf q hq⟩) []
  unfold decP
  rw [h1]
  dsimp only
  rw [e]
  rw [List.append_nil, List.length_map] at h2
  rw [h2]
  rfl
/-- More letters than bytes there are not. -/
theorem decP_many {l : List UInt8} (h : l.length < (rnum l false).1) : decP l = none := by
  unfold decP
  cases hr : rlN (rnum l false).1 (rnum l false).2.1 (rnum l false).2.2 with
  | none => rfl
  | some r =>
    have h1 := rlN_len hr
    have h2 := rnum_rest l false
    omega
theorem decP_bad {l : List UInt8} (h : (rnum l false).2.2 = true) : decP l = none := by
  have h0 := rnum_none (l := l) (bad := false) (by simp) h
  unfold decP
  rw [h0.2, h]
  rfl
theorem decP_ok {l : List UInt8} {xs : List Lt} (h : decP l = some xs) : ∀ x ∈ xs, x.ok ∧ x.formed = true := by
  unfold decP at h
  cases hr : rlN (rnum l false).1 (rnum l false).2.1 (rnum l false).2.2 with
  | none => rw [hr] at h; cases h
  | some r =>
    rw [hr] at h
    simp only [Option.bind_some] at h
    split at h
    · cases h
      exact (rlN_fwd _ hr).2.2.2.2
    · cases h
theorem decP_len (l : List UInt8) : 4 * ((decP l).getD []).length ≤ l.length := by
  cases h : decP l with
  | none => simp
  | some xs =>
    unfold decP at h
    cases hr : rlN (rnum l false).1 (rnum l false).2.1 (rnum l false).2.2 with
    | none => rw [hr] at h; cases h
    | some r =>
      rw [hr] at h
      simp only [Option.bind_some] at h
      split at h
      · cases h
        have h1 := rlN_len hr
        have h2 := (rlN_fwd _ hr).1
        have h3 := rnum_rest l false
        simp only [Option.getD_some]
        omega
      · cases h
end Go.Proofs.Ytpcliempoagpoaa
