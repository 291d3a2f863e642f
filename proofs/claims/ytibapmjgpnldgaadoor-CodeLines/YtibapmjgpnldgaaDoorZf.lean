/-
  Programs, without memory: a text cut at its first blank or line feed; a line as the program reads it.
-/
import Derived.Test.YtibapmjgpnldgaaDoorZe
namespace Go.Proofs.YtibapmjgpnldgaaDoor
open Go.Lib (decDigits itoa)
set_option linter.unusedVariables false
/-- What stands ahead of the first c, what behind it, and whether it is there. -/
def cutC (c : UInt8) : List UInt8 → List UInt8 × List UInt8 × Bool
  | [] => ([], [], false)
  | x :: s => if x = c then ([], s, true) else (x :: (cutC c s).1, (cutC c s).2)
theorem cutC_no {c : UInt8} : ∀ {s : List UInt8}, c ∉ s → cutC c s = (s, [], false)
  | [], _ => rfl
  | x :: s, h => by
    rw [cutC, if_neg (fun e => h (by simp [e])), cutC_no (fun e => h (by simp [e]))]
theorem cutC_at {c : UInt8} : ∀ {a : List UInt8} (b : List UInt8), c ∉ a → cutC c (a ++ c :: b) = (a, b, true)
  | [], b, _ => by rw [List.nil_append, cutC, if_pos rfl]
  | x :: a, b, h => by
    rw [List.cons_append, cutC, if_neg (fun e => h (by simp [e])), cutC_at b (fun e => h (by simp [e]))]
theorem cutC_form (c : UInt8) : ∀ s : List UInt8, (c ∉ s ∧ cutC c s = (s, [], false)) ∨ ∃ a b, s = a ++ c :: b ∧ c ∉ a ∧ cutC c s = (a, b, true)
  | [] => .inl ⟨by simp, rfl⟩
  | x :: s => by
    by_cases h : x = c
    · subst h
      exact .inr ⟨[], s, rfl, by simp, by rw [cutC, if_pos rfl]⟩
    · rcases cutC_form c s with ⟨h1, h2⟩ | ⟨a, b, h1, h2, h3⟩
      · refine .inl ⟨fun e => ?_, by rw [cutC, if_neg h, h2]⟩
        rcases List.mem_cons.1 e with e | e
        · exact h e.symm
        · exact h1 e
      · refine .inr ⟨x :: a, b, by rw [h1]; rfl, fun e => ?_, by rw [cutC, if_neg h, h3]⟩
        rcases List.mem_cons.1 e with e | e
        · exact h e.symm
        · exact h2 e
theorem index_noC {c : UInt8} : ∀ {s : List UInt8}, c ∉ s → Lib.index s [c] = -1
  | [], _ => by simp [Lib.index]
  | x :: s, h => by
    have hx : x ≠ c := fun e => h (by simp [e])
    have := index_noC (c := c) (s := s) (fun e => h (by simp [e]))
    simp [Lib.index, this, Ne.symm hx]
theorem index_at {c : UInt8} : ∀ {a : List UInt8} (b : List UInt8), c ∉ a → Lib.index (a ++ c :: b) [c] = (a.length : Int)
  | [], b, _ => by simp [Lib.index]
  | x :: a, b, h => by
    have hx : x ≠ c := fun e => h (by simp [e])
    have := index_at (c := c) (a := a) b (fun e => h (by simp [e]))
    simp [Lib.index, this, Ne.symm hx]
theorem cut_cutC (c : UInt8) (s : List UInt8) : Lib.cut s [c] = cutC c s := by
  unfold Lib.cut
  rcases cutC_form c s with ⟨h1, h2⟩ | ⟨a, b, rfl, h2, h3⟩
  · rw [index_noC h1, if_neg (by omega), h2]
  · rw [index_at b h2, if_pos (by omega), h3]
    simp
theorem cutC_length (c : UInt8) (s : List UInt8) : (cutC c s).1.length ≤ s.length ∧ (cutC c s).2.1.length ≤ s.length ∧ (s ≠ [] → (cutC c s).2.1.length < s.length) := by
  rcases cutC_form c s with ⟨h1, h2⟩ | ⟨a, b, rfl, h2, h3⟩
  · rw [h2]
    refine ⟨by simp, by simp, fun h => ?_⟩
    cases s with
    | nil => exact absurd rfl h
    | cons x s => simp
  · rw [h3]; simp; omega
/-- The first line, and the others. -/
theorem lines_cut {s : List UInt8} (h : s ≠ []) : linesOf s = (cutC 10 s).1 :: linesOf (cutC 10 s).2.1 := by
  rcases cutC_form 10 s with ⟨h1, h2⟩ | ⟨a, b, rfl, h2, h3⟩
  · rw [h2]
    have key : ∀ (s cur : List UInt8), 10 ∉ s → splitG s cur = if cur ++ s = [] then [] else [cur ++ s] := by
      intro s
      induction s with
      | nil => intro cur _; rw [splitG]; simp
      | cons x s ih =>
        intro cur hh
        rw [splitG, if_neg (fun e => hh (by simp [e])), ih _ (fun e => hh (by simp [e]))]
        simp
    unfold linesOf
    rw [key s [] h1]
    simp [h, splitG]
  · rw [h3]
    unfold linesOf
    rw [split_line b [] h2]
    rfl
/-- A name's line, as the program reads it. -/
def nameP (s : List UInt8) : Option (List UInt8) :=
  if (cutC 32 s).1 = [110, 97, 109, 101] ∧ (cutC 32 s).2.1.length % 2 = 0 then (unhexS (cutC 32 s).2.1).bind fun k => if isKey k = true then some k else none else none
theorem nameP_own {s k : List UInt8} (h : nameP s = some k) : isKey k = true ∧ s = nameB ++ hexS k := by
  unfold nameP at h
  split at h
  · rename_i hw
    cases hu : unhexS (cutC 32 s).2.1 with
    | none => rw [hu] at h; cases h
    | some q =>
      rw [hu] at h
      dsimp only [Option.bind_some] at h
      split at h
      · rename_i hk
        simp only [Option.some.injEq] at h
        subst h
        refine ⟨hk, ?_⟩
        rcases cutC_form 32 s with ⟨h1, h2⟩ | ⟨a, b, rfl, h2, h3⟩
        · rw [h2] at hu
          simp only [unhexS, Option.some.injEq] at hu
          subst hu
          simp [isKey] at hk
        · rw [h3] at hw hu
          dsimp only at hw hu
          rw [hw.1, unhex_own hu]
          rfl
      · cases h
  · cases h
theorem hexS_length (k : List UInt8) : (hexS k).length = 2 * k.length := by
  induction k with
  | nil => rfl
  | cons b k ih =>
    have e : hexS (b :: k) = hexC (b.toNat / 16) :: hexC (b.toNat % 16) :: hexS k := rfl
    rw [e]; simp [ih]; omega
theorem nameP_back {k : List UInt8} (h : isKey k = true) : nameP (nameB ++ hexS k) = some k := by
  unfold nameP
  have e : cutC 32 (nameB ++ hexS k) = ([110, 97, 109, 101], hexS k, true) := cutC_at (c := 32) (a := [110, 97, 109, 101]) (hexS k) (by decide)
  rw [e]
  dsimp only
  rw [if_pos ⟨rfl, by rw [hexS_length]; omega⟩, unhex_hex]
  dsimp only [Option.bind_some]
  rw [if_pos h]
/-- An instruction's line, as the program reads it, the word's number being i and its integer k. -/
def insP (s : List UInt8) (k : Nat) : Option Int := if k = 0 then (if (cutC 32 s).2.2 = true then none else some 0) else intD (cutC 32 s).2.1
theorem intD_nil : intD [] = none := rfl
theorem words_at {i j : Nat} {w : List UInt8} {k k' : Nat} (h : words[i]? = some (w, k)) (h' : words[j]? = some (w, k')) : i = j := by
  have hi := (List.getElem?_eq_some_iff.1 h).1
  have hj := (List.getElem?_eq_some_iff.1 h').1
  have key : ∀ i, i < 24 → ∀ j, j < 24 → (words[i]?).map (·.1) = (words[j]?).map (·.1) → i = j := by decide +kernel
  exact key i hi j hj (by rw [h, h']; rfl)
/-- A line whose word is an operation's. -/
theorem line1_word {s : List UInt8} {i k : Nat} (h : words[i]? = some ((cutC 32 s).1, k)) : line1 s = (insP s k).map (.ins i) := by
  have hm := List.mem_of_getElem? h
  have yes : ∀ {arg}, insP s k = some arg → s = wline (cutC 32 s).1 k arg ∧ (k = 0 → arg = 0) ∧ I64 arg := by
    intro arg ha
    unfold insP at ha
    unfold wline
    rcases cutC_form 32 s with ⟨h1, h2⟩ | ⟨a, b, rfl, h2, h3⟩
    · rw [h2] at ha
      dsimp only at ha
      by_cases hk : k = 0
      · rw [if_pos hk] at ha
        rw [if_pos hk, h2]
        simp only [Bool.false_eq_true, ↓reduceIte, Option.some.injEq] at ha
        exact ⟨rfl, fun _ => ha.symm, by rw [← ha]; unfold I64; omega⟩
      · rw [if_neg hk, intD_nil] at ha
        cases ha
    · rw [h3] at ha ⊢
      dsimp only at ha ⊢
      by_cases hk : k = 0
      · rw [if_pos hk, if_pos rfl] at ha
        cases ha
      · rw [if_neg hk] at ha
        obtain ⟨e, hz⟩ := intD_own ha
        rw [if_neg hk, ← e]
        exact ⟨rfl, fun e => absurd e hk, hz⟩
  cases e : insP s k with
  | some arg =>
    obtain ⟨e1, e2, e3⟩ := yes e
    have := line1_ins h e2 e3
    rw [← e1] at this
    exact this
  | none =>
    show line1 s = none
    cases e2 : line1 s with
    | none => rfl
    | some x =>
      exfalso
      rcases line1_own e2 with ⟨q, rfl, hq, hs⟩ | ⟨j, w, k', arg, hw, rfl, hs, h0, ha⟩
      · have ec : cutC 32 s = ([110, 97, 109, 101], hexS q, true) := by rw [hs]; exact cutC_at (c := 32) (a := [110, 97, 109, 101]) (hexS q) (by decide)
        rw [ec] at hm
        exact words_name _ hm rfl
      · have hb := words_blank _ (List.mem_of_getElem? hw)
        dsimp only at hb
        unfold wline at hs
        split at hs
        · rename_i hk'
          have ec : cutC 32 s = (w, [], false) := by rw [hs]; exact cutC_no hb
          rw [ec] at h
          have ij := words_at h hw
          subst ij
          rw [h] at hw
          simp only [Option.some.injEq, Prod.mk.injEq, true_and] at hw
          unfold insP at e
          rw [ec, if_pos (hw.trans hk')] at e
          simp at e
        · rename_i hk'
          have ec : cutC 32 s = (w, itoa arg, true) := by rw [hs]; exact cutC_at (itoa arg) hb
          rw [ec] at h
          have ij := words_at h hw
          subst ij
          rw [h] at hw
          simp only [Option.some.injEq, Prod.mk.injEq, true_and] at hw
          unfold insP at e
          rw [ec, if_neg (fun z => hk' (hw ▸ z))] at e
          dsimp only at e
          rw [intD_itoa arg ha] at e
          cases e
/-- A line whose word is none, and that is no name's. -/
theorem line1_no {s : List UInt8} (h : ∀ x ∈ words, x.1 ≠ (cutC 32 s).1) (hn : nameP s = none) : line1 s = none := by
  cases e2 : line1 s with
  | none => rfl
  | some x =>
    exfalso
    rcases line1_own e2 with ⟨q, rfl, hq, hs⟩ | ⟨j, w, k', arg, hw, rfl, hs, h0, ha⟩
    · rw [hs, nameP_back hq] at hn
      cases hn
    · have hb := words_blank _ (List.mem_of_getElem? hw)
      dsimp only at hb
      refine h _ (List.mem_of_getElem? hw) ?_
      dsimp only
      unfold wline at hs
      split at hs
      · rw [hs, cutC_no hb]
      · rw [hs, cutC_at _ hb]
theorem line1_nm {s k : List UInt8} (h : nameP s = some k) : line1 s = some (.nm k) := by
  obtain ⟨h1, rfl⟩ := nameP_own h
  exact line1_name h1
/-- The hexadecimal digits. -/
def hexT : List UInt8 := [48, 49, 50, 51, 52, 53, 54, 55, 56, 57, 97, 98, 99, 100, 101, 102]
/-- What a digit is worth, or -1. -/
def digI (c : UInt8) : Int := match digC c with
  | some d => (d : Int)
  | none => -1
theorem hex_index : ∀ n, n < 256 → Lib.indexByte hexT (UInt8.ofNat n) = digI (UInt8.ofNat n) := by decide +kernel
theorem hexC_at : ∀ d, d < 16 → hexT[d]? = some (hexC d) := by decide +kernel
end Go.Proofs.YtibapmjgpnldgaaDoor
