/-
  A window's bytes, and the window that bytes are; without memory.
-/
import Derived.Test.YtngjljgcldfekaaWr
namespace Go.Proofs.Ytngjljgcldfekaa
open Go.RowKit
set_option linter.unusedVariables false
/-- Numbers' bytes. -/
def encS (l : List Nat) : List UInt8 := l.flatMap enc
/-- A client's bytes. -/
def encC (x : Cl) : List UInt8 := enc x.c ++ enc x.s.length ++ encS x.s
/-- A window's bytes. -/
def encW (L : List Cl) : List UInt8 := enc L.length ++ L.flatMap encC
/-- The number that bytes begin with, and what is left. -/
def num (l : List UInt8) : Option (Nat × List UInt8) := if (dec l).2 = 0 then none else some ((dec l).1, l.drop (dec l).2)
theorem num_none {l : List UInt8} (h : num l = none) : rnum l false = (0, [], true) := by
  unfold num at h
  unfold rnum
  split at h
  · rename_i h0; rw [if_pos h0]
  · cases h
theorem num_some {l r : List UInt8} {n : Nat} (h : num l = some (n, r)) : rnum l false = (n, r, false) := by
  unfold num at h
  unfold rnum
  split at h
  · cases h
  · rename_i h0
    rw [if_neg h0]
    simp only [Option.some.injEq, Prod.mk.injEq] at h
    rw [h.1, h.2]
theorem num_lt {l r : List UInt8} {n : Nat} (h : num l = some (n, r)) : U64 n := by
  have := rnum_lt l false
  rw [num_some h] at this
  exact this
theorem num_fwd {l r : List UInt8} {n : Nat} (h : num l = some (n, r)) : l = enc n ++ r := by
  have := (rnum_fwd (l := l) (bad := false) (by rw [num_some h])).2
  rw [num_some h] at this
  exact this
theorem num_back (n : Nat) (h : U64 n) (r : List UInt8) : num (enc n ++ r) = some (n, r) := by
  have h1 := dec_enc n h r
  unfold num
  rw [h1, if_neg (by have := enc_length n; show (enc n).length ≠ 0; omega)]
  simp
theorem rnum_bad2 : rnum [] true = (0, [], true) := rfl
/-- k more serials of the client c. -/
def rser (c : Nat) : Nat → List Cl → List UInt8 → Option (List Cl × List UInt8)
  | 0, L, l => some (L, l)
  | k + 1, L, l => (num l).bind fun x => if seenL L c x.1 = true then none else rser c k (addL L c x.1) x.2
/-- One client more. -/
def rcl (L : List Cl) (l : List UInt8) : Option (List Cl × List UInt8) :=
  (num l).bind fun x => (num x.2).bind fun y => if y.1 = 0 ∨ 4 < y.1 ∨ ∃ z ∈ L, z.c = x.1 then none else rser x.1 y.1 L y.2
/-- n clients more. -/
def rwin : Nat → List Cl → List UInt8 → Option (List Cl × List UInt8)
  | 0, L, l => some (L, l)
  | n + 1, L, l => (rcl L l).bind fun x => rwin n x.1 x.2
/-- The window that bytes are. -/
def decW (l : List UInt8) : Option (List Cl) := (num l).bind fun x => if 64 < x.1 then none else (rwin x.1 [] x.2).bind fun y => if y.2 = [] then some y.1 else none
/-- A client that is being read, behind the others. -/
def app (P : List Cl) (c : Nat) (t : List Nat) : List Cl := if t = [] then P else P ++ [⟨c, t⟩]
section
variable {P : List Cl} {c : Nat}
theorem app_srl (hc : ∀ x ∈ P, x.c ≠ c) (t : List Nat) : srl (app P c t) c = t := by
  unfold app
  split
  · rename_i h; rw [h]; exact srl_none hc
  · exact srl_snoc_same hc rfl
theorem app_seen (hc : ∀ x ∈ P, x.c ≠ c) (t : List Nat) (s : Nat) : seenL (app P c t) c s = decide (s ∈ t) := by unfold seenL; rw [app_srl hc]
theorem app_add (hc : ∀ x ∈ P, x.c ≠ c) {t : List Nat} (ht : t.length < 4) (hP : P.length < 64) (s : Nat) : addL (app P c t) c s = app P c (t ++ [s]) := by
  have ho : oth (app P c t) c = P := by
    unfold app
    split
    · exact oth_none hc
    · unfold oth
      rw [List.filter_append, List.filter_eq_self.2 fun y hy => by simpa using hc y hy]
      simp
  unfold addL
  rw [ho, app_srl hc]
  unfold cut4
  rw [if_neg (by simp; omega), cutW_small (by simp; omega)]
  unfold app
  rw [if_neg (by simp)]
theorem rser_back (hc : ∀ x ∈ P, x.c ≠ c) (s : List Nat) : ∀ t r, (t ++ s).Nodup → (t ++ s).length ≤ 4 → P.length < 64 → (∀ n ∈ s, U64 n) → rser c s.length (app P c t) (encS s ++ r) = some (app P c (t ++ s), r) := by
  induction s with
  | nil => intro t r _ _ _ _; rw [List.append_nil]; rfl
  | cons n s ih =>
    intro t r h1 h2 hP h3
    have hn : n ∉ t := fun hm => by
      rw [List.nodup_append] at h1
      exact h1.2.2 n hm n (by simp) rfl
    have e : encS (n :: s) = enc n ++ encS s := rfl
    rw [List.length_cons, rser, e, List.append_assoc, num_back n (h3 n (by simp))]
    dsimp only [Option.bind_some]
    rw [app_seen hc, if_neg (by simp [hn]), app_add hc (by simp at h2; omega) hP]
    have := ih (t ++ [n]) r (by simpa using h1) (by simpa using h2) hP (fun m hm => h3 m (by simp [hm]))
    rw [this]
    simp
theorem rser_fwd (hc : ∀ x ∈ P, x.c ≠ c) (k : Nat) : ∀ t l L r, t.length + k ≤ 4 → P.length < 64 → rser c k (app P c t) l = some (L, r) → ∃ s, s.length = k ∧ l = encS s ++ r ∧ L = app P c (t ++ s) := by
  induction k with
  | zero =>
    intro t l L r _ _ h
    simp only [rser, Option.some.injEq, Prod.mk.injEq] at h
    exact ⟨[], rfl, by rw [h.2]; rfl, by rw [List.append_nil]; exact h.1.symm⟩
  | succ k ih =>
    intro t l L r h1 hP h
    rw [rser] at h
    cases hn : num l with
    | none => rw [hn] at h; cases h
    | some x =>
      obtain ⟨n, l'⟩ := x
      rw [hn] at h
      dsimp only [Option.bind_some] at h
      split at h
      · cases h
      · rw [app_add hc (by omega) hP] at h
        obtain ⟨s, h2, h3, h4⟩ := ih (t ++ [n]) l' L r (by simp; omega) hP h
        refine ⟨n :: s, by simp [h2], ?_, by rw [h4]; simp⟩
        rw [num_fwd hn, h3]
        simp [encS]
end
theorem rcl_back {P : List Cl} {x : Cl} (hc : ∀ y ∈ P, y.c ≠ x.c) (h1 : 1 ≤ x.s.length) (h4 : x.s.length ≤ 4) (hd : x.s.Nodup) (hu : U64 x.c ∧ ∀ n ∈ x.s, U64 n) (hP : P.length < 64) (r : List UInt8) : rcl P (encC x ++ r) = some (P ++ [x], r) := by
  unfold rcl encC
  rw [List.append_assoc, List.append_assoc, num_back x.c hu.1]
  dsimp only [Option.bind_some]
  rw [num_back x.s.length (by unfold U64; omega)]
  dsimp only [Option.bind_some]
  rw [if_neg (by rintro (h | h | ⟨z, hz, h⟩); omega; omega; exact hc z hz h)]
  have := rser_back hc x.s [] r (by simpa using hd) (by simpa using h4) hP hu.2
  unfold app at this
  rw [if_pos rfl] at this
  rw [this, List.nil_append, if_neg (by intro e; rw [e] at h1; simp at h1)]
theorem rcl_fwd {P : List Cl} {l r : List UInt8} {L : List Cl} (hP : P.length < 64) (h : rcl P l = some (L, r)) : ∃ x, L = P ++ [x] ∧ l = encC x ++ r := by
  unfold rcl at h
  cases h1 : num l with
  | none => rw [h1] at h; cases h
  | some a =>
    obtain ⟨c, l1⟩ := a
    rw [h1] at h
    dsimp only [Option.bind_some] at h
    cases h2 : num l1 with
    | none => rw [h2] at h; cases h
    | some b =>
      obtain ⟨k, l2⟩ := b
      rw [h2] at h
      dsimp only [Option.bind_some] at h
      split at h
      · cases h
      · rename_i hno
        have hc : ∀ y ∈ P, y.c ≠ c := fun y hy e => hno (.inr (.inr ⟨y, hy, e⟩))
        have e0 : P = app P c [] := by unfold app; rw [if_pos rfl]
        rw [e0] at h
        obtain ⟨s, h3, h4, h5⟩ := rser_fwd hc k [] l2 L r (by simp; omega) hP h
        refine ⟨⟨c, s⟩, ?_, ?_⟩
        · rw [h5, List.nil_append]
          unfold app
          rw [if_neg (by intro e; rw [e] at h3; simp at h3; omega)]
        · rw [num_fwd h1, num_fwd h2, h4, ← h3]
          simp [encC]
theorem rwin_back (X : List Cl) : ∀ P r, (∀ x ∈ X, (1 ≤ x.s.length ∧ x.s.length ≤ 4 ∧ x.s.Nodup) ∧ (U64 x.c ∧ ∀ n ∈ x.s, U64 n)) → (clis (P ++ X)).Nodup → (P ++ X).length ≤ 64 → rwin X.length P (X.flatMap encC ++ r) = some (P ++ X, r) := by
  induction X with
  | nil => intro P r _ _ _; simp [rwin]
  | cons x X ih =>
    intro P r h hn hl
    have hx := h x (by simp)
    have hc : ∀ y ∈ P, y.c ≠ x.c := fun y hy e => by
      rw [clis, List.map_append, List.nodup_append] at hn
      exact hn.2.2 y.c (List.mem_map.2 ⟨y, hy, rfl⟩) x.c (by simp) e
    rw [List.length_cons, rwin, List.flatMap_cons, List.append_assoc, rcl_back hc hx.1.1 hx.1.2.1 hx.1.2.2 hx.2 (by simp at hl; omega)]
    dsimp only [Option.bind_some]
    rw [ih (P ++ [x]) r (fun y hy => h y (by simp [hy])) (by simpa using hn) (by simpa using hl)]
    simp
theorem rwin_fwd (n : Nat) : ∀ P l L r, P.length + n ≤ 64 → rwin n P l = some (L, r) → ∃ X, X.length = n ∧ L = P ++ X ∧ l = X.flatMap encC ++ r := by
  induction n with
  | zero =>
    intro P l L r _ h
    simp only [rwin, Option.some.injEq, Prod.mk.injEq] at h
    exact ⟨[], rfl, by rw [List.append_nil]; exact h.1.symm, by rw [h.2]; rfl⟩
  | succ n ih =>
    intro P l L r hP h
    rw [rwin] at h
    cases h1 : rcl P l with
    | none => rw [h1] at h; cases h
    | some a =>
      obtain ⟨L1, l1⟩ := a
      rw [h1] at h
      dsimp only [Option.bind_some] at h
      obtain ⟨x, rfl, e1⟩ := rcl_fwd (by omega) h1
      obtain ⟨X, h2, h3, h4⟩ := ih (P ++ [x]) l1 L r (by simp; omega) h
      exact ⟨x :: X, by simp [h2], by rw [h3]; simp, by rw [e1, h4]; simp⟩
/-- What was encoded is decoded as it was. -/
theorem decW_back {L : List Cl} (hg : Good L) : decW (encW L) = some L := by
  have hl := hg.len
  unfold decW encW
  rw [num_back L.length (by unfold U64; omega)]
  dsimp only [Option.bind_some]
  rw [if_neg (by omega)]
  have := rwin_back L [] [] (fun x hx => ⟨⟨hg.one x hx, hg.four x hx, hg.dif x hx⟩, hg.num x hx⟩) (by simpa using hg.nod) (by simpa using hl)
  rw [List.append_nil, List.nil_append] at this
  rw [this]
  rfl
/-- What is decoded has just these bytes. -/
theorem decW_fwd {l : List UInt8} {L : List Cl} (h : decW l = some L) : encW L = l := by
  unfold decW at h
  cases h1 : num l with
  | none => rw [h1] at h; cases h
  | some a =>
    obtain ⟨n, l1⟩ := a
    rw [h1] at h
    dsimp only [Option.bind_some] at h
    split at h
    · cases h
    · cases h2 : rwin n [] l1 with
      | none => rw [h2] at h; cases h
      | some b =>
        obtain ⟨L1, r⟩ := b
        rw [h2] at h
        dsimp only [Option.bind_some] at h
        split at h
        · rename_i hr
          simp only [Option.some.injEq] at h
          subst h hr
          obtain ⟨X, h3, h4, h5⟩ := rwin_fwd n [] l1 L1 [] (by simp; omega) h2
          rw [List.nil_append] at h4
          subst h4
          rw [num_fwd h1, h5, encW, h3]
          simp
        · cases h
theorem encS_length (l : List Nat) : (encS l).length ≤ 9 * l.length := by
  induction l with
  | nil => simp [encS]
  | cons n l ih =>
    have := enc_length n
    have e : encS (n :: l) = enc n ++ encS l := rfl
    rw [e, List.length_append, List.length_cons]
    omega
theorem encC_length {x : Cl} (h : x.s.length ≤ 4) : (encC x).length ≤ 54 := by
  have h1 := enc_length x.c
  have h2 := enc_length x.s.length
  have h3 := encS_length x.s
  simp only [encC, List.length_append]
  omega
theorem encA_length : ∀ {L : List Cl}, Four L → (L.flatMap encC).length ≤ 54 * L.length
  | [], _ => by simp
  | x :: L, h => by
    have h1 := encC_length (h x (by simp))
    have h2 := encA_length (L := L) (fun y hy => h y (by simp [hy]))
    rw [List.flatMap_cons, List.length_append, List.length_cons]
    omega
theorem encW_length {L : List Cl} (h : Fit L) : (encW L).length ≤ 3600 := by
  have h1 := enc_length L.length
  have h2 := encA_length h.four
  have h3 := h.len
  simp only [encW, List.length_append]
  omega
end Go.Proofs.Ytngjljgcldfekaa
