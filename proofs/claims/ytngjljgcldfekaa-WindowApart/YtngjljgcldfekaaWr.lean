/-
  What an Add leaves of one client, and of the others.
-/
import Derived.Test.YtngjljgcldfekaaWl
namespace Go.Proofs.Ytngjljgcldfekaa
open Go.RowKit
set_option linter.unusedVariables false
theorem srl_none {L : List Cl} {c : Nat} (h : ∀ x ∈ L, x.c ≠ c) : srl L c = [] := by
  induction L with
  | nil => rfl
  | cons x L ih => rw [srl_cons, if_neg (h x (by simp))]; exact ih fun y hy => h y (by simp [hy])
theorem srl_snoc_other {L : List Cl} {y : Cl} {c : Nat} (h : y.c ≠ c) : srl (L ++ [y]) c = srl L c := by
  induction L with
  | nil => rw [List.nil_append, srl_cons, if_neg h]
  | cons x L ih => rw [List.cons_append, srl_cons, srl_cons, ih]
theorem srl_snoc_same {L : List Cl} {y : Cl} {c : Nat} (h : ∀ x ∈ L, x.c ≠ c) (hy : y.c = c) : srl (L ++ [y]) c = y.s := by
  induction L with
  | nil => rw [List.nil_append, srl_cons, if_pos hy]
  | cons x L ih => rw [List.cons_append, srl_cons, if_neg (h x (by simp))]; exact ih fun z hz => h z (by simp [hz])
theorem srl_oth {L : List Cl} {c c' : Nat} (h : c' ≠ c) : srl (oth L c) c' = srl L c' := by
  induction L with
  | nil => rfl
  | cons x L ih =>
    unfold oth at ih ⊢
    rw [List.filter_cons]
    by_cases hx : x.c = c
    · rw [if_neg (by simp [hx]), ih, srl_cons, if_neg (by omega)]
    · rw [if_pos (by simp [hx]), srl_cons, srl_cons, ih]
/-- An Add leaves a list whose last one is the client, and whose others are others. -/
theorem addL_form (L : List Cl) (c s : Nat) : ∃ X, addL L c s = X ++ [⟨c, cut4 (srl L c ++ [s])⟩] ∧ (∀ x ∈ X, x ∈ L ∧ x.c ≠ c) ∧ X.length ≤ L.length := by
  have ho := oth_length L c
  unfold addL cutW
  split
  · rename_i h
    rw [List.length_append] at h
    have hne : 1 ≤ (oth L c).length := by simp at h; omega
    refine ⟨(oth L c).drop 1, by rw [List.drop_append_of_le_length hne], fun x hx => oth_sub L c x (List.mem_of_mem_drop hx), by simp; omega⟩
  · exact ⟨oth L c, rfl, oth_sub L c, ho⟩
theorem srl_add_same (L : List Cl) (c s : Nat) : srl (addL L c s) c = cut4 (srl L c ++ [s]) := by
  obtain ⟨X, e, h, -⟩ := addL_form L c s
  rw [e]
  exact srl_snoc_same (fun x hx => (h x hx).2) rfl
theorem srl_add_other {L : List Cl} {c c' : Nat} (s : Nat) (h : c' ≠ c) (hl : (oth L c).length < 64) : srl (addL L c s) c' = srl L c' := by
  unfold addL
  rw [cutW_small (by simp; omega), srl_snoc_other (by show c ≠ c'; omega), srl_oth h]
theorem addL_length (L : List Cl) (c s : Nat) : (addL L c s).length ≤ L.length + 1 := by
  obtain ⟨X, e, -, h⟩ := addL_form L c s
  rw [e]
  simp
  omega
theorem nxt_length (L : List Cl) (c s : Nat) : (nxt L c s).length ≤ L.length + 1 := by
  unfold nxt
  split
  · omega
  · exact addL_length L c s
theorem srl_nxt_same (L : List Cl) (c s : Nat) : srl (nxt L c s) c = if s ∈ srl L c then srl L c else cut4 (srl L c ++ [s]) := by
  unfold nxt seenL
  by_cases h : s ∈ srl L c
  · rw [if_pos (by simp [h]), if_pos h]
  · rw [if_neg (by simp [h]), if_neg h, srl_add_same]
theorem srl_nxt_other {L : List Cl} {c c' : Nat} (s : Nat) (h : c' ≠ c) (hl : L.length < 64) : srl (nxt L c s) c' = srl L c' := by
  unfold nxt
  split
  · rfl
  · exact srl_add_other s h (by have := oth_length L c; omega)
/-- Pairs of a client and a serial. -/
structure Pr where
  c : Nat
  s : Nat
instance : Inhabited Pr := ⟨⟨0, 0⟩⟩
def cellsP (q : Pr) : List Value := [Uv q.c, Uv q.s]
def CP (l : List Pr) : List (List Value) := l.map cellsP
theorem CP_length (l : List Pr) : (CP l).length = l.length := by simp [CP]
/-- The slice v reads as these pairs. -/
def RowP (w : World) (v : Value) (l : List Pr) : Prop := ReadsR 2 w v (CP l)
theorem RowP.kept0 {w w' : World} {v : Value} {l : List Pr} (h : RowP w v l) (k : Kept [] w w') : RowP w' v l := ReadsR.kept h k (by simp)
theorem RowP.bound {w : World} {a : Option Addr} {n c : Nat} {l : List Pr} (h : RowP w (.slice a n c) l) : n = l.length ∧ n ≤ c ∧ c ≤ 9223372036854775807 := by
  obtain ⟨a', c', e, h1, h2⟩ := ReadsR.form h
  rw [CP_length] at e h1
  injection e with _ e2 e3
  subst e2 e3
  exact ⟨rfl, h1, h2⟩
theorem RowP.at {w : World} {a : Option Addr} {n c : Nat} {l : List Pr} (h : RowP w (.slice a n c) l) {j : Nat} {q : Pr} (hq : l[j]? = some q) : ∃ b o, a = some ⟨b, o, none⟩ ∧ w.cell? ⟨b, o + j * 2, none⟩ = some (Uv q.c) ∧ w.cell? ⟨b, o + j * 2 + 1, none⟩ = some (Uv q.s) := by
  obtain ⟨b, o, c', e, hc⟩ := ReadsR.at h j (cellsP q) (by simp [CP, hq])
  injection e with e _ _
  have h0 := hc 0 _ rfl
  have h1 := hc 1 _ rfl
  rw [Nat.add_zero] at h0
  exact ⟨b, o, e, h0, h1⟩
/-- Pairs that came in. -/
def PairsIn (W : World) (v : Value) (l : List Pr) : Prop := RowP W v l ∧ ∀ q ∈ l, U64 q.c ∧ U64 q.s
end Go.Proofs.Ytngjljgcldfekaa
