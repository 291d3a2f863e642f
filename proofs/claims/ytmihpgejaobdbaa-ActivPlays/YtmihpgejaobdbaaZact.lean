/-
  Who is in memory, without memory: lists of keys, the last touched last.
-/
import Derived.Test.YtmihpgejaobdbaaMem
namespace Go.Proofs.Ytmihpgejaobdbaa
set_option linter.unusedVariables false
/-- A key's bytes. -/
abbrev Ky : Type := List UInt8
/-- All but k. -/
def noT (L : List Ky) (k : Ky) : List Ky := L.filter fun x => decide (x ≠ k)
/-- k is the last one. -/
def addT (L : List Ky) (k : Ky) : List Ky := noT L k ++ [k]
/-- A touch, where m may be there: who is there, who is gone. -/
def touchT (m : Nat) (L : List Ky) (k : Ky) : List Ky × Option Ky := if (addT L k).length ≤ m then (addT L k, none) else ((addT L k).drop 1, (addT L k).head?)
/-- The last m. -/
def lastT (m : Nat) (L : List Ky) : List Ky := L.drop (L.length - m)
theorem noT_none {L : List Ky} {k : Ky} (h : k ∉ L) : noT L k = L := by
  unfold noT
  rw [List.filter_eq_self]
  intro x hx
  simp only [decide_eq_true_eq, ne_eq]
  rintro rfl
  exact h hx
theorem noT_mem (L : List Ky) (k x : Ky) : x ∈ noT L k ↔ x ∈ L ∧ x ≠ k := by simp [noT]
theorem noT_len (L : List Ky) (k : Ky) : (noT L k).length ≤ L.length := List.length_filter_le _ _
theorem noT_eq (L : List Ky) (k : Ky) : noT (k :: L) k = noT L k := by simp [noT]
theorem noT_ne (L : List Ky) {y k : Ky} (e : y ≠ k) : noT (y :: L) k = y :: noT L k := by simp [noT, e]
theorem noT_lt (L : List Ky) (k : Ky) : (noT L k).length < L.length ↔ k ∈ L := by
  constructor
  · intro h
    by_cases hk : k ∈ L
    · exact hk
    · rw [noT_none hk] at h; omega
  · intro h
    induction L with
    | nil => simp at h
    | cons y L ih =>
      by_cases e : y = k
      · subst e
        have := noT_len L y
        rw [noT_eq, List.length_cons]
        omega
      · have h : k ∈ L := by simpa [Ne.symm e] using h
        have := ih h
        rw [noT_ne _ e, List.length_cons, List.length_cons]
        omega
theorem noT_append (A B : List Ky) (k : Ky) : noT (A ++ B) k = noT A k ++ noT B k := by simp [noT]
theorem noT_reverse (A : List Ky) (k : Ky) : noT A.reverse k = (noT A k).reverse := by simp [noT]
theorem noT_nodup {L : List Ky} (h : L.Nodup) (k : Ky) : (noT L k).Nodup := h.filter _
theorem noT_one {L : List Ky} (h : L.Nodup) {k : Ky} (hk : k ∈ L) : (noT L k).length + 1 = L.length := by
  induction L with
  | nil => simp at hk
  | cons y L ih =>
    rw [List.nodup_cons] at h
    by_cases e : y = k
    · subst e
      rw [noT_eq, noT_none h.1, List.length_cons]
    · have hk : k ∈ L := by simpa [Ne.symm e] using hk
      have := ih h.2 hk
      rw [noT_ne _ e, List.length_cons, List.length_cons, this]
theorem addT_nodup {L : List Ky} (h : L.Nodup) (k : Ky) : (addT L k).Nodup := by
  unfold addT
  rw [List.nodup_append]
  refine ⟨noT_nodup h k, by simp, fun x hx y hy => ?_⟩
  simp at hy
  subst hy
  exact ((noT_mem L y x).1 hx).2
theorem addT_len (L : List Ky) (k : Ky) : (addT L k).length ≤ L.length + 1 := by
  unfold addT
  have := noT_len L k
  simp
  omega
theorem touchT_nodup {m : Nat} {L : List Ky} (h : L.Nodup) (k : Ky) : (touchT m L k).1.Nodup := by
  unfold touchT
  split
  · exact addT_nodup h k
  · exact (addT_nodup h k).sublist (List.drop_sublist _ _)
theorem touchT_len {m : Nat} {L : List Ky} (h : L.length ≤ m) (k : Ky) : (touchT m L k).1.length ≤ m := by
  have := addT_len L k
  unfold touchT
  split
  · assumption
  · show ((addT L k).drop 1).length ≤ m
    rw [List.length_drop]
    omega
/-- A table of m is the last m of one without a bound. -/
theorem touch_last {m : Nat} (hm : 1 ≤ m) {D : List Ky} (h : D.Nodup) (k : Ky) : (touchT m (lastT m D) k).1 = lastT m (addT D k) := by
  obtain ⟨P, S, rfl, hS⟩ : ∃ P S, D = P ++ S ∧ lastT m D = S := ⟨D.take (D.length - m), _, (List.take_append_drop _ _).symm, rfl⟩
  rw [hS]
  have hl : S.length = (P ++ S).length - ((P ++ S).length - m) := by
    have := congrArg List.length hS
    unfold lastT at this
    rw [List.length_drop] at this
    exact this.symm
  rw [List.length_append] at hl
  have hd := List.nodup_append.1 h
  by_cases hk : k ∈ S
  · have hP : k ∉ P := fun hp => hd.2.2 k hp k hk rfl
    have h1 := noT_one hd.2.1 hk
    have e : addT (P ++ S) k = P ++ addT S k := by unfold addT; rw [noT_append, noT_none hP, List.append_assoc]
    have hl2 : (addT S k).length = S.length := by unfold addT; simp; omega
    unfold touchT lastT
    rw [if_pos (by omega), e, List.length_append, hl2]
    show addT S k = _
    by_cases h0 : P.length + S.length ≤ m
    · have hp : P = [] := by
        have : P.length = 0 := by omega
        exact List.eq_nil_of_length_eq_zero this
      subst hp
      have hz : ([] : List Ky).length + S.length - m = 0 := by simp; simp at h0; omega
      rw [hz]
      rfl
    · have : P.length + S.length - m = P.length := by omega
      rw [this, List.drop_left]
  · have h1 := noT_none hk
    have hl2 : (addT S k).length = S.length + 1 := by unfold addT; rw [h1]; simp
    have e : addT (P ++ S) k = noT P k ++ addT S k := by unfold addT; rw [noT_append, List.append_assoc]
    unfold touchT lastT
    by_cases h0 : P.length + S.length < m
    · have hp : P = [] := by
        have : P.length = 0 := by omega
        exact List.eq_nil_of_length_eq_zero this
      subst hp
      rw [if_pos (by simp at *; omega), e]
      have hz : (noT ([] : List Ky) k ++ addT S k).length - m = 0 := by simp [noT, hl2]; simp at h0; omega
      rw [hz]
      simp [noT]
    · rw [if_neg (by omega), e]
      show (addT S k).drop 1 = _
      have hq : (noT P k ++ addT S k).length - m = (noT P k).length + 1 := by rw [List.length_append, hl2]; omega
      rw [hq, ← List.drop_drop, List.drop_left]
/-- All that were touched. -/
def allT (keys : List Ky) : List Ky := keys.foldl addT []
theorem allT_snoc (keys : List Ky) (k : Ky) : allT (keys ++ [k]) = addT (allT keys) k := by simp [allT]
theorem foldl_nodup (keys : List Ky) : ∀ L : List Ky, L.Nodup → (keys.foldl addT L).Nodup := by
  induction keys with
  | nil => intro L h; exact h
  | cons k r ih => intro L h; exact ih _ (addT_nodup h k)
theorem allT_nodup (keys : List Ky) : (allT keys).Nodup := foldl_nodup keys [] List.nodup_nil
theorem lastT_nil (m : Nat) : lastT m [] = [] := by simp [lastT]
/-- What is there behind some touches. -/
theorem plays_last {m : Nat} (hm : 1 ≤ m) (keys : List Ky) : ∀ D : List Ky, D.Nodup → keys.foldl (fun L k => (touchT m L k).1) (lastT m D) = lastT m (keys.foldl addT D) := by
  induction keys with
  | nil => intro D _; rfl
  | cons k r ih => intro D h; rw [List.foldl_cons, touch_last hm h, List.foldl_cons]; exact ih _ (addT_nodup h k)
/-- The distinct ones, first come first, at most m. -/
def wantT (m : Nat) : List Ky → List Ky → List Ky
  | W, [] => W
  | W, k :: r => if W.length < m then wantT m (if k ∈ W then W else W ++ [k]) r else W
/-- The same without a bound. -/
def ddT : List Ky → List Ky → List Ky
  | W, [] => W
  | W, k :: r => ddT (if k ∈ W then W else W ++ [k]) r
theorem ddT_pre (r : List Ky) : ∀ W, ∃ X, ddT W r = W ++ X := by
  induction r with
  | nil => intro W; exact ⟨[], by simp [ddT]⟩
  | cons k r ih =>
    intro W
    rw [ddT]
    split
    · exact ih W
    · obtain ⟨X, hX⟩ := ih (W ++ [k])
      exact ⟨k :: X, by rw [hX, List.append_assoc]; rfl⟩
theorem wantT_eq {m : Nat} (r : List Ky) : ∀ W, W.length ≤ m → wantT m W r = (ddT W r).take m := by
  induction r with
  | nil => intro W h; rw [wantT, ddT, List.take_of_length_le h]
  | cons k r ih =>
    intro W h
    rw [wantT]
    split
    · rename_i hl
      rw [ddT]
      refine ih _ ?_
      split
      · exact h
      · simp; omega
    · rename_i hl
      obtain ⟨X, hX⟩ := ddT_pre (k :: r) W
      rw [hX, List.take_append_of_le_length (by omega), List.take_of_length_le h]
theorem ddT_cons (k : Ky) (r : List Ky) : ∀ W, ddT (k :: noT W k) r = k :: noT (ddT W r) k := by
  induction r with
  | nil => intro W; rfl
  | cons x r ih =>
    intro W
    rw [ddT, ddT]
    by_cases e : x = k
    · subst e
      rw [if_pos (by simp)]
      split
      · exact ih W
      · have := ih (W ++ [x])
        rw [← this, noT_append]
        simp [noT]
    · by_cases hx : x ∈ W
      · rw [if_pos (by simp [noT_mem, hx, e]), if_pos hx]
        exact ih W
      · rw [if_neg (by simp [noT_mem, hx, e]), if_neg hx]
        have := ih (W ++ [x])
        rw [← this, noT_append]
        simp [noT, e]
theorem dd_all (keys : List Ky) : ddT [] keys.reverse = (allT keys).reverse := by
  suffices h : ∀ r : List Ky, ddT [] r = (allT r.reverse).reverse by
    have := h keys.reverse
    rwa [List.reverse_reverse] at this
  intro r
  induction r with
  | nil => rfl
  | cons k r ih =>
    have := ddT_cons k r []
    rw [ddT, if_neg (by simp), List.nil_append]
    rw [show noT ([] : List Ky) k = [] from rfl] at this
    rw [this, ih, List.reverse_cons, allT_snoc, addT, List.reverse_append, noT_reverse]
    rfl
theorem want_last (m : Nat) (keys : List Ky) : wantT m [] keys.reverse = (lastT m (allT keys)).reverse := by
  rw [wantT_eq _ _ (by simp), dd_all, lastT, List.take_reverse]
/-- The smaller one is the end of the greater one. -/
theorem last_two {a b : Nat} (h : a ≤ b) (D : List Ky) : (lastT a D).length ≤ (lastT b D).length ∧ lastT a D = (lastT b D).drop ((lastT b D).length - (lastT a D).length) := by
  unfold lastT
  rw [List.length_drop, List.length_drop, List.drop_drop]
  refine ⟨by omega, ?_⟩
  congr 1
  omega
end Go.Proofs.Ytmihpgejaobdbaa
