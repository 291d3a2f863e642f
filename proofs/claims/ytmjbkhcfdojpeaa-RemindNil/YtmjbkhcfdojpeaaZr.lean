/-
  Reminders, without memory: their order, a queue, what Set, Cancel and Serve leave, a queue's bytes.
-/
import Derived.Test.YtmjbkhcfdojpeaaZo
namespace Go.Proofs.Ytmjbkhcfdojpeaa
set_option linter.unusedVariables false
/-- A reminder. -/
structure Rm where
  ac : List UInt8
  nm : List UInt8
  due : Int
  per : Int
  kind : Int
instance : Inhabited Rm := ⟨⟨[], [], 0, 0, 0⟩⟩
/-- The order. -/
def LR (a b : Rm) : Prop := a.due < b.due ∨ (a.due = b.due ∧ (a.ac < b.ac ∨ (a.ac = b.ac ∧ a.nm < b.nm)))
instance (a b : Rm) : Decidable (LR a b) := by unfold LR; infer_instance
theorem LR.trans {a b c : Rm} (h : LR a b) (k : LR b c) : LR a c := by
  unfold LR at *
  rcases h with h | ⟨h1, h⟩
  · rcases k with k | ⟨k1, k⟩
    · exact .inl (by omega)
    · exact .inl (by omega)
  · rcases k with k | ⟨k1, k⟩
    · exact .inl (by omega)
    · refine .inr ⟨by omega, ?_⟩
      rcases h with h | ⟨h2, h⟩
      · rcases k with k | ⟨k2, k⟩
        · exact .inl (klt_trans h k)
        · exact .inl (by rw [← k2]; exact h)
      · rcases k with k | ⟨k2, k⟩
        · exact .inl (by rw [h2]; exact k)
        · exact .inr ⟨h2.trans k2, klt_trans h k⟩
theorem LR.irrefl (a : Rm) : ¬ LR a a := by
  unfold LR
  rintro (h | ⟨-, h | ⟨-, h⟩⟩)
  · omega
  · exact klt_irrefl _ h
  · exact klt_irrefl _ h
/-- Of the same actor and name. -/
def sameR (a : Rm) (ac nm : List UInt8) : Bool := decide (a.ac = ac) && decide (a.nm = nm)
theorem sameR_iff {a : Rm} {ac nm : List UInt8} : sameR a ac nm = true ↔ a.ac = ac ∧ a.nm = nm := by simp [sameR]
theorem LR.tri {a b : Rm} (h : ¬ LR a b) (k : ¬ (a.due = b.due ∧ a.ac = b.ac ∧ a.nm = b.nm)) : LR b a := by
  unfold LR at *
  by_cases h1 : b.due < a.due
  · exact .inl h1
  · have e1 : a.due = b.due := by
      have : ¬ a.due < b.due := fun e => h (.inl e)
      omega
    refine .inr ⟨e1.symm, ?_⟩
    have h2 : ¬ a.ac < b.ac := fun e => h (.inr ⟨e1, .inl e⟩)
    by_cases e2 : a.ac = b.ac
    · have h3 : ¬ a.nm < b.nm := fun e => h (.inr ⟨e1, .inr ⟨e2, e⟩⟩)
      by_cases e3 : a.nm = b.nm
      · exact absurd ⟨e1, e2, e3⟩ k
      · exact .inr ⟨e2.symm, klt_tri h3 e3⟩
    · exact .inl (klt_tri h2 e2)
/-- A reminder may be. -/
structure OkR (r : Rm) : Prop where
  ac : isKey r.ac = true
  nm : r.nm.length ≤ 40
  due : 0 ≤ r.due
  per : 1 ≤ r.per
  d64 : r.due ≤ 9223372036854775807
  p64 : r.per ≤ 9223372036854775807
  k64 : I64 r.kind
def hasR (Q : List Rm) (ac nm : List UInt8) : Bool := Q.any fun x => sameR x ac nm
def canR (Q : List Rm) (ac nm : List UInt8) : List Rm := Q.filter fun x => !sameR x ac nm
/-- It is laid ahead of the first that is not less. -/
def layR : List Rm → Rm → List Rm
  | [], r => [r]
  | x :: Q, r => if LR x r then x :: layR Q r else r :: x :: Q
/-- How many are less. -/
def plR : List Rm → Rm → Nat
  | [], _ => 0
  | x :: Q, r => if LR x r then plR Q r + 1 else 0
theorem layR_eq : ∀ (Q : List Rm) (r : Rm), layR Q r = Q.take (plR Q r) ++ r :: Q.drop (plR Q r)
  | [], r => rfl
  | x :: Q, r => by
    rw [layR, plR]
    split
    · rw [layR_eq Q r]; rfl
    · rfl
theorem plR_le (Q : List Rm) (r : Rm) : plR Q r ≤ Q.length := by
  induction Q with
  | nil => simp [plR]
  | cons y K ih => rw [plR]; split <;> simp; omega
theorem plR_lt : ∀ {Q : List Rm} {r : Rm} {j : Nat} {y : Rm}, Q[j]? = some y → j < plR Q r → LR y r
  | [], to, j, y, hj, h => by simp at hj
  | x :: K, to, 0, y, hj, h => by
    simp at hj
    subst hj
    rw [plR] at h
    split at h
    · assumption
    · omega
  | x :: K, to, j + 1, y, hj, h => by
    rw [plR] at h
    split at h
    · exact plR_lt (Q := K) (by simpa using hj) (by omega)
    · omega
theorem plR_at : ∀ {Q : List Rm} {r : Rm} {y : Rm}, Q[plR Q r]? = some y → ¬ LR y r
  | [], to, y, h => by simp at h
  | x :: K, to, y, h => by
    rw [plR] at h
    split at h
    · exact plR_at (Q := K) (by simpa using h)
    · rename_i hx
      simp at h
      subst h
      exact hx
def Ris (Q : List Rm) : Prop := Q.Pairwise LR
/-- A queue. -/
structure GoodQ (Q : List Rm) : Prop where
  len : Q.length ≤ 64
  ris : Ris Q
  ok : ∀ x ∈ Q, OkR x
  one : Q.Pairwise fun a b => ¬ (a.ac = b.ac ∧ a.nm = b.nm)
theorem GoodQ.nil : GoodQ [] := ⟨by simp, by simp [Ris], by simp, by simp⟩
theorem layR_mem : ∀ {Q : List Rm} {r y : Rm}, y ∈ layR Q r ↔ y = r ∨ y ∈ Q
  | [], r, y => by simp [layR]
  | x :: Q, r, y => by
    rw [layR]
    split
    · simp only [List.mem_cons, layR_mem]
      constructor
      · rintro (h | h | h)
        · exact .inr (.inl h)
        · exact .inl h
        · exact .inr (.inr h)
      · rintro (h | h | h)
        · exact .inr (.inl h)
        · exact .inl h
        · exact .inr (.inr h)
    · simp only [List.mem_cons]
theorem layR_length (Q : List Rm) (r : Rm) : (layR Q r).length = Q.length + 1 := by
  rw [layR_eq, List.length_append, List.length_cons, List.length_take, List.length_drop]
  have := plR_le Q r
  omega
theorem Ris.lay : ∀ {Q : List Rm} {r : Rm}, Ris Q → (∀ x ∈ Q, ¬ (x.ac = r.ac ∧ x.nm = r.nm)) → Ris (layR Q r)
  | [], r, _, _ => by simp [layR, Ris]
  | x :: Q, r, hr, hn => by
    obtain ⟨h1, h2⟩ := List.pairwise_cons.1 hr
    rw [layR]
    split
    · rename_i hx
      refine List.pairwise_cons.2 ⟨fun y hy => ?_, Ris.lay h2 fun y hy => hn y (by simp [hy])⟩
      rcases layR_mem.1 hy with rfl | hy
      · exact hx
      · exact h1 y hy
    · rename_i hx
      have hlt : LR r x := LR.tri hx (fun e => hn x (by simp) e.2)
      refine List.pairwise_cons.2 ⟨fun y hy => ?_, hr⟩
      rcases List.mem_cons.1 hy with rfl | hy
      · exact hlt
      · exact hlt.trans (h1 y hy)
theorem one_lay : ∀ {Q : List Rm} {r : Rm}, (Q.Pairwise fun a b => ¬ (a.ac = b.ac ∧ a.nm = b.nm)) → (∀ x ∈ Q, ¬ (x.ac = r.ac ∧ x.nm = r.nm)) → (layR Q r).Pairwise fun a b => ¬ (a.ac = b.ac ∧ a.nm = b.nm)
  | [], r, _, _ => by simp [layR]
  | x :: Q, r, hr, hn => by
    obtain ⟨h1, h2⟩ := List.pairwise_cons.1 hr
    rw [layR]
    split
    · refine List.pairwise_cons.2 ⟨fun y hy => ?_, one_lay h2 fun y hy => hn y (by simp [hy])⟩
      rcases layR_mem.1 hy with rfl | hy
      · exact hn x (by simp)
      · exact h1 y hy
    · exact List.pairwise_cons.2 ⟨fun y hy e => hn y hy ⟨e.1.symm, e.2.symm⟩, hr⟩
theorem canR_mem {Q : List Rm} {ac nm : List UInt8} {y : Rm} : y ∈ canR Q ac nm ↔ y ∈ Q ∧ ¬ (y.ac = ac ∧ y.nm = nm) := by
  unfold canR
  rw [List.mem_filter, Bool.not_eq_true', ← Bool.not_eq_true, sameR_iff]
theorem GoodQ.can {Q : List Rm} (h : GoodQ Q) (ac nm : List UInt8) : GoodQ (canR Q ac nm) :=
  ⟨Nat.le_trans (List.length_filter_le _ _) h.len, List.Pairwise.filter _ h.ris, fun x hx => h.ok x (canR_mem.1 hx).1, List.Pairwise.filter _ h.one⟩
theorem GoodQ.lay {Q : List Rm} (h : GoodQ Q) {r : Rm} (hr : OkR r) (hn : ∀ x ∈ Q, ¬ (x.ac = r.ac ∧ x.nm = r.nm)) (hl : Q.length < 64) : GoodQ (layR Q r) :=
  ⟨by rw [layR_length]; omega, h.ris.lay hn, fun x hx => by rcases layR_mem.1 hx with rfl | hx; exact hr; exact h.ok x hx, one_lay h.one hn⟩
theorem hasR_iff {Q : List Rm} {ac nm : List UInt8} : hasR Q ac nm = true ↔ ∃ x ∈ Q, x.ac = ac ∧ x.nm = nm := by
  unfold hasR
  rw [List.any_eq_true]
  simp only [sameR_iff]
theorem canR_none {Q : List Rm} {ac nm : List UInt8} (h : hasR Q ac nm = false) : canR Q ac nm = Q := by
  unfold canR
  rw [List.filter_eq_self]
  intro x hx
  cases hs : sameR x ac nm with
  | false => rfl
  | true => rw [(hasR_iff.2 ⟨x, hx, sameR_iff.1 hs⟩)] at h; cases h
theorem canR_length : ∀ {Q : List Rm} {ac nm : List UInt8}, (Q.Pairwise fun a b => ¬ (a.ac = b.ac ∧ a.nm = b.nm)) → hasR Q ac nm = true → (canR Q ac nm).length + 1 = Q.length
  | [], ac, nm, _, h => by simp [hasR] at h
  | x :: Q, ac, nm, hp, h => by
    obtain ⟨h1, h2⟩ := List.pairwise_cons.1 hp
    unfold canR
    rw [List.filter_cons]
    by_cases hx : sameR x ac nm = true
    · rw [if_neg (by simp [hx])]
      have : hasR Q ac nm = false := by
        cases hh : hasR Q ac nm with
        | false => rfl
        | true =>
          obtain ⟨y, hy, e⟩ := hasR_iff.1 hh
          have e' := sameR_iff.1 hx
          exact absurd ⟨e'.1.trans e.1.symm, e'.2.trans e.2.symm⟩ (h1 y hy)
      have := canR_none this
      unfold canR at this
      rw [this]
      simp
    · rw [if_pos (by simpa using hx)]
      have hq : hasR Q ac nm = true := by
        obtain ⟨y, hy, e⟩ := hasR_iff.1 h
        rcases List.mem_cons.1 hy with rfl | hy
        · exact absurd (sameR_iff.2 e) hx
        · exact hasR_iff.2 ⟨y, hy, e⟩
      have := canR_length h2 hq
      unfold canR at this
      simp
      omega
/-- What Set leaves, where it answers OK. -/
def setR (Q : List Rm) (r : Rm) : List Rm := layR (canR Q r.ac r.nm) r
theorem GoodQ.set {Q : List Rm} (h : GoodQ Q) {r : Rm} (hr : OkR r) (hl : hasR Q r.ac r.nm = true ∨ Q.length < 64) : GoodQ (setR Q r) := by
  refine (h.can r.ac r.nm).lay hr (fun x hx => (canR_mem.1 hx).2) ?_
  have := h.len
  cases hh : hasR Q r.ac r.nm with
  | true => have := canR_length h.one hh; omega
  | false => rw [canR_none hh]; rcases hl with hl | hl; rw [hh] at hl; cases hl; exact hl
/-- A reminder's next tick. -/
def nextR (r : Rm) : Rm := ⟨r.ac, r.nm, r.due + r.per, r.per, r.kind⟩
/-- What Serve leaves of a queue whose first one is r. -/
def serR (r : Rm) (Q : List Rm) : List Rm := if r.due + r.per ≤ 9223372036854775807 then layR (canR (r :: Q) r.ac r.nm) (nextR r) else canR (r :: Q) r.ac r.nm
theorem canR_head {r : Rm} {Q : List Rm} (h : GoodQ (r :: Q)) : canR (r :: Q) r.ac r.nm = Q := by
  obtain ⟨h1, h2⟩ := List.pairwise_cons.1 h.one
  unfold canR
  rw [List.filter_cons, if_neg (by simp [sameR])]
  rw [List.filter_eq_self]
  intro x hx
  cases hs : sameR x r.ac r.nm with
  | false => rfl
  | true => have := sameR_iff.1 hs; exact absurd ⟨this.1.symm, this.2.symm⟩ (h1 x hx)
theorem GoodQ.tail {r : Rm} {Q : List Rm} (h : GoodQ (r :: Q)) : GoodQ Q :=
  ⟨by have := h.len; simp at this; omega, (List.pairwise_cons.1 h.ris).2, fun x hx => h.ok x (by simp [hx]), (List.pairwise_cons.1 h.one).2⟩
theorem GoodQ.serve {r : Rm} {Q : List Rm} (h : GoodQ (r :: Q)) : GoodQ (serR r Q) := by
  unfold serR
  rw [canR_head h]
  have hr := h.ok r (by simp)
  have hl := h.len
  split
  · rename_i hd
    refine h.tail.lay ⟨hr.ac, hr.nm, ?_, hr.per, hd, hr.p64, hr.k64⟩ (fun x hx e => (List.pairwise_cons.1 h.one).1 x hx ⟨e.1.symm, e.2.symm⟩) (by simp at hl; omega)
    show 0 ≤ r.due + r.per
    have := hr.due
    have := hr.per
    omega
  · exact h.tail
/-- Behind a Serve all are later. -/
theorem serR_later {r : Rm} {Q : List Rm} (h : GoodQ (r :: Q)) : ∀ x ∈ serR r Q, LR r x := by
  have hq := (List.pairwise_cons.1 h.ris).1
  have hr := h.ok r (by simp)
  unfold serR
  rw [canR_head h]
  split
  · intro x hx
    rcases layR_mem.1 hx with rfl | hx
    · refine .inl ?_
      show r.due < r.due + r.per
      have := hr.per
      omega
    · exact hq x hx
  · exact hq
/-- To lay one and to cancel another is the same either way. -/
theorem filter_lay (p : Rm → Bool) : ∀ {Q : List Rm} {r : Rm}, Ris Q → p r = true → (layR Q r).filter p = layR (Q.filter p) r
  | [], r, _, hp => by simp [layR, hp]
  | x :: Q, r, hr, hp => by
    obtain ⟨h1, h2⟩ := List.pairwise_cons.1 hr
    rw [layR]
    by_cases hx : LR x r
    · rw [if_pos hx, List.filter_cons, List.filter_cons, filter_lay p h2 hp]
      by_cases hpx : p x = true
      · rw [if_pos hpx, if_pos hpx, layR, if_pos hx]
      · rw [if_neg hpx, if_neg hpx]
    · rw [if_neg hx, List.filter_cons, if_pos hp]
      have key : ∀ R : List Rm, (∀ y ∈ R, ¬ LR y r) → layR R r = r :: R := fun R hR => by
        cases R with
        | nil => rfl
        | cons y R => rw [layR, if_neg (hR y (by simp))]
      rw [key]
      intro y hy
      rcases List.mem_cons.1 (List.mem_filter.1 hy).1 with rfl | hy
      · exact hx
      · exact fun e => hx ((h1 y hy).trans e)
theorem filter_lay_not (p : Rm → Bool) : ∀ {Q : List Rm} {r : Rm}, p r = false → (layR Q r).filter p = Q.filter p
  | [], r, hp => by simp [layR, hp]
  | x :: Q, r, hp => by
    rw [layR]
    split
    · rw [List.filter_cons, List.filter_cons, filter_lay_not p hp]
    · rw [List.filter_cons, if_neg (by simp [hp])]
theorem filter_swap (p q : Rm → Bool) (Q : List Rm) : (Q.filter p).filter q = (Q.filter q).filter p := by
  rw [List.filter_filter, List.filter_filter]
  congr 1
  funext x
  exact Bool.and_comm _ _
theorem can_set_other {Q : List Rm} (h : GoodQ Q) {r : Rm} {ac nm : List UInt8} (hn : ¬ (r.ac = ac ∧ r.nm = nm)) : canR (setR Q r) ac nm = setR (canR Q ac nm) r := by
  unfold setR canR
  rw [filter_lay _ (List.Pairwise.filter _ h.ris) (by rw [Bool.not_eq_true', ← Bool.not_eq_true, sameR_iff]; exact hn), filter_swap]
theorem can_set_same {Q : List Rm} {r : Rm} {ac nm : List UInt8} (he : r.ac = ac ∧ r.nm = nm) : canR (setR Q r) ac nm = canR Q ac nm := by
  obtain ⟨rfl, rfl⟩ := he
  unfold setR canR
  rw [filter_lay_not _ (by simp [sameR]), List.filter_filter]
  simp
/-- A reminder's bytes. -/
def encR (r : Rm) : List UInt8 := encTx r.ac ++ (encTx r.nm ++ (enc (fold r.due) ++ (enc (fold r.per) ++ enc (fold r.kind))))
/-- A queue's bytes. -/
def encQ (Q : List Rm) : List UInt8 := enc Q.length ++ Q.flatMap encR
/-- n reminders more. -/
def rqs : Nat → List Rm → List UInt8 → Option (List Rm × List UInt8)
  | 0, Q, l => some (Q, l)
  | n + 1, Q, l => (txt l).bind fun a => (txt a.2).bind fun b => (int b.2).bind fun c => (int c.2).bind fun d => (int d.2).bind fun e =>
      if isKey a.1 = false ∨ 40 < b.1.length ∨ c.1 < 0 ∨ d.1 < 1 ∨ hasR Q a.1 b.1 = true ∨ ∃ y ∈ Q.getLast?, ¬ LR y ⟨a.1, b.1, c.1, d.1, e.1⟩ then none else rqs n (Q ++ [⟨a.1, b.1, c.1, d.1, e.1⟩]) e.2
/-- The queue that bytes are. -/
def decQ (l : List UInt8) : Option (List Rm) := (num l).bind fun a => if 64 < a.1 then none else (rqs a.1 [] a.2).bind fun b => if b.2 = [] then some b.1 else none
theorem rqs_back (X : List Rm) : ∀ P r, GoodQ (P ++ X) → rqs X.length P (X.flatMap encR ++ r) = some (P ++ X, r) := by
  induction X with
  | nil => intro P r _; simp [rqs]
  | cons x X ih =>
    intro P r hg
    have hx := hg.ok x (by simp)
    have hk := (isKey_iff _).1 hx.ac
    have hd := hx.due
    have hp := hx.per
    have e : (x :: X).flatMap encR ++ r = encTx x.ac ++ (encTx x.nm ++ (enc (fold x.due) ++ (enc (fold x.per) ++ (enc (fold x.kind) ++ (X.flatMap encR ++ r))))) := by simp [encR]
    rw [List.length_cons, rqs, e, txt_back x.ac (by omega)]
    dsimp only [Option.bind_some]
    rw [txt_back x.nm (by have := hx.nm; omega)]
    dsimp only [Option.bind_some]
    rw [int_back x.due ⟨by omega, hx.d64⟩]
    dsimp only [Option.bind_some]
    rw [int_back x.per ⟨by omega, hx.p64⟩]
    dsimp only [Option.bind_some]
    rw [int_back x.kind hx.k64]
    dsimp only [Option.bind_some]
    rw [if_neg, show (⟨x.ac, x.nm, x.due, x.per, x.kind⟩ : Rm) = x from rfl, ih (P ++ [x]) r (by simpa using hg)]
    · simp
    · rintro (h1 | h1 | h1 | h1 | h1 | ⟨y, hy, h1⟩)
      · rw [hx.ac] at h1; cases h1
      · have := hx.nm; omega
      · omega
      · omega
      · obtain ⟨y, hy, e⟩ := hasR_iff.1 h1
        exact (List.pairwise_append.1 hg.one).2.2 y hy x (by simp) e
      · exact h1 ((List.pairwise_append.1 hg.ris).2.2 y (List.mem_of_getLast? hy) x (by simp))
theorem rqs_fwd (n : Nat) : ∀ P l Q r, GoodQ P → P.length + n ≤ 64 → rqs n P l = some (Q, r) → ∃ X, X.length = n ∧ Q = P ++ X ∧ l = X.flatMap encR ++ r ∧ GoodQ Q := by
  induction n with
  | zero =>
    intro P l Q r hg _ h
    simp only [rqs, Option.some.injEq, Prod.mk.injEq] at h
    obtain ⟨rfl, rfl⟩ := h
    exact ⟨[], rfl, by simp, by simp, hg⟩
  | succ n ih =>
    intro P l Q r hg hl h
    rw [rqs] at h
    cases h1 : txt l with
    | none => rw [h1] at h; cases h
    | some a =>
      obtain ⟨ac, l1⟩ := a
      rw [h1] at h
      dsimp only [Option.bind_some] at h
      cases h2 : txt l1 with
      | none => rw [h2] at h; cases h
      | some b =>
        obtain ⟨nm, l2⟩ := b
        rw [h2] at h
        dsimp only [Option.bind_some] at h
        cases h3 : int l2 with
        | none => rw [h3] at h; cases h
        | some c =>
          obtain ⟨due, l3⟩ := c
          rw [h3] at h
          dsimp only [Option.bind_some] at h
          cases h4 : int l3 with
          | none => rw [h4] at h; cases h
          | some d =>
            obtain ⟨per, l4⟩ := d
            rw [h4] at h
            dsimp only [Option.bind_some] at h
            cases h5 : int l4 with
            | none => rw [h5] at h; cases h
            | some e =>
              obtain ⟨kind, l5⟩ := e
              rw [h5] at h
              dsimp only [Option.bind_some] at h
              split at h
              · cases h
              · rename_i hno
                have hk : isKey ac = true := by
                  cases hh : isKey ac with
                  | true => rfl
                  | false => exact absurd (.inl hh) hno
                have hok : OkR ⟨ac, nm, due, per, kind⟩ := ⟨hk, Nat.le_of_not_lt fun e => hno (.inr (.inl e)), Int.not_lt.1 fun e => hno (.inr (.inr (.inl e))), Int.not_lt.1 fun e => hno (.inr (.inr (.inr (.inl e)))), (int_some h3).2.2.2, (int_some h4).2.2.2, (int_some h5).2.2⟩
                have hone : ∀ y ∈ P, ¬ (y.ac = ac ∧ y.nm = nm) := fun y hy e => hno (.inr (.inr (.inr (.inr (.inl (hasR_iff.2 ⟨y, hy, e⟩))))))
                have hlast : ∀ y ∈ P, LR y ⟨ac, nm, due, per, kind⟩ := fun y hy => by
                  have hne : P ≠ [] := fun e => by rw [e] at hy; simp at hy
                  have hl2 : P.getLast? = some (P.getLast hne) := List.getLast?_eq_some_getLast hne
                  have h6 : LR (P.getLast hne) ⟨ac, nm, due, per, kind⟩ := Classical.byContradiction fun h6 => hno (.inr (.inr (.inr (.inr (.inr ⟨_, hl2, h6⟩)))))
                  have e := List.dropLast_concat_getLast hne
                  have hris := hg.ris
                  rw [← e] at hy hris
                  rcases List.mem_append.1 hy with hy | hy
                  · exact ((List.pairwise_append.1 hris).2.2 y hy _ (by simp)).trans h6
                  · simp at hy; rw [hy]; exact h6
                have hg2 : GoodQ (P ++ [⟨ac, nm, due, per, kind⟩]) := ⟨by simp; omega, List.pairwise_append.2 ⟨hg.ris, by simp, fun a ha b hb => by simp at hb; subst hb; exact hlast a ha⟩, fun x hx => by
                  rcases List.mem_append.1 hx with hx | hx
                  · exact hg.ok x hx
                  · simp at hx; subst hx; exact hok, List.pairwise_append.2 ⟨hg.one, by simp, fun a ha b hb => by simp at hb; subst hb; exact hone a ha⟩⟩
                obtain ⟨X, h6, h7, h8, h9⟩ := ih _ l5 Q r hg2 (by simp; omega) h
                refine ⟨⟨ac, nm, due, per, kind⟩ :: X, by simp [h6], by rw [h7]; simp, ?_, h9⟩
                rw [txt_fwd h1, txt_fwd h2, int_fwd h3, int_fwd h4, int_fwd h5, h8]
                simp [encR]
theorem decQ_back {Q : List Rm} (h : GoodQ Q) : decQ (encQ Q) = some Q := by
  have hl := h.len
  unfold decQ encQ
  rw [num_back Q.length (by unfold U64; omega)]
  dsimp only [Option.bind_some]
  have := rqs_back Q [] [] (by simpa using h)
  rw [List.append_nil, List.nil_append] at this
  rw [if_neg (by omega), this]
  rfl
theorem decQ_fwd {l : List UInt8} {Q : List Rm} (h : decQ l = some Q) : encQ Q = l ∧ GoodQ Q := by
  unfold decQ at h
  cases h1 : num l with
  | none => rw [h1] at h; cases h
  | some a =>
    obtain ⟨n, l1⟩ := a
    rw [h1] at h
    dsimp only [Option.bind_some] at h
    split at h
    · cases h
    · cases h2 : rqs n [] l1 with
      | none => rw [h2] at h; cases h
      | some b =>
        obtain ⟨Q1, r⟩ := b
        rw [h2] at h
        dsimp only [Option.bind_some] at h
        split at h
        · rename_i hr
          simp only [Option.some.injEq] at h
          subst h hr
          obtain ⟨X, h3, h4, h5, h6⟩ := rqs_fwd n [] l1 Q1 [] GoodQ.nil (by simp; omega) h2
          rw [List.nil_append] at h4
          subst h4
          refine ⟨?_, h6⟩
          rw [num_fwd h1, h5, encQ, h3]
          simp
        · cases h
end Go.Proofs.Ytmjbkhcfdojpeaa
