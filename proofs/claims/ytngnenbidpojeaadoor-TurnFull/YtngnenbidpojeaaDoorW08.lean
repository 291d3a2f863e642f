import Derived.Test.YtngnenbidpojeaaDoorW03
import Derived.Test.YtngnenbidpojeaaDoorW04
import Derived.Test.YtngnenbidpojeaaDoorW07
/-
  Outboxes, without memory: keys and their serials, an outbox' bytes, the outbox that bytes are.
-/
namespace Go.Proofs.YtngnenbidpojeaaDoor
set_option maxRecDepth 100000
set_option linter.unusedVariables false
/-- A letter on its way. -/
structure Ot where
  to : List UInt8
  x : Lt
instance : Inhabited Ot := ⟨⟨[], default⟩⟩
/-- A key and the last serial to it. -/
structure La where
  k : List UInt8
  s : Nat
instance : Inhabited La := ⟨⟨[], 0⟩⟩
/-- An outbox. -/
structure Ob where
  own : List UInt8
  K : List La
  L : List Ot
def isKey (k : List UInt8) : Bool := decide (1 ≤ k.length) && decide (k.length ≤ 40)
theorem isKey_iff (k : List UInt8) : isKey k = true ↔ 1 ≤ k.length ∧ k.length ≤ 40 := by simp [isKey]
/-- How many keys are less. -/
def pla : List La → List UInt8 → Nat
  | [], _ => 0
  | y :: K, to => if y.k < to then pla K to + 1 else 0
/-- Whether it ever sent to a key. -/
def hasK : List La → List UInt8 → Bool
  | [], _ => false
  | y :: K, to => if y.k < to then hasK K to else decide (y.k = to)
/-- The last serial to a key. -/
def ser : List La → List UInt8 → Nat
  | [], _ => 0
  | y :: K, to => if y.k < to then ser K to else if y.k = to then y.s else 0
/-- Another last serial. -/
def setK : List La → List UInt8 → Nat → List La
  | [], to, s => [⟨to, s⟩]
  | y :: K, to, s => if y.k < to then y :: setK K to s else if y.k = to then ⟨to, s⟩ :: K else ⟨to, s⟩ :: y :: K
theorem pla_le (K : List La) (to : List UInt8) : pla K to ≤ K.length := by
  induction K with
  | nil => simp [pla]
  | cons y K ih => rw [pla]; split <;> simp; omega
theorem pla_lt : ∀ {K : List La} {to : List UInt8} {j : Nat} {y : La}, K[j]? = some y → j < pla K to → y.k < to
  | [], to, j, y, hj, h => by simp at hj
  | x :: K, to, 0, y, hj, h => by
    simp at hj
    subst hj
    rw [pla] at h
    split at h
    · assumption
    · omega
  | x :: K, to, j + 1, y, hj, h => by
    rw [pla] at h
    split at h
    · exact pla_lt (K := K) (by simpa using hj) (by omega)
    · omega
theorem pla_at : ∀ {K : List La} {to : List UInt8} {y : La}, K[pla K to]? = some y → ¬ y.k < to
  | [], to, y, h => by simp at h
  | x :: K, to, y, h => by
    rw [pla] at h
    split at h
    · exact pla_at (K := K) (by simpa using h)
    · rename_i hx
      simp at h
      subst h
      exact hx
theorem has_at : ∀ {K : List La} {to : List UInt8}, hasK K to = true → ∃ s, K[pla K to]? = some ⟨to, s⟩ ∧ ser K to = s
  | [], to, h => by simp [hasK] at h
  | x :: K, to, h => by
    rw [hasK] at h
    rw [pla, ser]
    split at h
    · rename_i hx
      rw [if_pos hx, if_pos hx]
      obtain ⟨s, h1, h2⟩ := has_at h
      exact ⟨s, by simpa using h1, h2⟩
    · rename_i hx
      rw [if_neg hx, if_neg hx]
      have hk : x.k = to := by simpa using h
      rw [if_pos hk]
      obtain ⟨k, s⟩ := x
      dsimp only at hk
      subst hk
      exact ⟨s, rfl, rfl⟩
theorem has_not : ∀ {K : List La} {to : List UInt8}, hasK K to = false → ser K to = 0 ∧ ∀ y, K[pla K to]? = some y → y.k ≠ to
  | [], to, h => ⟨rfl, by simp⟩
  | x :: K, to, h => by
    rw [hasK] at h
    rw [pla, ser]
    split at h
    · rename_i hx
      rw [if_pos hx, if_pos hx]
      obtain ⟨h1, h2⟩ := has_not h
      exact ⟨h1, fun y hy => h2 y (by simpa using hy)⟩
    · rename_i hx
      rw [if_neg hx, if_neg hx]
      have hk : x.k ≠ to := by simpa using h
      rw [if_neg hk]
      exact ⟨rfl, fun y hy => by simp at hy; subst hy; exact hk⟩
theorem setK_has : ∀ {K : List La} {to : List UInt8} (s : Nat), hasK K to = true → setK K to s = K.set (pla K to) ⟨to, s⟩
  | [], to, s, h => by simp [hasK] at h
  | x :: K, to, s, h => by
    rw [hasK] at h
    rw [setK, pla]
    split at h
    · rename_i hx
      rw [if_pos hx, if_pos hx, List.set_cons_succ, setK_has s h]
    · rename_i hx
      rw [if_neg hx, if_neg hx, if_pos (by simpa using h)]
      rfl
theorem setK_new : ∀ {K : List La} {to : List UInt8} (s : Nat), hasK K to = false → setK K to s = K.take (pla K to) ++ ⟨to, s⟩ :: K.drop (pla K to)
  | [], to, s, h => rfl
  | x :: K, to, s, h => by
    rw [hasK] at h
    rw [setK, pla]
    split at h
    · rename_i hx
      rw [if_pos hx, if_pos hx, setK_new s h]
      rfl
    · rename_i hx
      rw [if_neg hx, if_neg hx, if_neg (by simpa using h)]
      rfl
/-- Keys rise. -/
def Rise (K : List La) : Prop := K.Pairwise fun a b => a.k < b.k
theorem klt_trans {a b c : List UInt8} (h : a < b) (k : b < c) : a < c := List.lt_trans h k
theorem klt_irrefl (a : List UInt8) : ¬ a < a := List.lt_irrefl a
theorem klt_tri : ∀ {a b : List UInt8}, ¬ a < b → a ≠ b → b < a
  | [], [], _, k => absurd rfl k
  | [], y :: b, h, _ => absurd (by simp) h
  | x :: a, [], _, _ => by simp
  | x :: a, y :: b, h, k => by
    rw [List.cons_lt_cons_iff] at h ⊢
    by_cases hxy : x = y
    · subst hxy
      exact .inr ⟨rfl, klt_tri (fun h' => h (.inr ⟨rfl, h'⟩)) (fun e => k (by rw [e]))⟩
    · refine .inl ?_
      have h1 : ¬ x < y := fun h' => h (.inl h')
      have h2 : x.toNat ≠ y.toNat := fun e => hxy (UInt8.toNat_inj.1 e)
      rw [UInt8.lt_iff_toNat_lt] at h1 ⊢
      omega
theorem has_mem : ∀ {K : List La} {to : List UInt8}, Rise K → (hasK K to = true ↔ ∃ y ∈ K, y.k = to)
  | [], to, _ => by simp [hasK]
  | x :: K, to, hr => by
    obtain ⟨h1, h2⟩ := List.pairwise_cons.1 hr
    rw [hasK]
    by_cases hx : x.k < to
    · rw [if_pos hx, has_mem h2]
      constructor
      · rintro ⟨y, hy, e⟩; exact ⟨y, by simp [hy], e⟩
      · rintro ⟨y, hy, e⟩
        rcases List.mem_cons.1 hy with rfl | hy
        · rw [e] at hx; exact absurd hx (klt_irrefl _)
        · exact ⟨y, hy, e⟩
    · rw [if_neg hx]
      constructor
      · intro h; exact ⟨x, by simp, by simpa using h⟩
      · rintro ⟨y, hy, e⟩
        rcases List.mem_cons.1 hy with rfl | hy
        · simpa using e
        · have := h1 y hy; rw [e] at this; exact absurd this hx
theorem ser_mem : ∀ {K : List La} {y : La}, Rise K → y ∈ K → ser K y.k = y.s
  | x :: K, y, hr, hy => by
    obtain ⟨h1, h2⟩ := List.pairwise_cons.1 hr
    rw [ser]
    rcases List.mem_cons.1 hy with rfl | hy
    · rw [if_neg (klt_irrefl _), if_pos rfl]
    · rw [if_pos (h1 y hy), ser_mem h2 hy]
theorem setK_mem : ∀ {K : List La} {to : List UInt8} {s : Nat} {y : La}, y ∈ setK K to s → y = ⟨to, s⟩ ∨ y ∈ K
  | [], to, s, y, h => by simp [setK] at h; exact .inl h
  | x :: K, to, s, y, h => by
    rw [setK] at h
    split at h
    · rcases List.mem_cons.1 h with rfl | h
      · exact .inr (by simp)
      · rcases setK_mem h with h | h
        · exact .inl h
        · exact .inr (by simp [h])
    · split at h
      · rcases List.mem_cons.1 h with h | h
        · exact .inl h
        · exact .inr (by simp [h])
      · rcases List.mem_cons.1 h with h | h
        · exact .inl h
        · exact .inr h
theorem Rise.setK : ∀ {K : List La} {to : List UInt8} (s : Nat), Rise K → Rise (setK K to s)
  | [], to, s, _ => by simp [YtngnenbidpojeaaDoor.setK, Rise]
  | x :: K, to, s, hr => by
    obtain ⟨h1, h2⟩ := List.pairwise_cons.1 hr
    rw [YtngnenbidpojeaaDoor.setK]
    split
    · rename_i hx
      refine List.pairwise_cons.2 ⟨fun y hy => ?_, Rise.setK s h2⟩
      rcases setK_mem hy with rfl | hy
      · exact hx
      · exact h1 y hy
    · rename_i hx
      split
      · rename_i hk
        exact List.pairwise_cons.2 ⟨fun y hy => by have := h1 y hy; rw [hk] at this; exact this, h2⟩
      · rename_i hk
        have hlt := klt_tri hx hk
        refine List.pairwise_cons.2 ⟨fun y hy => ?_, hr⟩
        rcases List.mem_cons.1 hy with rfl | hy
        · exact hlt
        · exact klt_trans hlt (h1 y hy)
theorem ser_set_same : ∀ (K : List La) (to : List UInt8) (s : Nat), ser (setK K to s) to = s ∧ hasK (setK K to s) to = true
  | [], to, s => by simp [setK, ser, hasK, klt_irrefl]
  | x :: K, to, s => by
    rw [setK]
    split
    · rename_i hx
      rw [ser, if_pos hx, hasK, if_pos hx]
      exact ser_set_same K to s
    · split <;> simp [ser, hasK, klt_irrefl]
theorem ser_set_other : ∀ {K : List La} {to to' : List UInt8} (s : Nat), Rise K → to' ≠ to → ser (setK K to s) to' = ser K to' ∧ hasK (setK K to s) to' = hasK K to'
  | [], to, to', s, _, hn => by
    simp only [setK, ser, hasK]
    by_cases h : to < to'
    · simp [h]
    · simp [h, Ne.symm hn]
  | x :: K, to, to', s, hr, hn => by
    obtain ⟨h1, h2⟩ := List.pairwise_cons.1 hr
    rw [setK]
    by_cases hx : x.k < to
    · rw [if_pos hx, ser, ser, hasK, hasK]
      have := ser_set_other s h2 hn
      rw [this.1, this.2]
      exact ⟨rfl, rfl⟩
    · rw [if_neg hx]
      by_cases hk : x.k = to
      · rw [if_pos hk, ser, ser, hasK, hasK, hk]
        dsimp only
        rw [if_neg (Ne.symm hn), if_neg (Ne.symm hn)]
        exact ⟨rfl, rfl⟩
      · rw [if_neg hk]
        by_cases ht : to < to'
        · rw [ser, if_pos ht, hasK, if_pos ht]
          exact ⟨rfl, rfl⟩
        · have hlt := klt_tri hx hk
          have hxn : ¬ x.k < to' := fun h => ht (klt_trans hlt h)
          have hxe : x.k ≠ to' := fun h => ht (by rw [← h]; exact hlt)
          rw [ser, if_neg ht, if_neg (Ne.symm hn), hasK, if_neg ht, ser, if_neg hxn, if_neg hxe, hasK, if_neg hxn]
          simp [hxe, Ne.symm hn]
theorem setK_length : ∀ (K : List La) (to : List UInt8) (s : Nat), (setK K to s).length = if hasK K to = true then K.length else K.length + 1
  | [], to, s => rfl
  | x :: K, to, s => by
    rw [setK, hasK]
    by_cases hx : x.k < to
    · rw [if_pos hx, if_pos hx, List.length_cons, setK_length K to s]
      split <;> simp
    · rw [if_neg hx, if_neg hx]
      by_cases hk : x.k = to
      · simp [hk]
      · simp [hk]
/-- The letters to one key, from the last one back, have the serials s, s - 1 and so on. -/
def ordR (k : List UInt8) : List Ot → Nat → Bool
  | [], _ => true
  | y :: t, s => if y.to = k then decide (s ≠ 0) && decide (y.x.ser = s) && ordR k t (s - 1) else ordR k t s
def ordO (K : List La) (L : List Ot) : Bool := K.all fun y => ordR y.k L.reverse y.s
/-- What an outbox may be. -/
structure GoodO (o : Ob) : Prop where
  own : isKey o.own = true
  kn : o.K.length ≤ 64
  ln : o.L.length ≤ 32
  key : ∀ y ∈ o.K, isKey y.k = true ∧ y.s ≠ 0 ∧ U64 y.s
  rise : Rise o.K
  lets : ∀ y ∈ o.L, y.x.ok ∧ y.x.formed = true ∧ y.x.fr = o.own ∧ hasK o.K y.to = true
  ord : ordO o.K o.L = true
def encK (K : List La) : List UInt8 := K.flatMap fun y => encTx y.k ++ enc y.s
def encY (L : List Ot) : List UInt8 := L.flatMap fun y => encTx y.to ++ encTx (encL y.x)
/-- An outbox' bytes. -/
def encO (o : Ob) : List UInt8 := encTx o.own ++ (enc o.K.length ++ (encK o.K ++ (enc o.L.length ++ encY o.L)))
/-- n keys more. -/
def rks : Nat → List La → List UInt8 → Option (List La × List UInt8)
  | 0, K, l => some (K, l)
  | n + 1, K, l => (txt l).bind fun a => (num a.2).bind fun b => if isKey a.1 = false ∨ b.1 = 0 ∨ ∃ y ∈ K.getLast?, ¬ y.k < a.1 then none else rks n (K ++ [⟨a.1, b.1⟩]) b.2
/-- n letters more. -/
def rls (own : List UInt8) (K : List La) : Nat → List Ot → List UInt8 → Option (List Ot × List UInt8)
  | 0, L, l => some (L, l)
  | n + 1, L, l => (txt l).bind fun a => (txt a.2).bind fun b => (decL b.1).bind fun x => if x.fr ≠ own ∨ hasK K a.1 = false then none else rls own K n (L ++ [⟨a.1, x⟩]) b.2
/-- The outbox that bytes are. -/
def decO (l : List UInt8) : Option Ob :=
  (txt l).bind fun a => (num a.2).bind fun b => if isKey a.1 = false ∨ 64 < b.1 then none else
    (rks b.1 [] b.2).bind fun c => (num c.2).bind fun d => if 32 < d.1 then none else
      (rls a.1 c.1 d.1 [] d.2).bind fun e => if e.2 = [] ∧ ordO c.1 e.1 = true then some ⟨a.1, c.1, e.1⟩ else none
theorem rks_back (X : List La) : ∀ P r, Rise (P ++ X) → (∀ y ∈ X, isKey y.k = true ∧ y.s ≠ 0 ∧ U64 y.s) → rks X.length P (encK X ++ r) = some (P ++ X, r) := by
  induction X with
  | nil => intro P r _ _; simp [rks, encK]
  | cons x X ih =>
    intro P r hr h
    have hx := h x (by simp)
    have hk := (isKey_iff _).1 hx.1
    have e : encK (x :: X) ++ r = encTx x.k ++ (enc x.s ++ (encK X ++ r)) := by simp [encK]
    rw [List.length_cons, rks, e, txt_back x.k (by omega)]
    dsimp only [Option.bind_some]
    rw [num_back x.s hx.2.2]
    dsimp only [Option.bind_some]
    rw [if_neg, ih (P ++ [x]) r (by simpa using hr) (fun y hy => h y (by simp [hy]))]
    · simp
    · rintro (h1 | h1 | ⟨y, hy, h1⟩)
      · rw [hx.1] at h1; cases h1
      · exact hx.2.1 h1
      · exact h1 ((List.pairwise_append.1 hr).2.2 y (List.mem_of_getLast? hy) x (by simp))
theorem rks_fwd (n : Nat) : ∀ P l K r, Rise P → rks n P l = some (K, r) → ∃ X, X.length = n ∧ K = P ++ X ∧ l = encK X ++ r ∧ Rise K ∧ ∀ y ∈ X, isKey y.k = true ∧ y.s ≠ 0 ∧ U64 y.s := by
  induction n with
  | zero =>
    intro P l K r hr h
    simp only [rks, Option.some.injEq, Prod.mk.injEq] at h
    obtain ⟨rfl, rfl⟩ := h
    exact ⟨[], rfl, by simp, by simp [encK], hr, by simp⟩
  | succ n ih =>
    intro P l K r hr h
    rw [rks] at h
    cases h1 : txt l with
    | none => rw [h1] at h; cases h
    | some a =>
      obtain ⟨k, l1⟩ := a
      rw [h1] at h
      dsimp only [Option.bind_some] at h
      cases h2 : num l1 with
      | none => rw [h2] at h; cases h
      | some b =>
        obtain ⟨s, l2⟩ := b
        rw [h2] at h
        dsimp only [Option.bind_some] at h
        split at h
        · cases h
        · rename_i hno
          have hk : isKey k = true := by
            cases hh : isKey k with
            | true => rfl
            | false => exact absurd (.inl hh) hno
          have hlast : ∀ y ∈ P, y.k < k := fun y hy => by
            have hne : P ≠ [] := fun e => by rw [e] at hy; simp at hy
            have hl : P.getLast? = some (P.getLast hne) := List.getLast?_eq_some_getLast hne
            have h3 : (P.getLast hne).k < k := Classical.byContradiction fun h3 => hno (.inr (.inr ⟨_, hl, h3⟩))
            have e := List.dropLast_concat_getLast hne
            rw [← e] at hy hr
            rcases List.mem_append.1 hy with hy | hy
            · exact klt_trans ((List.pairwise_append.1 hr).2.2 y hy _ (by simp)) h3
            · simp at hy; rw [hy]; exact h3
          have hr2 : Rise (P ++ [⟨k, s⟩]) := List.pairwise_append.2 ⟨hr, by simp, fun a ha b hb => by simp at hb; subst hb; exact hlast a ha⟩
          obtain ⟨X, h4, h5, h6, h7, h8⟩ := ih (P ++ [⟨k, s⟩]) l2 K r hr2 h
          refine ⟨⟨k, s⟩ :: X, by simp [h4], by rw [h5]; simp, ?_, h7, fun y hy => ?_⟩
          · rw [txt_fwd h1, num_fwd h2, h6]; simp [encK]
          · rcases List.mem_cons.1 hy with rfl | hy
            · exact ⟨hk, fun e => hno (.inr (.inl e)), num_lt h2⟩
            · exact h8 y hy
theorem encL_lt {x : Lt} (h : x.formed = true) : (encL x).length < 18446744073709551616 := by
  have h1 := encL_length x
  have h2 := formed_le h
  omega
theorem rls_back (own : List UInt8) (K : List La) (hK : ∀ y ∈ K, isKey y.k = true) (hr : Rise K) (X : List Ot) : ∀ P r, (∀ y ∈ X, y.x.ok ∧ y.x.formed = true ∧ y.x.fr = own ∧ hasK K y.to = true) → rls own K X.length P (encY X ++ r) = some (P ++ X, r) := by
  induction X with
  | nil => intro P r _; simp [rls, encY]
  | cons x X ih =>
    intro P r h
    have hx := h x (by simp)
    have hto : x.to.length < 18446744073709551616 := by
      obtain ⟨y, hy, e⟩ := (has_mem hr).1 hx.2.2.2
      have := (isKey_iff _).1 (hK y hy)
      rw [← e]; omega
    have e : encY (x :: X) ++ r = encTx x.to ++ (encTx (encL x.x) ++ (encY X ++ r)) := by simp [encY]
    rw [List.length_cons, rls, e, txt_back x.to hto]
    dsimp only [Option.bind_some]
    rw [txt_back _ (encL_lt hx.2.1)]
    dsimp only [Option.bind_some]
    rw [decL_enc hx.1 hx.2.1]
    dsimp only [Option.bind_some]
    rw [if_neg, ih (P ++ [x]) r (fun y hy => h y (by simp [hy]))]
    · simp
    · rintro (h1 | h1)
      · exact h1 hx.2.2.1
      · rw [hx.2.2.2] at h1; cases h1
/-- What was encoded is decoded as it was. -/
theorem decO_back {o : Ob} (h : GoodO o) : decO (encO o) = some o := by
  obtain ⟨own, K, L⟩ := o
  have hk := (isKey_iff _).1 h.own
  have h1 := h.kn
  have h2 := h.ln
  dsimp only at hk h1 h2
  have hr1 := rks_back K [] (enc L.length ++ encY L) (by simpa using h.rise) h.key
  have hr2 := rls_back own K (fun y hy => (h.key y hy).1) h.rise L [] [] h.lets
  rw [List.append_nil, List.nil_append] at hr2
  rw [List.nil_append] at hr1
  unfold decO encO
  dsimp only
  rw [txt_back own (by omega)]
  dsimp only [Option.bind_some]
  rw [num_back K.length (by unfold U64; omega)]
  dsimp only [Option.bind_some]
  rw [if_neg (by rintro (e | e); rw [h.own] at e; cases e; omega), hr1]
  dsimp only [Option.bind_some]
  rw [num_back L.length (by unfold U64; omega)]
  dsimp only [Option.bind_some]
  rw [if_neg (by omega), hr2]
  dsimp only [Option.bind_some]
  rw [if_pos ⟨rfl, h.ord⟩]
theorem encK_length {K : List La} (h : ∀ y ∈ K, isKey y.k = true) : (encK K).length ≤ 58 * K.length := by
  induction K with
  | nil => simp [encK]
  | cons x K ih =>
    have h1 := (isKey_iff _).1 (h x (by simp))
    have h2 := enc_length x.k.length
    have h3 := enc_length x.s
    have h4 := ih (fun y hy => h y (by simp [hy]))
    have e : encK (x :: K) = encTx x.k ++ enc x.s ++ encK K := by simp [encK]
    rw [e, List.length_append, List.length_append, encTx, List.length_append, List.length_cons]
    omega
theorem encY_length {L : List Ot} (h : ∀ y ∈ L, y.x.formed = true ∧ y.to.length ≤ 40) : (encY L).length ≤ 200 * L.length := by
  induction L with
  | nil => simp [encY]
  | cons x L ih =>
    have h1 := h x (by simp)
    have h2 := formed_le h1.1
    have h3 := encL_length x.x
    have h4 := enc_length x.to.length
    have h5 := enc_length (encL x.x).length
    have h6 := ih (fun y hy => h y (by simp [hy]))
    have e : encY (x :: L) = encTx x.to ++ encTx (encL x.x) ++ encY L := by simp [encY]
    rw [e, List.length_append, List.length_append, encTx, encTx, List.length_append, List.length_append, List.length_cons]
    omega
end Go.Proofs.YtngnenbidpojeaaDoor
/-
  Outboxes, without memory: what a Send and a Pop leave.
-/
namespace Go.Proofs.YtngnenbidpojeaaDoor
set_option maxRecDepth 100000
set_option linter.unusedVariables false
/-- A letter that is sent: the next serial to that key. -/
def sendO (o : Ob) (to : List UInt8) (kind : Int) (args : List Int) : Ob :=
  ⟨o.own, setK o.K to (ser o.K to + 1), o.L ++ [⟨to, ⟨o.own, ser o.K to + 1, kind, args⟩⟩]⟩
theorem GoodO.new {own : List UInt8} (h : isKey own = true) : GoodO ⟨own, [], []⟩ := ⟨h, by simp, by simp, by simp, by simp [Rise], by simp, rfl⟩
theorem ordR_none (k : List UInt8) : ∀ (A : List Ot) (s : Nat), (∀ y ∈ A, y.to ≠ k) → ordR k A s = true
  | [], s, _ => rfl
  | x :: A, s, h => by
    rw [ordR, if_neg (h x (by simp))]
    exact ordR_none k A s fun y hy => h y (by simp [hy])
theorem GoodO.send {o : Ob} (h : GoodO o) {to : List UInt8} {kind : Int} {args : List Int} (hto : isKey to = true) (hk : I64 kind) (ha : ∀ z ∈ args, I64 z) (h4 : args.length ≤ 4) (h32 : o.L.length < 32) (h64 : hasK o.K to = true ∨ o.K.length < 64) (hs : U64 (ser o.K to + 1)) : GoodO (sendO o to kind args) := by
  obtain ⟨own, K, L⟩ := o
  dsimp only at *
  have hown := (isKey_iff _).1 h.own
  have hrise := Rise.setK (to := to) (ser K to + 1) h.rise
  refine ⟨h.own, ?_, ?_, fun y hy => ?_, hrise, fun y hy => ?_, ?_⟩
  · show (setK K to (ser K to + 1)).length ≤ 64
    have := h.kn
    dsimp only at this
    rw [setK_length]
    split
    · exact this
    · rename_i hno
      rcases h64 with h | h
      · exact absurd h hno
      · omega
  · show (L ++ [_]).length ≤ 32
    simp
    omega
  · rcases setK_mem hy with rfl | hy
    · exact ⟨hto, by simp, hs⟩
    · exact h.key y hy
  · show y.x.ok ∧ y.x.formed = true ∧ y.x.fr = own ∧ hasK (setK K to (ser K to + 1)) y.to = true
    rcases List.mem_append.1 hy with hy | hy
    · obtain ⟨i1, i2, i3, i4⟩ := h.lets y hy
      refine ⟨i1, i2, i3, ?_⟩
      by_cases e : y.to = to
      · rw [e]; exact (ser_set_same K to _).2
      · rw [(ser_set_other _ h.rise e).2]; exact i4
    · simp at hy
      subst hy
      refine ⟨⟨hs, hk, ha⟩, ?_, rfl, (ser_set_same K to _).2⟩
      simp [Lt.formed, hown.2, h4]
  · show ordO (setK K to (ser K to + 1)) (L ++ [⟨to, ⟨own, ser K to + 1, kind, args⟩⟩]) = true
    have hord := h.ord
    unfold ordO at hord ⊢
    rw [List.all_eq_true] at hord ⊢
    intro y hy
    rw [List.reverse_append]
    show ordR y.k (⟨to, ⟨own, ser K to + 1, kind, args⟩⟩ :: L.reverse) y.s = true
    rw [ordR]
    dsimp only
    by_cases e : to = y.k
    · rw [if_pos e]
      have hys : y.s = ser K to + 1 := by
        have := ser_mem hrise hy
        rw [← e, (ser_set_same K to _).1] at this
        exact this.symm
      rw [hys]
      have hrest : ordR y.k L.reverse (ser K to) = true := by
        cases hh : hasK K to with
        | true =>
          obtain ⟨z, hz, hzk⟩ := (has_mem h.rise).1 hh
          have := hord z hz
          rw [← ser_mem h.rise hz, hzk] at this
          rw [← e]
          exact this
        | false =>
          refine ordR_none _ _ _ fun z hz e2 => ?_
          have := (h.lets z (by simpa using hz)).2.2.2
          rw [e2, ← e, hh] at this
          cases this
      simp [hrest]
    · rw [if_neg e]
      rcases setK_mem hy with rfl | hy
      · exact absurd rfl e
      · exact hord y hy
end Go.Proofs.YtngnenbidpojeaaDoor
/-
  Letters: what a letter is, its bytes, the letter that bytes begin with; and letters in memory.
-/
namespace Go.Proofs.YtngnenbidpojeaaDoor
open Go.RowKit
set_option linter.unusedVariables false
theorem rt28 : RowT 26 25 4 56 (.agg #[.string ⟨#[]⟩, .int .u64 0, .int .i64 0, .slice none 0 0]) := ⟨Tryd.underlying26, by kernel_rfl, rfl, by omega, by omega⟩
end Go.Proofs.YtngnenbidpojeaaDoor
