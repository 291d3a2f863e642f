import Derived.Test.YtngnenbidpojeaaGreatDoorV04
import Derived.Test.YtngnenbidpojeaaGreatDoorV06
/-
  Decode, and the document's.
-/
namespace Go.Proofs.YtngnenbidpojeaaGreatDoor
set_option maxRecDepth 100000
open Go.RowKit
set_option linter.unusedVariables false
/-- The letter that bytes are, wholly. -/
def decL (l : List UInt8) : Option Lt := if (!(rlet l false).2.2 && (rlet l false).2.1.isEmpty) = true then (rlet l false).1 else none
theorem decL_ok {l : List UInt8} {x : Lt} (h : decL l = some x) : x.ok ∧ x.formed = true := by
  unfold decL at h
  split at h
  · exact rlet_ok h
  · cases h
theorem formed_le {x : Lt} (h : x.formed = true) : x.fr.length ≤ 40 ∧ x.args.length ≤ 4 := by simpa [Lt.formed] using h
/-- What is encoded is decoded as it was. -/
theorem decL_enc {x : Lt} (hx : x.ok) (hf : x.formed = true) : decL (encL x) = some x := by
  have h := rlet_back x hx hf []
  rw [List.append_nil] at h
  unfold decL
  rw [h]
  rfl
/-- What is decoded has just its own bytes. -/
theorem decL_own {l : List UInt8} {x : Lt} (h : decL l = some x) : encL x = l := by
  unfold decL at h
  split at h
  · rename_i hq
    generalize hr : rlet l false = r at h hq
    obtain ⟨r1, r2, r3⟩ := r
    dsimp only at h hq
    subst h
    simp at hq
    obtain ⟨rfl, rfl⟩ := hq
    have := (rlet_fwd hr).2
    rw [this, List.append_nil]
  · cases h
/-- What Decode answers. -/
def DecAt (w : World) (l : List UInt8) (e : Ending) (w' : World) : Prop :=
  ∃ (a : Option Addr) (c : Nat), e = .returned (.tuple #[Lv ((decL l).getD default) a c, .int .i64 (if (decL l).isSome = true then 0 else 2)]) ∧ OwnsJ w' (.slice a ((decL l).getD default).args.length c) ((decL l).getD default).args ∧ Kept [] w w' ∧ Fresh w (.slice a ((decL l).getD default).args.length c)
theorem decAt_none {w w' : World} {l : List UInt8} (h : decL l = none) (k : Kept [] w w') : DecAt w l (.returned (.tuple #[Lv ⟨[], 0, 0, []⟩ none 0, .int .i64 2])) w' := by
  unfold DecAt
  rw [h]
  exact ⟨none, 0, rfl, OwnsJ.nil w', k, fresh_nil w 0⟩
theorem decAt_some {w w' : World} {l : List UInt8} {x : Lt} {a : Option Addr} {c : Nat} (h : decL l = some x) (ho : OwnsJ w' (.slice a x.args.length c) x.args) (k : Kept [] w w') (hf : Fresh w (.slice a x.args.length c)) : DecAt w l (.returned (.tuple #[Lv x a c, .int .i64 0])) w' := by
  unfold DecAt
  rw [h]
  exact ⟨a, c, rfl, ho, k, hf⟩
section
variable {w : World}
end
end Go.Proofs.YtngnenbidpojeaaGreatDoor
/-
  Numbers, texts and integers that bytes begin with, as options; without memory.
-/
namespace Go.Proofs.YtngnenbidpojeaaGreatDoor
set_option maxRecDepth 100000
set_option linter.unusedVariables false
def U64 (n : Nat) : Prop := n < 18446744073709551616
/-- The number that bytes begin with, and what is left. -/
def num (l : List UInt8) : Option (Nat × List UInt8) := if (dec l).2 = 0 then none else some ((dec l).1, l.drop (dec l).2)
theorem num_none {l : List UInt8} (h : num l = none) : rnum l false = (0, [], true) := by
  unfold num at h
  unfold rnum
  split at h
  · rename_i h0; rw [if_pos h0]
  · cases h
theorem num_some {l r : List UInt8} {n : Nat} (h : num l = some (n, r)) : rnum l false = (n, r, false) := by
  unfold num at h
  unfold rnum
  split at h
  · cases h
  · rename_i h0
    rw [if_neg h0]
    simp only [Option.some.injEq, Prod.mk.injEq] at h
    rw [h.1, h.2]
theorem num_lt {l r : List UInt8} {n : Nat} (h : num l = some (n, r)) : U64 n := by
  have := rnum_lt l false
  rw [num_some h] at this
  exact this
theorem num_fwd {l r : List UInt8} {n : Nat} (h : num l = some (n, r)) : l = enc n ++ r := by
  have := (rnum_fwd (l := l) (bad := false) (by rw [num_some h])).2
  rw [num_some h] at this
  exact this
theorem num_back (n : Nat) (h : U64 n) (r : List UInt8) : num (enc n ++ r) = some (n, r) := by
  have h1 := dec_enc n h r
  unfold num
  rw [h1, if_neg (by have := enc_length n; show (enc n).length ≠ 0; omega)]
  simp
theorem rnum_bad2 : rnum [] true = (0, [], true) := rfl
/-- A text's bytes. -/
def encTx (t : List UInt8) : List UInt8 := enc t.length ++ t
/-- The text that bytes begin with. -/
def txt (l : List UInt8) : Option (List UInt8 × List UInt8) := (num l).bind fun x => if x.2.length < x.1 then none else some (x.2.take x.1, x.2.drop x.1)
theorem txt_none {l : List UInt8} (h : txt l = none) : rtext l false = ([], [], true) := by
  unfold txt at h
  unfold rtext
  cases hn : num l with
  | none =>
    rw [num_none hn]
    rfl
  | some x =>
    obtain ⟨n, r⟩ := x
    rw [hn] at h
    dsimp only [Option.bind_some] at h
    rw [num_some hn]
    split at h
    · rename_i h0; rw [if_pos h0]
    · cases h
theorem txt_some {l r t : List UInt8} (h : txt l = some (t, r)) : rtext l false = (t, r, false) := by
  unfold txt at h
  unfold rtext
  cases hn : num l with
  | none => rw [hn] at h; cases h
  | some x =>
    obtain ⟨n, q⟩ := x
    rw [hn] at h
    dsimp only [Option.bind_some] at h
    rw [num_some hn]
    split at h
    · cases h
    · rename_i h0
      simp only [Option.some.injEq, Prod.mk.injEq] at h
      rw [if_neg h0]
      rw [h.1, h.2]
theorem txt_fwd {l r t : List UInt8} (h : txt l = some (t, r)) : l = encTx t ++ r := by
  have := (rtext_fwd (l := l) (bad := false) (by rw [txt_some h])).2
  rw [txt_some h] at this
  unfold encTx
  rw [List.append_assoc]
  exact this
theorem txt_back (t : List UInt8) (h : t.length < 18446744073709551616) (r : List UInt8) : txt (encTx t ++ r) = some (t, r) := by
  unfold txt encTx
  rw [List.append_assoc, num_back t.length h]
  dsimp only [Option.bind_some]
  rw [if_neg (by simp)]
  simp
/-- The integer that bytes begin with. -/
def int (l : List UInt8) : Option (Int × List UInt8) := (num l).map fun x => (unfold x.1, x.2)
theorem int_none {l : List UInt8} (h : int l = none) : num l = none := by
  unfold int at h
  cases hn : num l with
  | none => rfl
  | some x => rw [hn] at h; cases h
theorem int_some {l r : List UInt8} {z : Int} (h : int l = some (z, r)) : rnum l false = (fold z, r, false) ∧ unfold (fold z) = z ∧ I64 z := by
  unfold int at h
  cases hn : num l with
  | none => rw [hn] at h; cases h
  | some x =>
    obtain ⟨n, q⟩ := x
    rw [hn] at h
    simp only [Option.map_some, Option.some.injEq, Prod.mk.injEq] at h
    obtain ⟨rfl, rfl⟩ := h
    rw [fold_unfold]
    exact ⟨num_some hn, rfl, unfold_I64 n (num_lt hn)⟩
theorem int_fwd {l r : List UInt8} {z : Int} (h : int l = some (z, r)) : l = enc (fold z) ++ r := by
  have := (rnum_fwd (l := l) (bad := false) (by rw [(int_some h).1])).2
  rw [(int_some h).1] at this
  exact this
theorem int_back (z : Int) (h : I64 z) (r : List UInt8) : int (enc (fold z) ++ r) = some (z, r) := by
  unfold int
  rw [num_back _ (fold_lt z h.1 h.2)]
  simp [unfold_fold]
end Go.Proofs.YtngnenbidpojeaaGreatDoor
/-
  Outboxes, without memory: keys and their serials, an outbox' bytes, the outbox that bytes are.
-/
namespace Go.Proofs.YtngnenbidpojeaaGreatDoor
set_option maxRecDepth 100000
set_option linter.unusedVariables false
/-- A letter on its way. -/
structure Ot where
  to : List UInt8
  x : Lt
instance : Inhabited Ot := ⟨⟨[], default⟩⟩
/-- A key and the last serial to it. -/
structure La where
  k : List UInt8
  s : Nat
instance : Inhabited La := ⟨⟨[], 0⟩⟩
/-- An outbox. -/
structure Ob where
  own : List UInt8
  K : List La
  L : List Ot
def isKey (k : List UInt8) : Bool := decide (1 ≤ k.length) && decide (k.length ≤ 40)
theorem isKey_iff (k : List UInt8) : isKey k = true ↔ 1 ≤ k.length ∧ k.length ≤ 40 := by simp [isKey]
/-- How many keys are less. -/
def pla : List La → List UInt8 → Nat
  | [], _ => 0
  | y :: K, to => if y.k < to then pla K to + 1 else 0
/-- Whether it ever sent to a key. -/
def hasK : List La → List UInt8 → Bool
  | [], _ => false
  | y :: K, to => if y.k < to then hasK K to else decide (y.k = to)
/-- The last serial to a key. -/
def ser : List La → List UInt8 → Nat
  | [], _ => 0
  | y :: K, to => if y.k < to then ser K to else if y.k = to then y.s else 0
/-- Another last serial. -/
def setK : List La → List UInt8 → Nat → List La
  | [], to, s => [⟨to, s⟩]
  | y :: K, to, s => if y.k < to then y :: setK K to s else if y.k = to then ⟨to, s⟩ :: K else ⟨to, s⟩ :: y :: K
theorem pla_le (K : List La) (to : List UInt8) : pla K to ≤ K.length := by
  induction K with
  | nil => simp [pla]
  | cons y K ih => rw [pla]; split <;> simp; omega
theorem pla_lt : ∀ {K : List La} {to : List UInt8} {j : Nat} {y : La}, K[j]? = some y → j < pla K to → y.k < to
  | [], to, j, y, hj, h => by simp at hj
  | x :: K, to, 0, y, hj, h => by
    simp at hj
    subst hj
    rw [pla] at h
    split at h
    · assumption
    · omega
  | x :: K, to, j + 1, y, hj, h => by
    rw [pla] at h
    split at h
    · exact pla_lt (K := K) (by simpa using hj) (by omega)
    · omega
theorem pla_at : ∀ {K : List La} {to : List UInt8} {y : La}, K[pla K to]? = some y → ¬ y.k < to
  | [], to, y, h => by simp at h
  | x :: K, to, y, h => by
    rw [pla] at h
    split at h
    · exact pla_at (K := K) (by simpa using h)
    · rename_i hx
      simp at h
      subst h
      exact hx
theorem has_at : ∀ {K : List La} {to : List UInt8}, hasK K to = true → ∃ s, K[pla K to]? = some ⟨to, s⟩ ∧ ser K to = s
  | [], to, h => by simp [hasK] at h
  | x :: K, to, h => by
    rw [hasK] at h
    rw [pla, ser]
    split at h
    · rename_i hx
      rw [if_pos hx, if_pos hx]
      obtain ⟨s, h1, h2⟩ := has_at h
      exact ⟨s, by simpa using h1, h2⟩
    · rename_i hx
      rw [if_neg hx, if_neg hx]
      have hk : x.k = to := by simpa using h
      rw [if_pos hk]
      obtain ⟨k, s⟩ := x
      dsimp only at hk
      subst hk
      exact ⟨s, rfl, rfl⟩
theorem has_not : ∀ {K : List La} {to : List UInt8}, hasK K to = false → ser K to = 0 ∧ ∀ y, K[pla K to]? = some y → y.k ≠ to
  | [], to, h => ⟨rfl, by simp⟩
  | x :: K, to, h => by
    rw [hasK] at h
    rw [pla, ser]
    split at h
    · rename_i hx
      rw [if_pos hx, if_pos hx]
      obtain ⟨h1, h2⟩ := has_not h
      exact ⟨h1, fun y hy => h2 y (by simpa using hy)⟩
    · rename_i hx
      rw [if_neg hx, if_neg hx]
      have hk : x.k ≠ to := by simpa using h
      rw [if_neg hk]
      exact ⟨rfl, fun y hy => by simp at hy; subst hy; exact hk⟩
theorem setK_has : ∀ {K : List La} {to : List UInt8} (s : Nat), hasK K to = true → setK K to s = K.set (pla K to) ⟨to, s⟩
  | [], to, s, h => by simp [hasK] at h
  | x :: K, to, s, h => by
    rw [hasK] at h
    rw [setK, pla]
    split at h
    · rename_i hx
      rw [if_pos hx, if_pos hx, List.set_cons_succ, setK_has s h]
    · rename_i hx
      rw [if_neg hx, if_neg hx, if_pos (by simpa using h)]
      rfl
theorem setK_new : ∀ {K : List La} {to : List UInt8} (s : Nat), hasK K to = false → setK K to s = K.take (pla K to) ++ ⟨to, s⟩ :: K.drop (pla K to)
  | [], to, s, h => rfl
  | x :: K, to, s, h => by
    rw [hasK] at h
    rw [setK, pla]
    split at h
    · rename_i hx
      rw [if_pos hx, if_pos hx, setK_new s h]
      rfl
    · rename_i hx
      rw [if_neg hx, if_neg hx, if_neg (by simpa using h)]
      rfl
/-- Keys rise. -/
def Rise (K : List La) : Prop := K.Pairwise fun a b => a.k < b.k
theorem klt_trans {a b c : List UInt8} (h : a < b) (k : b < c) : a < c := List.lt_trans h k
theorem klt_irrefl (a : List UInt8) : ¬ a < a := List.lt_irrefl a
theorem klt_tri : ∀ {a b : List UInt8}, ¬ a < b → a ≠ b → b < a
  | [], [], _, k => absurd rfl k
  | [], y :: b, h, _ => absurd (by simp) h
  | x :: a, [], _, _ => by simp
  | x :: a, y :: b, h, k => by
    rw [List.cons_lt_cons_iff] at h ⊢
    by_cases hxy : x = y
    · subst hxy
      exact .inr ⟨rfl, klt_tri (fun h' => h (.inr ⟨rfl, h'⟩)) (fun e => k (by rw [e]))⟩
    · refine .inl ?_
      have h1 : ¬ x < y := fun h' => h (.inl h')
      have h2 : x.toNat ≠ y.toNat := fun e => hxy (UInt8.toNat_inj.1 e)
      rw [UInt8.lt_iff_toNat_lt] at h1 ⊢
      omega
theorem has_mem : ∀ {K : List La} {to : List UInt8}, Rise K → (hasK K to = true ↔ ∃ y ∈ K, y.k = to)
  | [], to, _ => by simp [hasK]
  | x :: K, to, hr => by
    obtain ⟨h1, h2⟩ := List.pairwise_cons.1 hr
    rw [hasK]
    by_cases hx : x.k < to
    · rw [if_pos hx, has_mem h2]
      constructor
      · rintro ⟨y, hy, e⟩; exact ⟨y, by simp [hy], e⟩
      · rintro ⟨y, hy, e⟩
        rcases List.mem_cons.1 hy with rfl | hy
        · rw [e] at hx; exact absurd hx (klt_irrefl _)
        · exact ⟨y, hy, e⟩
    · rw [if_neg hx]
      constructor
      · intro h; exact ⟨x, by simp, by simpa using h⟩
      · rintro ⟨y, hy, e⟩
        rcases List.mem_cons.1 hy with rfl | hy
        · simpa using e
        · have := h1 y hy; rw [e] at this; exact absurd this hx
theorem ser_mem : ∀ {K : List La} {y : La}, Rise K → y ∈ K → ser K y.k = y.s
  | x :: K, y, hr, hy => by
    obtain ⟨h1, h2⟩ := List.pairwise_cons.1 hr
    rw [ser]
    rcases List.mem_cons.1 hy with rfl | hy
    · rw [if_neg (klt_irrefl _), if_pos rfl]
    · rw [if_pos (h1 y hy), ser_mem h2 hy]
theorem setK_mem : ∀ {K : List La} {to : List UInt8} {s : Nat} {y : La}, y ∈ setK K to s → y = ⟨to, s⟩ ∨ y ∈ K
  | [], to, s, y, h => by simp [setK] at h; exact .inl h
  | x :: K, to, s, y, h => by
    rw [setK] at h
    split at h
    · rcases List.mem_cons.1 h with rfl | h
      · exact .inr (by simp)
      · rcases setK_mem h with h | h
        · exact .inl h
        · exact .inr (by simp [h])
    · split at h
      · rcases List.mem_cons.1 h with h | h
        · exact .inl h
        · exact .inr (by simp [h])
      · rcases List.mem_cons.1 h with h | h
        · exact .inl h
        · exact .inr h
theorem Rise.setK : ∀ {K : List La} {to : List UInt8} (s : Nat), Rise K → Rise (setK K to s)
  | [], to, s, _ => by simp [YtngnenbidpojeaaGreatDoor.setK, Rise]
  | x :: K, to, s, hr => by
    obtain ⟨h1, h2⟩ := List.pairwise_cons.1 hr
    rw [YtngnenbidpojeaaGreatDoor.setK]
    split
    · rename_i hx
      refine List.pairwise_cons.2 ⟨fun y hy => ?_, Rise.setK s h2⟩
      rcases setK_mem hy with rfl | hy
      · exact hx
      · exact h1 y hy
    · rename_i hx
      split
      · rename_i hk
        exact List.pairwise_cons.2 ⟨fun y hy => by have := h1 y hy; rw [hk] at this; exact this, h2⟩
      · rename_i hk
        have hlt := klt_tri hx hk
        refine List.pairwise_cons.2 ⟨fun y hy => ?_, hr⟩
        rcases List.mem_cons.1 hy with rfl | hy
        · exact hlt
        · exact klt_trans hlt (h1 y hy)
theorem ser_set_same : ∀ (K : List La) (to : List UInt8) (s : Nat), ser (setK K to s) to = s ∧ hasK (setK K to s) to = true
  | [], to, s => by simp [setK, ser, hasK, klt_irrefl]
  | x :: K, to, s => by
    rw [setK]
    split
    · rename_i hx
      rw [ser, if_pos hx, hasK, if_pos hx]
      exact ser_set_same K to s
    · split <;> simp [ser, hasK, klt_irrefl]
theorem ser_set_other : ∀ {K : List La} {to to' : List UInt8} (s : Nat), Rise K → to' ≠ to → ser (setK K to s) to' = ser K to' ∧ hasK (setK K to s) to' = hasK K to'
  | [], to, to', s, _, hn => by
    simp only [setK, ser, hasK]
    by_cases h : to < to'
    · simp [h]
    · simp [h, Ne.symm hn]
  | x :: K, to, to', s, hr, hn => by
    obtain ⟨h1, h2⟩ := List.pairwise_cons.1 hr
    rw [setK]
    by_cases hx : x.k < to
    · rw [if_pos hx, ser, ser, hasK, hasK]
      have := ser_set_other s h2 hn
      rw [this.1, this.2]
      exact ⟨rfl, rfl⟩
    · rw [if_neg hx]
      by_cases hk : x.k = to
      · rw [if_pos hk, ser, ser, hasK, hasK, hk]
        dsimp only
        rw [if_neg (Ne.symm hn), if_neg (Ne.symm hn)]
        exact ⟨rfl, rfl⟩
      · rw [if_neg hk]
        by_cases ht : to < to'
        · rw [ser, if_pos ht, hasK, if_pos ht]
          exact ⟨rfl, rfl⟩
        · have hlt := klt_tri hx hk
          have hxn : ¬ x.k < to' := fun h => ht (klt_trans hlt h)
          have hxe : x.k ≠ to' := fun h => ht (by rw [← h]; exact hlt)
          rw [ser, if_neg ht, if_neg (Ne.symm hn), hasK, if_neg ht, ser, if_neg hxn, if_neg hxe, hasK, if_neg hxn]
          simp [hxe, Ne.symm hn]
theorem setK_length : ∀ (K : List La) (to : List UInt8) (s : Nat), (setK K to s).length = if hasK K to = true then K.length else K.length + 1
  | [], to, s => rfl
  | x :: K, to, s => by
    rw [setK, hasK]
    by_cases hx : x.k < to
    · rw [if_pos hx, if_pos hx, List.length_cons, setK_length K to s]
      split <;> simp
    · rw [if_neg hx, if_neg hx]
      by_cases hk : x.k = to
      · simp [hk]
      · simp [hk]
/-- The letters to one key, from the last one back, have the serials s, s - 1 and so on. -/
def ordR (k : List UInt8) : List Ot → Nat → Bool
  | [], _ => true
  | y :: t, s => if y.to = k then decide (s ≠ 0) && decide (y.x.ser = s) && ordR k t (s - 1) else ordR k t s
def ordO (K : List La) (L : List Ot) : Bool := K.all fun y => ordR y.k L.reverse y.s
/-- What an outbox may be. -/
structure GoodO (o : Ob) : Prop where
  own : isKey o.own = true
  kn : o.K.length ≤ 64
  ln : o.L.length ≤ 32
  key : ∀ y ∈ o.K, isKey y.k = true ∧ y.s ≠ 0 ∧ U64 y.s
  rise : Rise o.K
  lets : ∀ y ∈ o.L, y.x.ok ∧ y.x.formed = true ∧ y.x.fr = o.own ∧ hasK o.K y.to = true
  ord : ordO o.K o.L = true
def encK (K : List La) : List UInt8 := K.flatMap fun y => encTx y.k ++ enc y.s
def encY (L : List Ot) : List UInt8 := L.flatMap fun y => encTx y.to ++ encTx (encL y.x)
/-- An outbox' bytes. -/
def encO (o : Ob) : List UInt8 := encTx o.own ++ (enc o.K.length ++ (encK o.K ++ (enc o.L.length ++ encY o.L)))
/-- n keys more. -/
def rks : Nat → List La → List UInt8 → Option (List La × List UInt8)
  | 0, K, l => some (K, l)
  | n + 1, K, l => (txt l).bind fun a => (num a.2).bind fun b => if isKey a.1 = false ∨ b.1 = 0 ∨ ∃ y ∈ K.getLast?, ¬ y.k < a.1 then none else rks n (K ++ [⟨a.1, b.1⟩]) b.2
/-- n letters more. -/
def rls (own : List UInt8) (K : List La) : Nat → List Ot → List UInt8 → Option (List Ot × List UInt8)
  | 0, L, l => some (L, l)
  | n + 1, L, l => (txt l).bind fun a => (txt a.2).bind fun b => (decL b.1).bind fun x => if x.fr ≠ own ∨ hasK K a.1 = false then none else rls own K n (L ++ [⟨a.1, x⟩]) b.2
/-- The outbox that bytes are. -/
def decO (l : List UInt8) : Option Ob :=
  (txt l).bind fun a => (num a.2).bind fun b => if isKey a.1 = false ∨ 64 < b.1 then none else
    (rks b.1 [] b.2).bind fun c => (num c.2).bind fun d => if 32 < d.1 then none else
      (rls a.1 c.1 d.1 [] d.2).bind fun e => if e.2 = [] ∧ ordO c.1 e.1 = true then some ⟨a.1, c.1, e.1⟩ else none
theorem rks_back (X : List La) : ∀ P r, Rise (P ++ X) → (∀ y ∈ X, isKey y.k = true ∧ y.s ≠ 0 ∧ U64 y.s) → rks X.length P (encK X ++ r) = some (P ++ X, r) := by
  induction X with
  | nil => intro P r _ _; simp [rks, encK]
  | cons x X ih =>
    intro P r hr h
    have hx := h x (by simp)
    have hk := (isKey_iff _).1 hx.1
    have e : encK (x :: X) ++ r = encTx x.k ++ (enc x.s ++ (encK X ++ r)) := by simp [encK]
    rw [List.length_cons, rks, e, txt_back x.k (by omega)]
    dsimp only [Option.bind_some]
    rw [num_back x.s hx.2.2]
    dsimp only [Option.bind_some]
    rw [if_neg, ih (P ++ [x]) r (by simpa using hr) (fun y hy => h y (by simp [hy]))]
    · simp
    · rintro (h1 | h1 | ⟨y, hy, h1⟩)
      · rw [hx.1] at h1; cases h1
      · exact hx.2.1 h1
      · exact h1 ((List.pairwise_append.1 hr).2.2 y (List.mem_of_getLast? hy) x (by simp))
theorem rks_fwd (n : Nat) : ∀ P l K r, Rise P → rks n P l = some (K, r) → ∃ X, X.length = n ∧ K = P ++ X ∧ l = encK X ++ r ∧ Rise K ∧ ∀ y ∈ X, isKey y.k = true ∧ y.s ≠ 0 ∧ U64 y.s := by
  induction n with
  | zero =>
    intro P l K r hr h
    simp only [rks, Option.some.injEq, Prod.mk.injEq] at h
    obtain ⟨rfl, rfl⟩ := h
    exact ⟨[], rfl, by simp, by simp [encK], hr, by simp⟩
  | succ n ih =>
    intro P l K r hr h
    rw [rks] at h
    cases h1 : txt l with
    | none => rw [h1] at h; cases h
    | some a =>
      obtain ⟨k, l1⟩ := a
      rw [h1] at h
      dsimp only [Option.bind_some] at h
      cases h2 : num l1 with
      | none => rw [h2] at h; cases h
      | some b =>
        obtain ⟨s, l2⟩ := b
        rw [h2] at h
        dsimp only [Option.bind_some] at h
        split at h
        · cases h
        · rename_i hno
          have hk : isKey k = true := by
            cases hh : isKey k with
            | true => rfl
            | false => exact absurd (.inl hh) hno
          have hlast : ∀ y ∈ P, y.k < k := fun y hy => by
            have hne : P ≠ [] := fun e => by rw [e] at hy; simp at hy
            have hl : P.getLast? = some (P.getLast hne) := List.getLast?_eq_some_getLast hne
            have h3 : (P.getLast hne).k < k := Classical.byContradiction fun h3 => hno (.inr (.inr ⟨_, hl, h3⟩))
            have e := List.dropLast_concat_getLast hne
            rw [← e] at hy hr
            rcases List.mem_append.1 hy with hy | hy
            · exact klt_trans ((List.pairwise_append.1 hr).2.2 y hy _ (by simp)) h3
            · simp at hy; rw [hy]; exact h3
          have hr2 : Rise (P ++ [⟨k, s⟩]) := List.pairwise_append.2 ⟨hr, by simp, fun a ha b hb => by simp at hb; subst hb; exact hlast a ha⟩
          obtain ⟨X, h4, h5, h6, h7, h8⟩ := ih (P ++ [⟨k, s⟩]) l2 K r hr2 h
          refine ⟨⟨k, s⟩ :: X, by simp [h4], by rw [h5]; simp, ?_, h7, fun y hy => ?_⟩
          · rw [txt_fwd h1, num_fwd h2, h6]; simp [encK]
          · rcases List.mem_cons.1 hy with rfl | hy
            · exact ⟨hk, fun e => hno (.inr (.inl e)), num_lt h2⟩
            · exact h8 y hy
theorem encL_lt {x : Lt} (h : x.formed = true) : (encL x).length < 18446744073709551616 := by
  have h1 := encL_length x
  have h2 := formed_le h
  omega
theorem rls_back (own : List UInt8) (K : List La) (hK : ∀ y ∈ K, isKey y.k = true) (hr : Rise K) (X : List Ot) : ∀ P r, (∀ y ∈ X, y.x.ok ∧ y.x.formed = true ∧ y.x.fr = own ∧ hasK K y.to = true) → rls own K X.length P (encY X ++ r) = some (P ++ X, r) := by
  induction X with
  | nil => intro P r _; simp [rls, encY]
  | cons x X ih =>
    intro P r h
    have hx := h x (by simp)
    have hto : x.to.length < 18446744073709551616 := by
      obtain ⟨y, hy, e⟩ := (has_mem hr).1 hx.2.2.2
      have := (isKey_iff _).1 (hK y hy)
      rw [← e]; omega
    have e : encY (x :: X) ++ r = encTx x.to ++ (encTx (encL x.x) ++ (encY X ++ r)) := by simp [encY]
    rw [List.length_cons, rls, e, txt_back x.to hto]
    dsimp only [Option.bind_some]
    rw [txt_back _ (encL_lt hx.2.1)]
    dsimp only [Option.bind_some]
    rw [decL_enc hx.1 hx.2.1]
    dsimp only [Option.bind_some]
    rw [if_neg, ih (P ++ [x]) r (fun y hy => h y (by simp [hy]))]
    · simp
    · rintro (h1 | h1)
      · exact h1 hx.2.2.1
      · rw [hx.2.2.2] at h1; cases h1
theorem rls_fwd (own : List UInt8) (K : List La) (n : Nat) : ∀ P l L r, rls own K n P l = some (L, r) → ∃ X, X.length = n ∧ L = P ++ X ∧ l = encY X ++ r ∧ ∀ y ∈ X, y.x.ok ∧ y.x.formed = true ∧ y.x.fr = own ∧ hasK K y.to = true := by
  induction n with
  | zero =>
    intro P l L r h
    simp only [rls, Option.some.injEq, Prod.mk.injEq] at h
    obtain ⟨rfl, rfl⟩ := h
    exact ⟨[], rfl, by simp, by simp [encY], by simp⟩
  | succ n ih =>
    intro P l L r h
    rw [rls] at h
    cases h1 : txt l with
    | none => rw [h1] at h; cases h
    | some a =>
      obtain ⟨k, l1⟩ := a
      rw [h1] at h
      dsimp only [Option.bind_some] at h
      cases h2 : txt l1 with
      | none => rw [h2] at h; cases h
      | some b =>
        obtain ⟨t, l2⟩ := b
        rw [h2] at h
        dsimp only [Option.bind_some] at h
        cases h3 : decL t with
        | none => rw [h3] at h; cases h
        | some x =>
          rw [h3] at h
          dsimp only [Option.bind_some] at h
          split at h
          · cases h
          · rename_i hno
            obtain ⟨X, h4, h5, h6, h7⟩ := ih (P ++ [⟨k, x⟩]) l2 L r h
            refine ⟨⟨k, x⟩ :: X, by simp [h4], by rw [h5]; simp, ?_, fun y hy => ?_⟩
            · rw [txt_fwd h1, txt_fwd h2, h6, ← decL_own h3]; simp [encY]
            · rcases List.mem_cons.1 hy with rfl | hy
              · refine ⟨(decL_ok h3).1, (decL_ok h3).2, Classical.byContradiction fun e => hno (.inl e), ?_⟩
                cases hh : hasK K k with
                | true => rfl
                | false => exact absurd (.inr hh) hno
              · exact h7 y hy
/-- What was encoded is decoded as it was. -/
theorem decO_back {o : Ob} (h : GoodO o) : decO (encO o) = some o := by
  obtain ⟨own, K, L⟩ := o
  have hk := (isKey_iff _).1 h.own
  have h1 := h.kn
  have h2 := h.ln
  dsimp only at hk h1 h2
  have hr1 := rks_back K [] (enc L.length ++ encY L) (by simpa using h.rise) h.key
  have hr2 := rls_back own K (fun y hy => (h.key y hy).1) h.rise L [] [] h.lets
  rw [List.append_nil, List.nil_append] at hr2
  rw [List.nil_append] at hr1
  unfold decO encO
  dsimp only
  rw [txt_back own (by omega)]
  dsimp only [Option.bind_some]
  rw [num_back K.length (by unfold U64; omega)]
  dsimp only [Option.bind_some]
  rw [if_neg (by rintro (e | e); rw [h.own] at e; cases e; omega), hr1]
  dsimp only [Option.bind_some]
  rw [num_back L.length (by unfold U64; omega)]
  dsimp only [Option.bind_some]
  rw [if_neg (by omega), hr2]
  dsimp only [Option.bind_some]
  rw [if_pos ⟨rfl, h.ord⟩]
/-- What is decoded has just these bytes, and is good. -/
theorem decO_fwd {l : List UInt8} {o : Ob} (h : decO l = some o) : encO o = l ∧ GoodO o := by
  unfold decO at h
  cases h1 : txt l with
  | none => rw [h1] at h; cases h
  | some a =>
    obtain ⟨own, l1⟩ := a
    rw [h1] at h
    dsimp only [Option.bind_some] at h
    cases h2 : num l1 with
    | none => rw [h2] at h; cases h
    | some b =>
      obtain ⟨n, l2⟩ := b
      rw [h2] at h
      dsimp only [Option.bind_some] at h
      split at h
      · cases h
      · rename_i hno
        cases h3 : rks n [] l2 with
        | none => rw [h3] at h; cases h
        | some c =>
          obtain ⟨K, l3⟩ := c
          rw [h3] at h
          dsimp only [Option.bind_some] at h
          cases h4 : num l3 with
          | none => rw [h4] at h; cases h
          | some d =>
            obtain ⟨m, l4⟩ := d
            rw [h4] at h
            dsimp only [Option.bind_some] at h
            split at h
            · cases h
            · rename_i hm
              cases h5 : rls own K m [] l4 with
              | none => rw [h5] at h; cases h
              | some e =>
                obtain ⟨L, l5⟩ := e
                rw [h5] at h
                dsimp only [Option.bind_some] at h
                split at h
                · rename_i hend
                  simp only [Option.some.injEq] at h
                  subst h
                  obtain ⟨X, x1, x2, x3, x4, x5⟩ := rks_fwd n [] l2 K l3 (by simp [Rise]) h3
                  obtain ⟨Y, y1, y2, y3, y4⟩ := rls_fwd own K m [] l4 L l5 h5
                  rw [List.nil_append] at x2 y2
                  subst x2 y2
                  rw [hend.1, List.append_nil] at y3
                  have hown : isKey own = true := by
                    cases hh : isKey own with
                    | true => rfl
                    | false => exact absurd (.inl hh) hno
                  refine ⟨?_, hown, by show K.length ≤ 64; omega, by show L.length ≤ 32; omega, x5, x4, y4, hend.2⟩
                  unfold encO
                  dsimp only
                  rw [txt_fwd h1, num_fwd h2, x3, num_fwd h4, y3, x1, y1]
                · cases h
theorem encK_length {K : List La} (h : ∀ y ∈ K, isKey y.k = true) : (encK K).length ≤ 58 * K.length := by
  induction K with
  | nil => simp [encK]
  | cons x K ih =>
    have h1 := (isKey_iff _).1 (h x (by simp))
    have h2 := enc_length x.k.length
    have h3 := enc_length x.s
    have h4 := ih (fun y hy => h y (by simp [hy]))
    have e : encK (x :: K) = encTx x.k ++ enc x.s ++ encK K := by simp [encK]
    rw [e, List.length_append, List.length_append, encTx, List.length_append, List.length_cons]
    omega
theorem encY_length {L : List Ot} (h : ∀ y ∈ L, y.x.formed = true ∧ y.to.length ≤ 40) : (encY L).length ≤ 200 * L.length := by
  induction L with
  | nil => simp [encY]
  | cons x L ih =>
    have h1 := h x (by simp)
    have h2 := formed_le h1.1
    have h3 := encL_length x.x
    have h4 := enc_length x.to.length
    have h5 := enc_length (encL x.x).length
    have h6 := ih (fun y hy => h y (by simp [hy]))
    have e : encY (x :: L) = encTx x.to ++ encTx (encL x.x) ++ encY L := by simp [encY]
    rw [e, List.length_append, List.length_append, encTx, encTx, List.length_append, List.length_append, List.length_cons]
    omega
end Go.Proofs.YtngnenbidpojeaaGreatDoor
