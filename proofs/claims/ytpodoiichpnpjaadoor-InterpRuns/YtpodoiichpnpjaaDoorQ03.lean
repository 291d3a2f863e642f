import Derived.Lib.ItoaMem
import Derived.Lib.ParseIntBTie
import Derived.Lib.CutLaws
import Derived.Test.YtpodoiichpnpjaaDoorQ02
/-
  Letters, numbers, programs as lists, without memory: their texts and bytes, there and back.
-/
namespace Go.Proofs.YtpodoiichpnpjaaDoor
set_option linter.unusedVariables false
/-- An integer of 64 bits. -/
def I64 (z : Int) : Prop := -9223372036854775808 ≤ z ∧ z ≤ 9223372036854775807
/-- A letter. -/
structure Lt where
  fr : List UInt8
  ser : Nat
  kind : Int
  args : List Int
instance : Inhabited Lt := ⟨⟨[], 0, 0, []⟩⟩
/-- Its numbers are of 64 bits. -/
structure Lt.ok (x : Lt) : Prop where
  ser : x.ser < 18446744073709551616
  kind : I64 x.kind
  args : ∀ z ∈ x.args, I64 z
/-- It keeps the limits. -/
def Lt.formed (x : Lt) : Bool := decide (x.fr.length ≤ 40) && decide (x.args.length ≤ 4)
/-- Integers' bytes. -/
def encJ (l : List Int) : List UInt8 := l.flatMap fun z => enc (fold z)
/-- A letter's bytes. -/
def encL (x : Lt) : List UInt8 := enc x.fr.length ++ x.fr ++ enc x.ser ++ enc (fold x.kind) ++ enc x.args.length ++ encJ x.args
theorem encJ_append (a b : List Int) : encJ (a ++ b) = encJ a ++ encJ b := by simp [encJ]
theorem encJ_length (l : List Int) : l.length ≤ (encJ l).length ∧ (encJ l).length ≤ 9 * l.length := by
  induction l with
  | nil => simp [encJ]
  | cons z l ih =>
    have h := enc_length (fold z)
    have e : encJ (z :: l) = enc (fold z) ++ encJ l := rfl
    rw [e, List.length_append, List.length_cons]
    omega
theorem encL_length (x : Lt) : (encL x).length ≤ x.fr.length + 9 * x.args.length + 36 := by
  have h1 := enc_length x.fr.length
  have h2 := enc_length x.ser
  have h3 := enc_length (fold x.kind)
  have h4 := enc_length x.args.length
  have h5 := encJ_length x.args
  simp only [encL, List.length_append]
  omega
/-- n integers that bytes begin with. -/
def rints : Nat → List UInt8 → Bool → List Int × List UInt8 × Bool
  | 0, l, bad => ([], l, bad)
  | n + 1, l, bad =>
    let r := rints n (rnum l bad).2.1 (rnum l bad).2.2
    (unfold (rnum l bad).1 :: r.1, r.2.1, r.2.2)
/-- The head of a letter: From, Serial, Kind, how many Args; what is left, and whether all was there. -/
structure Hd where
  fr : List UInt8
  ser : Nat
  kind : Int
  n : Nat
  rest : List UInt8
  bad : Bool
def rhead (l : List UInt8) (bad : Bool) : Hd :=
  let t := rtext l bad
  let s := rnum t.2.1 t.2.2
  let k := rnum s.2.1 s.2.2
  let n := rnum k.2.1 k.2.2
  ⟨t.1, s.1, unfold k.1, n.1, n.2.1, n.2.2⟩
/-- The letter that bytes begin with, if they begin with one that is formed; what is left, and whether all was there. -/
def rlet (l : List UInt8) (bad : Bool) : Option Lt × List UInt8 × Bool :=
  let h := rhead l bad
  if 4 < h.n then (none, h.rest, h.bad)
  else
    let r := rints h.n h.rest h.bad
    if r.2.2 = true ∨ 40 < h.fr.length then (none, r.2.1, r.2.2) else (some ⟨h.fr, h.ser, h.kind, r.1⟩, r.2.1, r.2.2)
theorem rints_length (n : Nat) : ∀ l bad, (rints n l bad).1.length = n := by
  induction n with
  | zero => intro l bad; rfl
  | succ n ih => intro l bad; simp [rints, ih]
theorem rints_snoc (n : Nat) : ∀ l bad, rints (n + 1) l bad = ((rints n l bad).1 ++ [unfold (rnum (rints n l bad).2.1 (rints n l bad).2.2).1], (rnum (rints n l bad).2.1 (rints n l bad).2.2).2.1, (rnum (rints n l bad).2.1 (rints n l bad).2.2).2.2) := by
  induction n with
  | zero => intro l bad; rfl
  | succ n ih =>
    intro l bad
    have e : rints (n + 1 + 1) l bad = (unfold (rnum l bad).1 :: (rints (n + 1) (rnum l bad).2.1 (rnum l bad).2.2).1, (rints (n + 1) (rnum l bad).2.1 (rnum l bad).2.2).2.1, (rints (n + 1) (rnum l bad).2.1 (rnum l bad).2.2).2.2) := rfl
    have e2 : rints (n + 1) l bad = (unfold (rnum l bad).1 :: (rints n (rnum l bad).2.1 (rnum l bad).2.2).1, (rints n (rnum l bad).2.1 (rnum l bad).2.2).2.1, (rints n (rnum l bad).2.1 (rnum l bad).2.2).2.2) := rfl
    rw [e, ih, e2]
    rfl
theorem unfold_I64 (n : Nat) (h : n < 18446744073709551616) : I64 (unfold n) := by
  unfold unfold I64; split <;> omega
theorem rints_I64 (n : Nat) : ∀ l bad, ∀ z ∈ (rints n l bad).1, I64 z := by
  induction n with
  | zero => intro l bad z hz; simp [rints] at hz
  | succ n ih =>
    intro l bad z hz
    simp only [rints, List.mem_cons] at hz
    rcases hz with rfl | hz
    · exact unfold_I64 _ (rnum_lt _ _)
    · exact ih _ _ z hz
theorem rhead_lt (l : List UInt8) (bad : Bool) : (rhead l bad).ser < 18446744073709551616 ∧ I64 (rhead l bad).kind ∧ (rhead l bad).n < 18446744073709551616 :=
  ⟨rnum_lt _ _, unfold_I64 _ (rnum_lt _ _), rnum_lt _ _⟩
/-- What is read is a formed letter of 64 bits. -/
theorem rlet_ok {l : List UInt8} {bad : Bool} {x : Lt} (h : (rlet l bad).1 = some x) : x.ok ∧ x.formed = true := by
  unfold rlet at h
  obtain ⟨h1, h2, h3⟩ := rhead_lt l bad
  revert h
  generalize rhead l bad = d at h1 h2 h3
  intro h
  dsimp only at h
  split at h
  · cases h
  · rename_i h4
    split at h
    · cases h
    · rename_i h5
      cases h
      refine ⟨⟨h1, h2, rints_I64 _ _ _⟩, ?_⟩
      have := rints_length d.n d.rest d.bad
      have h6 : d.fr.length ≤ 40 := by omega
      simp only [Lt.formed, this, h6, decide_true, Bool.true_and, decide_eq_true_eq]
      omega
theorem rints_back (a : List Int) : ∀ rest, (∀ z ∈ a, I64 z) → rints a.length (encJ a ++ rest) false = (a, rest, false) := by
  induction a with
  | nil => intro rest _; rfl
  | cons z a ih =>
    intro rest h
    have e : encJ (z :: a) = enc (fold z) ++ encJ a := rfl
    have hz := h z (by simp)
    have h1 := rnum_back (fold z) (fold_lt z hz.1 hz.2) (encJ a ++ rest)
    rw [List.length_cons, rints, e, List.append_assoc, h1]
    dsimp only
    rw [ih rest (fun y hy => h y (by simp [hy]))]
    simp [unfold_fold z]
/-- What was encoded is read as it was. -/
theorem rlet_back (x : Lt) (hx : x.ok) (hf : x.formed = true) (rest : List UInt8) : rlet (encL x ++ rest) false = (some x, rest, false) := by
  have hf' : x.fr.length ≤ 40 ∧ x.args.length ≤ 4 := by simpa [Lt.formed] using hf
  have e : encL x ++ rest = enc x.fr.length ++ (x.fr ++ (enc x.ser ++ (enc (fold x.kind) ++ (enc x.args.length ++ (encJ x.args ++ rest))))) := by simp only [encL, List.append_assoc]
  have h1 := rtext_back x.fr (by omega) (enc x.ser ++ (enc (fold x.kind) ++ (enc x.args.length ++ (encJ x.args ++ rest))))
  have h2 := rnum_back x.ser hx.ser (enc (fold x.kind) ++ (enc x.args.length ++ (encJ x.args ++ rest)))
  have h3 := rnum_back (fold x.kind) (fold_lt _ hx.kind.1 hx.kind.2) (enc x.args.length ++ (encJ x.args ++ rest))
  have h4 := rnum_back x.args.length (by omega) (encJ x.args ++ rest)
  have h5 := rints_back x.args rest hx.args
  have h6 := unfold_fold x.kind
  have hh : rhead (encL x ++ rest) false = ⟨x.fr, x.ser, x.kind, x.args.length, encJ x.args ++ rest, false⟩ := by
    unfold rhead
    rw [e, h1]
    dsimp only
    rw [h2]
    dsimp only
    rw [h3]
    dsimp only
    rw [h4, h6]
  unfold rlet
  rw [hh]
  dsimp only
  rw [if_neg (by omega), h5]
  dsimp only
  rw [if_neg (by simp; omega)]
/-- What was read wholly begins with the number's bytes. -/
theorem rnum_fwd {l : List UInt8} {bad : Bool} (h : (rnum l bad).2.2 = false) : bad = false ∧ l = enc (rnum l bad).1 ++ (rnum l bad).2.1 := by
  unfold rnum at h ⊢
  split at h
  · cases h
  · rename_i hk
    rw [if_neg hk]
    exact ⟨h, by rw [enc_dec l hk, List.take_append_drop]⟩
theorem rtext_fwd {l : List UInt8} {bad : Bool} (h : (rtext l bad).2.2 = false) : bad = false ∧ l = enc (rtext l bad).1.length ++ ((rtext l bad).1 ++ (rtext l bad).2.1) := by
  unfold rtext at h ⊢
  split at h
  · cases h
  · rename_i hk
    rw [if_neg hk]
    obtain ⟨h1, h2⟩ := rnum_fwd (l := l) (bad := bad) h
    refine ⟨h1, ?_⟩
    dsimp only
    rw [List.take_append_drop, List.length_take, Nat.min_eq_left (by omega)]
    exact h2
theorem rints_fwd (n : Nat) : ∀ l bad, (rints n l bad).2.2 = false → bad = false ∧ l = encJ (rints n l bad).1 ++ (rints n l bad).2.1 := by
  induction n with
  | zero => intro l bad h; exact ⟨h, rfl⟩
  | succ n ih =>
    intro l bad h
    simp only [rints] at h ⊢
    obtain ⟨h1, h2⟩ := ih _ _ h
    obtain ⟨h3, h4⟩ := rnum_fwd h1
    refine ⟨h3, ?_⟩
    have e : ∀ (z : Int) (a : List Int), encJ (z :: a) = enc (fold z) ++ encJ a := fun z a => rfl
    rw [e, fold_unfold, List.append_assoc, ← h2]
    exact h4
/-- What is read wholly has just the letter's bytes. -/
theorem rlet_fwd {l rest : List UInt8} {bad : Bool} {x : Lt} (h : rlet l bad = (some x, rest, false)) : bad = false ∧ l = encL x ++ rest := by
  unfold rlet at h
  dsimp only at h
  split at h
  · cases h
  · split at h
    · cases h
    · rename_i h4 h5
      simp only [Prod.mk.injEq, Option.some.injEq] at h
      obtain ⟨rfl, rfl, hb⟩ := h
      obtain ⟨hb1, e1⟩ := rints_fwd _ _ _ hb
      have hb2 : (rhead l bad).bad = (rnum (rnum (rnum (rtext l bad).2.1 (rtext l bad).2.2).2.1 (rnum (rtext l bad).2.1 (rtext l bad).2.2).2.2).2.1 (rnum (rnum (rtext l bad).2.1 (rtext l bad).2.2).2.1 (rnum (rtext l bad).2.1 (rtext l bad).2.2).2.2).2.2).2.2 := rfl
      obtain ⟨hb3, e2⟩ := rnum_fwd (hb2.symm.trans hb1)
      obtain ⟨hb4, e3⟩ := rnum_fwd hb3
      obtain ⟨hb5, e4⟩ := rnum_fwd hb4
      obtain ⟨hb6, e5⟩ := rtext_fwd hb5
      refine ⟨hb6, ?_⟩
      have el := rints_length (rhead l bad).n (rhead l bad).rest (rhead l bad).bad
      have ek : fold (rhead l bad).kind = (rnum (rnum (rtext l bad).2.1 (rtext l bad).2.2).2.1 (rnum (rtext l bad).2.1 (rtext l bad).2.2).2.2).1 := fold_unfold _
      simp only [encL, List.append_assoc, ← e1]
      rw [el, ek]
      refine e5.trans ?_
      show _ = enc (rtext l bad).1.length ++ ((rtext l bad).1 ++ (_ ++ (_ ++ (_ ++ _))))
      congr 2
      refine e4.trans ?_
      show _ = enc (rnum (rtext l bad).2.1 (rtext l bad).2.2).1 ++ _
      congr 1
      refine e3.trans ?_
      congr 1
def decL (l : List UInt8) : Option Lt := if (!(rlet l false).2.2 && (rlet l false).2.1.isEmpty) = true then (rlet l false).1 else none
theorem decL_ok {l : List UInt8} {x : Lt} (h : decL l = some x) : x.ok ∧ x.formed = true := by
  unfold decL at h
  split at h
  · exact rlet_ok h
  · cases h
theorem formed_le {x : Lt} (h : x.formed = true) : x.fr.length ≤ 40 ∧ x.args.length ≤ 4 := by simpa [Lt.formed] using h
theorem decL_enc {x : Lt} (hx : x.ok) (hf : x.formed = true) : decL (encL x) = some x := by
  have h := rlet_back x hx hf []
  rw [List.append_nil] at h
  unfold decL
  rw [h]
  rfl
theorem decL_own {l : List UInt8} {x : Lt} (h : decL l = some x) : encL x = l := by
  unfold decL at h
  split at h
  · rename_i hq
    generalize hr : rlet l false = r at h hq
    obtain ⟨r1, r2, r3⟩ := r
    dsimp only at h hq
    subst h
    simp at hq
    obtain ⟨rfl, rfl⟩ := hq
    have := (rlet_fwd hr).2
    rw [this, List.append_nil]
  · cases h
end Go.Proofs.YtpodoiichpnpjaaDoor
namespace Go.Proofs.YtpodoiichpnpjaaDoor
set_option linter.unusedVariables false
def U64 (n : Nat) : Prop := n < 18446744073709551616
/-- The number that bytes begin with, and what is left. -/
def num (l : List UInt8) : Option (Nat × List UInt8) := if (dec l).2 = 0 then none else some ((dec l).1, l.drop (dec l).2)
theorem num_none {l : List UInt8} (h : num l = none) : rnum l false = (0, [], true) := by
  unfold num at h
  unfold rnum
  split at h
  · rename_i h0; rw [if_pos h0]
  · cases h
theorem num_some {l r : List UInt8} {n : Nat} (h : num l = some (n, r)) : rnum l false = (n, r, false) := by
  unfold num at h
  unfold rnum
  split at h
  · cases h
  · rename_i h0
    rw [if_neg h0]
    simp only [Option.some.injEq, Prod.mk.injEq] at h
    rw [h.1, h.2]
theorem num_lt {l r : List UInt8} {n : Nat} (h : num l = some (n, r)) : U64 n := by
  have := rnum_lt l false
  rw [num_some h] at this
  exact this
theorem num_fwd {l r : List UInt8} {n : Nat} (h : num l = some (n, r)) : l = enc n ++ r := by
  have := (rnum_fwd (l := l) (bad := false) (by rw [num_some h])).2
  rw [num_some h] at this
  exact this
theorem num_back (n : Nat) (h : U64 n) (r : List UInt8) : num (enc n ++ r) = some (n, r) := by
  have h1 := dec_enc n h r
  unfold num
  rw [h1, if_neg (by have := enc_length n; show (enc n).length ≠ 0; omega)]
  simp
theorem rnum_bad2 : rnum [] true = (0, [], true) := rfl
/-- A text's bytes. -/
def encTx (t : List UInt8) : List UInt8 := enc t.length ++ t
/-- The text that bytes begin with. -/
def txt (l : List UInt8) : Option (List UInt8 × List UInt8) := (num l).bind fun x => if x.2.length < x.1 then none else some (x.2.take x.1, x.2.drop x.1)
theorem txt_none {l : List UInt8} (h : txt l = none) : rtext l false = ([], [], true) := by
  unfold txt at h
  unfold rtext
  cases hn : num l with
  | none =>
    rw [num_none hn]
    rfl
  | some x =>
    obtain ⟨n, r⟩ := x
    rw [hn] at h
    dsimp only [Option.bind_some] at h
    rw [num_some hn]
    split at h
    · rename_i h0; rw [if_pos h0]
    · cases h
theorem txt_some {l r t : List UInt8} (h : txt l = some (t, r)) : rtext l false = (t, r, false) := by
  unfold txt at h
  unfold rtext
  cases hn : num l with
  | none => rw [hn] at h; cases h
  | some x =>
    obtain ⟨n, q⟩ := x
    rw [hn] at h
    dsimp only [Option.bind_some] at h
    rw [num_some hn]
    split at h
    · cases h
    · rename_i h0
      simp only [Option.some.injEq, Prod.mk.injEq] at h
      rw [if_neg h0]
      rw [h.1, h.2]
theorem txt_fwd {l r t : List UInt8} (h : txt l = some (t, r)) : l = encTx t ++ r := by
  have := (rtext_fwd (l := l) (bad := false) (by rw [txt_some h])).2
  rw [txt_some h] at this
  unfold encTx
  rw [List.append_assoc]
  exact this
theorem txt_back (t : List UInt8) (h : t.length < 18446744073709551616) (r : List UInt8) : txt (encTx t ++ r) = some (t, r) := by
  unfold txt encTx
  rw [List.append_assoc, num_back t.length h]
  dsimp only [Option.bind_some]
  rw [if_neg (by simp)]
  simp
/-- The integer that bytes begin with. -/
def int (l : List UInt8) : Option (Int × List UInt8) := (num l).map fun x => (unfold x.1, x.2)
theorem int_none {l : List UInt8} (h : int l = none) : num l = none := by
  unfold int at h
  cases hn : num l with
  | none => rfl
  | some x => rw [hn] at h; cases h
theorem int_some {l r : List UInt8} {z : Int} (h : int l = some (z, r)) : rnum l false = (fold z, r, false) ∧ unfold (fold z) = z ∧ I64 z := by
  unfold int at h
  cases hn : num l with
  | none => rw [hn] at h; cases h
  | some x =>
    obtain ⟨n, q⟩ := x
    rw [hn] at h
    simp only [Option.map_some, Option.some.injEq, Prod.mk.injEq] at h
    obtain ⟨rfl, rfl⟩ := h
    rw [fold_unfold]
    exact ⟨num_some hn, rfl, unfold_I64 n (num_lt hn)⟩
theorem int_fwd {l r : List UInt8} {z : Int} (h : int l = some (z, r)) : l = enc (fold z) ++ r := by
  have := (rnum_fwd (l := l) (bad := false) (by rw [(int_some h).1])).2
  rw [(int_some h).1] at this
  exact this
theorem int_back (z : Int) (h : I64 z) (r : List UInt8) : int (enc (fold z) ++ r) = some (z, r) := by
  unfold int
  rw [num_back _ (fold_lt z h.1 h.2)]
  simp [unfold_fold]
end Go.Proofs.YtpodoiichpnpjaaDoor
namespace Go.Proofs.YtpodoiichpnpjaaDoor
set_option linter.unusedVariables false
/-- A letter on its way. -/
structure Ot where
  to : List UInt8
  x : Lt
instance : Inhabited Ot := ⟨⟨[], default⟩⟩
/-- A key and the last serial to it. -/
structure La where
  k : List UInt8
  s : Nat
instance : Inhabited La := ⟨⟨[], 0⟩⟩
/-- An outbox. -/
structure Ob where
  own : List UInt8
  K : List La
  L : List Ot
def isKey (k : List UInt8) : Bool := decide (1 ≤ k.length) && decide (k.length ≤ 40)
theorem isKey_iff (k : List UInt8) : isKey k = true ↔ 1 ≤ k.length ∧ k.length ≤ 40 := by simp [isKey]
/-- How many keys are less. -/
def pla : List La → List UInt8 → Nat
  | [], _ => 0
  | y :: K, to => if y.k < to then pla K to + 1 else 0
/-- Whether it ever sent to a key. -/
def hasK : List La → List UInt8 → Bool
  | [], _ => false
  | y :: K, to => if y.k < to then hasK K to else decide (y.k = to)
/-- The last serial to a key. -/
def ser : List La → List UInt8 → Nat
  | [], _ => 0
  | y :: K, to => if y.k < to then ser K to else if y.k = to then y.s else 0
/-- Another last serial. -/
def setK : List La → List UInt8 → Nat → List La
  | [], to, s => [⟨to, s⟩]
  | y :: K, to, s => if y.k < to then y :: setK K to s else if y.k = to then ⟨to, s⟩ :: K else ⟨to, s⟩ :: y :: K
theorem pla_le (K : List La) (to : List UInt8) : pla K to ≤ K.length := by
  induction K with
  | nil => simp [pla]
  | cons y K ih => rw [pla]; split <;> simp; omega
theorem pla_lt : ∀ {K : List La} {to : List UInt8} {j : Nat} {y : La}, K[j]? = some y → j < pla K to → y.k < to
  | [], to, j, y, hj, h => by simp at hj
  | x :: K, to, 0, y, hj, h => by
    simp at hj
    subst hj
    rw [pla] at h
    split at h
    · assumption
    · omega
  | x :: K, to, j + 1, y, hj, h => by
    rw [pla] at h
    split at h
    · exact pla_lt (K := K) (by simpa using hj) (by omega)
    · omega
theorem pla_at : ∀ {K : List La} {to : List UInt8} {y : La}, K[pla K to]? = some y → ¬ y.k < to
  | [], to, y, h => by simp at h
  | x :: K, to, y, h => by
    rw [pla] at h
    split at h
    · exact pla_at (K := K) (by simpa using h)
    · rename_i hx
      simp at h
      subst h
      exact hx
theorem has_at : ∀ {K : List La} {to : List UInt8}, hasK K to = true → ∃ s, K[pla K to]? = some ⟨to, s⟩ ∧ ser K to = s
  | [], to, h => by simp [hasK] at h
  | x :: K, to, h => by
    rw [hasK] at h
    rw [pla, ser]
    split at h
    · rename_i hx
      rw [if_pos hx, if_pos hx]
      obtain ⟨s, h1, h2⟩ := has_at h
      exact ⟨s, by simpa using h1, h2⟩
    · rename_i hx
      rw [if_neg hx, if_neg hx]
      have hk : x.k = to := by simpa using h
      rw [if_pos hk]
      obtain ⟨k, s⟩ := x
      dsimp only at hk
      subst hk
      exact ⟨s, rfl, rfl⟩
theorem has_not : ∀ {K : List La} {to : List UInt8}, hasK K to = false → ser K to = 0 ∧ ∀ y, K[pla K to]? = some y → y.k ≠ to
  | [], to, h => ⟨rfl, by simp⟩
  | x :: K, to, h => by
    rw [hasK] at h
    rw [pla, ser]
    split at h
    · rename_i hx
      rw [if_pos hx, if_pos hx]
      obtain ⟨h1, h2⟩ := has_not h
      exact ⟨h1, fun y hy => h2 y (by simpa using hy)⟩
    · rename_i hx
      rw [if_neg hx, if_neg hx]
      have hk : x.k ≠ to := by simpa using h
      rw [if_neg hk]
      exact ⟨rfl, fun y hy => by simp at hy; subst hy; exact hk⟩
theorem setK_has : ∀ {K : List La} {to : List UInt8} (s : Nat), hasK K to = true → setK K to s = K.set (pla K to) ⟨to, s⟩
  | [], to, s, h => by simp [hasK] at h
  | x :: K, to, s, h => by
    rw [hasK] at h
    rw [setK, pla]
    split at h
    · rename_i hx
      rw [if_pos hx, if_pos hx, List.set_cons_succ, setK_has s h]
    · rename_i hx
      rw [if_neg hx, if_neg hx, if_pos (by simpa using h)]
      rfl
theorem setK_new : ∀ {K : List La} {to : List UInt8} (s : Nat), hasK K to = false → setK K to s = K.take (pla K to) ++ ⟨to, s⟩ :: K.drop (pla K to)
  | [], to, s, h => rfl
  | x :: K, to, s, h => by
    rw [hasK] at h
    rw [setK, pla]
    split at h
    · rename_i hx
      rw [if_pos hx, if_pos hx, setK_new s h]
      rfl
    · rename_i hx
      rw [if_neg hx, if_neg hx, if_neg (by simpa using h)]
      rfl
/-- Keys rise. -/
def Rise (K : List La) : Prop := K.Pairwise fun a b => a.k < b.k
theorem klt_trans {a b c : List UInt8} (h : a < b) (k : b < c) : a < c := List.lt_trans h k
theorem klt_irrefl (a : List UInt8) : ¬ a < a := List.lt_irrefl a
theorem klt_tri : ∀ {a b : List UInt8}, ¬ a < b → a ≠ b → b < a
  | [], [], _, k => absurd rfl k
  | [], y :: b, h, _ => absurd (by simp) h
  | x :: a, [], _, _ => by simp
  | x :: a, y :: b, h, k => by
    rw [List.cons_lt_cons_iff] at h ⊢
    by_cases hxy : x = y
    · subst hxy
      exact .inr ⟨rfl, klt_tri (fun h' => h (.inr ⟨rfl, h'⟩)) (fun e => k (by rw [e]))⟩
    · refine .inl ?_
      have h1 : ¬ x < y := fun h' => h (.inl h')
      have h2 : x.toNat ≠ y.toNat := fun e => hxy (UInt8.toNat_inj.1 e)
      rw [UInt8.lt_iff_toNat_lt] at h1 ⊢
      omega
theorem has_mem : ∀ {K : List La} {to : List UInt8}, Rise K → (hasK K to = true ↔ ∃ y ∈ K, y.k = to)
  | [], to, _ => by simp [hasK]
  | x :: K, to, hr => by
    obtain ⟨h1, h2⟩ := List.pairwise_cons.1 hr
    rw [hasK]
    by_cases hx : x.k < to
    · rw [if_pos hx, has_mem h2]
      constructor
      · rintro ⟨y, hy, e⟩; exact ⟨y, by simp [hy], e⟩
      · rintro ⟨y, hy, e⟩
        rcases List.mem_cons.1 hy with rfl | hy
        · rw [e] at hx; exact absurd hx (klt_irrefl _)
        · exact ⟨y, hy, e⟩
    · rw [if_neg hx]
      constructor
      · intro h; exact ⟨x, by simp, by simpa using h⟩
      · rintro ⟨y, hy, e⟩
        rcases List.mem_cons.1 hy with rfl | hy
        · simpa using e
        · have := h1 y hy; rw [e] at this; exact absurd this hx
theorem ser_mem : ∀ {K : List La} {y : La}, Rise K → y ∈ K → ser K y.k = y.s
  | x :: K, y, hr, hy => by
    obtain ⟨h1, h2⟩ := List.pairwise_cons.1 hr
    rw [ser]
    rcases List.mem_cons.1 hy with rfl | hy
    · rw [if_neg (klt_irrefl _), if_pos rfl]
    · rw [if_pos (h1 y hy), ser_mem h2 hy]
theorem setK_mem : ∀ {K : List La} {to : List UInt8} {s : Nat} {y : La}, y ∈ setK K to s → y = ⟨to, s⟩ ∨ y ∈ K
  | [], to, s, y, h => by simp [setK] at h; exact .inl h
  | x :: K, to, s, y, h => by
    rw [setK] at h
    split at h
    · rcases List.mem_cons.1 h with rfl | h
      · exact .inr (by simp)
      · rcases setK_mem h with h | h
        · exact .inl h
        · exact .inr (by simp [h])
    · split at h
      · rcases List.mem_cons.1 h with h | h
        · exact .inl h
        · exact .inr (by simp [h])
      · rcases List.mem_cons.1 h with h | h
        · exact .inl h
        · exact .inr h
theorem Rise.setK : ∀ {K : List La} {to : List UInt8} (s : Nat), Rise K → Rise (setK K to s)
  | [], to, s, _ => by simp [YtpodoiichpnpjaaDoor.setK, Rise]
  | x :: K, to, s, hr => by
    obtain ⟨h1, h2⟩ := List.pairwise_cons.1 hr
    rw [YtpodoiichpnpjaaDoor.setK]
    split
    · rename_i hx
      refine List.pairwise_cons.2 ⟨fun y hy => ?_, Rise.setK s h2⟩
      rcases setK_mem hy with rfl | hy
      · exact hx
      · exact h1 y hy
    · rename_i hx
      split
      · rename_i hk
        exact List.pairwise_cons.2 ⟨fun y hy => by have := h1 y hy; rw [hk] at this; exact this, h2⟩
      · rename_i hk
        have hlt := klt_tri hx hk
        refine List.pairwise_cons.2 ⟨fun y hy => ?_, hr⟩
        rcases List.mem_cons.1 hy with rfl | hy
        · exact hlt
        · exact klt_trans hlt (h1 y hy)
theorem ser_set_same : ∀ (K : List La) (to : List UInt8) (s : Nat), ser (setK K to s) to = s ∧ hasK (setK K to s) to = true
  | [], to, s => by simp [setK, ser, hasK, klt_irrefl]
  | x :: K, to, s => by
    rw [setK]
    split
    · rename_i hx
      rw [ser, if_pos hx, hasK, if_pos hx]
      exact ser_set_same K to s
    · split <;> simp [ser, hasK, klt_irrefl]
theorem ser_set_other : ∀ {K : List La} {to to' : List UInt8} (s : Nat), Rise K → to' ≠ to → ser (setK K to s) to' = ser K to' ∧ hasK (setK K to s) to' = hasK K to'
  | [], to, to', s, _, hn => by
    simp only [setK, ser, hasK]
    by_cases h : to < to'
    · simp [h]
    · simp [h, Ne.symm hn]
  | x :: K, to, to', s, hr, hn => by
    obtain ⟨h1, h2⟩ := List.pairwise_cons.1 hr
    rw [setK]
    by_cases hx : x.k < to
    · rw [if_pos hx, ser, ser, hasK, hasK]
      have := ser_set_other s h2 hn
      rw [this.1, this.2]
      exact ⟨rfl, rfl⟩
    · rw [if_neg hx]
      by_cases hk : x.k = to
      · rw [if_pos hk, ser, ser, hasK, hasK, hk]
        dsimp only
        rw [if_neg (Ne.symm hn), if_neg (Ne.symm hn)]
        exact ⟨rfl, rfl⟩
      · rw [if_neg hk]
        by_cases ht : to < to'
        · rw [ser, if_pos ht, hasK, if_pos ht]
          exact ⟨rfl, rfl⟩
        · have hlt := klt_tri hx hk
          have hxn : ¬ x.k < to' := fun h => ht (klt_trans hlt h)
          have hxe : x.k ≠ to' := fun h => ht (by rw [← h]; exact hlt)
          rw [ser, if_neg ht, if_neg (Ne.symm hn), hasK, if_neg ht, ser, if_neg hxn, if_neg hxe, hasK, if_neg hxn]
          simp [hxe, Ne.symm hn]
theorem setK_length : ∀ (K : List La) (to : List UInt8) (s : Nat), (setK K to s).length = if hasK K to = true then K.length else K.length + 1
  | [], to, s => rfl
  | x :: K, to, s => by
    rw [setK, hasK]
    by_cases hx : x.k < to
    · rw [if_pos hx, if_pos hx, List.length_cons, setK_length K to s]
      split <;> simp
    · rw [if_neg hx, if_neg hx]
      by_cases hk : x.k = to
      · simp [hk]
      · simp [hk]
/-- The letters to one key, from the last one back, have the serials s, s - 1 and so on. -/
def ordR (k : List UInt8) : List Ot → Nat → Bool
  | [], _ => true
  | y :: t, s => if y.to = k then decide (s ≠ 0) && decide (y.x.ser = s) && ordR k t (s - 1) else ordR k t s
def ordO (K : List La) (L : List Ot) : Bool := K.all fun y => ordR y.k L.reverse y.s
/-- What an outbox may be. -/
structure GoodO (o : Ob) : Prop where
  own : isKey o.own = true
  kn : o.K.length ≤ 64
  ln : o.L.length ≤ 32
  key : ∀ y ∈ o.K, isKey y.k = true ∧ y.s ≠ 0 ∧ U64 y.s
  rise : Rise o.K
  lets : ∀ y ∈ o.L, y.x.ok ∧ y.x.formed = true ∧ y.x.fr = o.own ∧ hasK o.K y.to = true
  ord : ordO o.K o.L = true
def encK (K : List La) : List UInt8 := K.flatMap fun y => encTx y.k ++ enc y.s
def encY (L : List Ot) : List UInt8 := L.flatMap fun y => encTx y.to ++ encTx (encL y.x)
/-- An outbox' bytes. -/
def encO (o : Ob) : List UInt8 := encTx o.own ++ (enc o.K.length ++ (encK o.K ++ (enc o.L.length ++ encY o.L)))
/-- n keys more. -/
def rks : Nat → List La → List UInt8 → Option (List La × List UInt8)
  | 0, K, l => some (K, l)
  | n + 1, K, l => (txt l).bind fun a => (num a.2).bind fun b => if isKey a.1 = false ∨ b.1 = 0 ∨ ∃ y ∈ K.getLast?, ¬ y.k < a.1 then none else rks n (K ++ [⟨a.1, b.1⟩]) b.2
/-- n letters more. -/
def rls (own : List UInt8) (K : List La) : Nat → List Ot → List UInt8 → Option (List Ot × List UInt8)
  | 0, L, l => some (L, l)
  | n + 1, L, l => (txt l).bind fun a => (txt a.2).bind fun b => (decL b.1).bind fun x => if x.fr ≠ own ∨ hasK K a.1 = false then none else rls own K n (L ++ [⟨a.1, x⟩]) b.2
/-- The outbox that bytes are. -/
def decO (l : List UInt8) : Option Ob :=
  (txt l).bind fun a => (num a.2).bind fun b => if isKey a.1 = false ∨ 64 < b.1 then none else
    (rks b.1 [] b.2).bind fun c => (num c.2).bind fun d => if 32 < d.1 then none else
      (rls a.1 c.1 d.1 [] d.2).bind fun e => if e.2 = [] ∧ ordO c.1 e.1 = true then some ⟨a.1, c.1, e.1⟩ else none
theorem rks_back (X : List La) : ∀ P r, Rise (P ++ X) → (∀ y ∈ X, isKey y.k = true ∧ y.s ≠ 0 ∧ U64 y.s) → rks X.length P (encK X ++ r) = some (P ++ X, r) := by
  induction X with
  | nil => intro P r _ _; simp [rks, encK]
  | cons x X ih =>
    intro P r hr h
    have hx := h x (by simp)
    have hk := (isKey_iff _).1 hx.1
    have e : encK (x :: X) ++ r = encTx x.k ++ (enc x.s ++ (encK X ++ r)) := by simp [encK]
    rw [List.length_cons, rks, e, txt_back x.k (by omega)]
    dsimp only [Option.bind_some]
    rw [num_back x.s hx.2.2]
    dsimp only [Option.bind_some]
    rw [if_neg, ih (P ++ [x]) r (by simpa using hr) (fun y hy => h y (by simp [hy]))]
    · simp
    · rintro (h1 | h1 | ⟨y, hy, h1⟩)
      · rw [hx.1] at h1; cases h1
      · exact hx.2.1 h1
      · exact h1 ((List.pairwise_append.1 hr).2.2 y (List.mem_of_getLast? hy) x (by simp))
theorem rks_fwd (n : Nat) : ∀ P l K r, Rise P → rks n P l = some (K, r) → ∃ X, X.length = n ∧ K = P ++ X ∧ l = encK X ++ r ∧ Rise K ∧ ∀ y ∈ X, isKey y.k = true ∧ y.s ≠ 0 ∧ U64 y.s := by
  induction n with
  | zero =>
    intro P l K r hr h
    simp only [rks, Option.some.injEq, Prod.mk.injEq] at h
    obtain ⟨rfl, rfl⟩ := h
    exact ⟨[], rfl, by simp, by simp [encK], hr, by simp⟩
  | succ n ih =>
    intro P l K r hr h
    rw [rks] at h
    cases h1 : txt l with
    | none => rw [h1] at h; cases h
    | some a =>
      obtain ⟨k, l1⟩ := a
      rw [h1] at h
      dsimp only [Option.bind_some] at h
      cases h2 : num l1 with
      | none => rw [h2] at h; cases h
      | some b =>
        obtain ⟨s, l2⟩ := b
        rw [h2] at h
        dsimp only [Option.bind_some] at h
        split at h
        · cases h
        · rename_i hno
          have hk : isKey k = true := by
            cases hh : isKey k with
            | true => rfl
            | false => exact absurd (.inl hh) hno
          have hlast : ∀ y ∈ P, y.k < k := fun y hy => by
            have hne : P ≠ [] := fun e => by rw [e] at hy; simp at hy
            have hl : P.getLast? = some (P.getLast hne) := List.getLast?_eq_some_getLast hne
            have h3 : (P.getLast hne).k < k := Classical.byContradiction fun h3 => hno (.inr (.inr ⟨_, hl, h3⟩))
            have e := List.dropLast_concat_getLast hne
            rw [← e] at hy hr
            rcases List.mem_append.1 hy with hy | hy
            · exact klt_trans ((List.pairwise_append.1 hr).2.2 y hy _ (by simp)) h3
            · simp at hy; rw [hy]; exact h3
          have hr2 : Rise (P ++ [⟨k, s⟩]) := List.pairwise_append.2 ⟨hr, by simp, fun a ha b hb => by simp at hb; subst hb; exact hlast a ha⟩
          obtain ⟨X, h4, h5, h6, h7, h8⟩ := ih (P ++ [⟨k, s⟩]) l2 K r hr2 h
          refine ⟨⟨k, s⟩ :: X, by simp [h4], by rw [h5]; simp, ?_, h7, fun y hy => ?_⟩
          · rw [txt_fwd h1, num_fwd h2, h6]; simp [encK]
          · rcases List.mem_cons.1 hy with rfl | hy
            · exact ⟨hk, fun e => hno (.inr (.inl e)), num_lt h2⟩
            · exact h8 y hy
theorem encL_lt {x : Lt} (h : x.formed = true) : (encL x).length < 18446744073709551616 := by
  have h1 := encL_length x
  have h2 := formed_le h
  omega
theorem rls_back (own : List UInt8) (K : List La) (hK : ∀ y ∈ K, isKey y.k = true) (hr : Rise K) (X : List Ot) : ∀ P r, (∀ y ∈ X, y.x.ok ∧ y.x.formed = true ∧ y.x.fr = own ∧ hasK K y.to = true) → rls own K X.length P (encY X ++ r) = some (P ++ X, r) := by
  induction X with
  | nil => intro P r _; simp [rls, encY]
  | cons x X ih =>
    intro P r h
    have hx := h x (by simp)
    have hto : x.to.length < 18446744073709551616 := by
      obtain ⟨y, hy, e⟩ := (has_mem hr).1 hx.2.2.2
      have := (isKey_iff _).1 (hK y hy)
      rw [← e]; omega
    have e : encY (x :: X) ++ r = encTx x.to ++ (encTx (encL x.x) ++ (encY X ++ r)) := by simp [encY]
    rw [List.length_cons, rls, e, txt_back x.to hto]
    dsimp only [Option.bind_some]
    rw [txt_back _ (encL_lt hx.2.1)]
    dsimp only [Option.bind_some]
    rw [decL_enc hx.1 hx.2.1]
    dsimp only [Option.bind_some]
    rw [if_neg, ih (P ++ [x]) r (fun y hy => h y (by simp [hy]))]
    · simp
    · rintro (h1 | h1)
      · exact h1 hx.2.2.1
      · rw [hx.2.2.2] at h1; cases h1
theorem rls_fwd (own : List UInt8) (K : List La) (n : Nat) : ∀ P l L r, rls own K n P l = some (L, r) → ∃ X, X.length = n ∧ L = P ++ X ∧ l = encY X ++ r ∧ ∀ y ∈ X, y.x.ok ∧ y.x.formed = true ∧ y.x.fr = own ∧ hasK K y.to = true := by
  induction n with
  | zero =>
    intro P l L r h
    simp only [rls, Option.some.injEq, Prod.mk.injEq] at h
    obtain ⟨rfl, rfl⟩ := h
    exact ⟨[], rfl, by simp, by simp [encY], by simp⟩
  | succ n ih =>
    intro P l L r h
    rw [rls] at h
    cases h1 : txt l with
    | none => rw [h1] at h; cases h
    | some a =>
      obtain ⟨k, l1⟩ := a
      rw [h1] at h
      dsimp only [Option.bind_some] at h
      cases h2 : txt l1 with
      | none => rw [h2] at h; cases h
      | some b =>
        obtain ⟨t, l2⟩ := b
        rw [h2] at h
        dsimp only [Option.bind_some] at h
        cases h3 : decL t with
        | none => rw [h3] at h; cases h
        | some x =>
          rw [h3] at h
          dsimp only [Option.bind_some] at h
          split at h
          · cases h
          · rename_i hno
            obtain ⟨X, h4, h5, h6, h7⟩ := ih (P ++ [⟨k, x⟩]) l2 L r h
            refine ⟨⟨k, x⟩ :: X, by simp [h4], by rw [h5]; simp, ?_, fun y hy => ?_⟩
            · rw [txt_fwd h1, txt_fwd h2, h6, ← decL_own h3]; simp [encY]
            · rcases List.mem_cons.1 hy with rfl | hy
              · refine ⟨(decL_ok h3).1, (decL_ok h3).2, Classical.byContradiction fun e => hno (.inl e), ?_⟩
                cases hh : hasK K k with
                | true => rfl
                | false => exact absurd (.inr hh) hno
              · exact h7 y hy
/-- What was encoded is decoded as it was. -/
theorem decO_back {o : Ob} (h : GoodO o) : decO (encO o) = some o := by
  obtain ⟨own, K, L⟩ := o
  have hk := (isKey_iff _).1 h.own
  have h1 := h.kn
  have h2 := h.ln
  dsimp only at hk h1 h2
  have hr1 := rks_back K [] (enc L.length ++ encY L) (by simpa using h.rise) h.key
  have hr2 := rls_back own K (fun y hy => (h.key y hy).1) h.rise L [] [] h.lets
  rw [List.append_nil, List.nil_append] at hr2
  rw [List.nil_append] at hr1
  unfold decO encO
  dsimp only
  rw [txt_back own (by omega)]
  dsimp only [Option.bind_some]
  rw [num_back K.length (by unfold U64; omega)]
  dsimp only [Option.bind_some]
  rw [if_neg (by rintro (e | e); rw [h.own] at e; cases e; omega), hr1]
  dsimp only [Option.bind_some]
  rw [num_back L.length (by unfold U64; omega)]
  dsimp only [Option.bind_some]
  rw [if_neg (by omega), hr2]
  dsimp only [Option.bind_some]
  rw [if_pos ⟨rfl, h.ord⟩]
/-- What is decoded has just these bytes, and is good. -/
theorem decO_fwd {l : List UInt8} {o : Ob} (h : decO l = some o) : encO o = l ∧ GoodO o := by
  unfold decO at h
  cases h1 : txt l with
  | none => rw [h1] at h; cases h
  | some a =>
    obtain ⟨own, l1⟩ := a
    rw [h1] at h
    dsimp only [Option.bind_some] at h
    cases h2 : num l1 with
    | none => rw [h2] at h; cases h
    | some b =>
      obtain ⟨n, l2⟩ := b
      rw [h2] at h
      dsimp only [Option.bind_some] at h
      split at h
      · cases h
      · rename_i hno
        cases h3 : rks n [] l2 with
        | none => rw [h3] at h; cases h
        | some c =>
          obtain ⟨K, l3⟩ := c
          rw [h3] at h
          dsimp only [Option.bind_some] at h
          cases h4 : num l3 with
          | none => rw [h4] at h; cases h
          | some d =>
            obtain ⟨m, l4⟩ := d
            rw [h4] at h
            dsimp only [Option.bind_some] at h
            split at h
            · cases h
            · rename_i hm
              cases h5 : rls own K m [] l4 with
              | none => rw [h5] at h; cases h
              | some e =>
                obtain ⟨L, l5⟩ := e
                rw [h5] at h
                dsimp only [Option.bind_some] at h
                split at h
                · rename_i hend
                  simp only [Option.some.injEq] at h
                  subst h
                  obtain ⟨X, x1, x2, x3, x4, x5⟩ := rks_fwd n [] l2 K l3 (by simp [Rise]) h3
                  obtain ⟨Y, y1, y2, y3, y4⟩ := rls_fwd own K m [] l4 L l5 h5
                  rw [List.nil_append] at x2 y2
                  subst x2 y2
                  rw [hend.1, List.append_nil] at y3
                  have hown : isKey own = true := by
                    cases hh : isKey own with
                    | true => rfl
                    | false => exact absurd (.inl hh) hno
                  refine ⟨?_, hown, by show K.length ≤ 64; omega, by show L.length ≤ 32; omega, x5, x4, y4, hend.2⟩
                  unfold encO
                  dsimp only
                  rw [txt_fwd h1, num_fwd h2, x3, num_fwd h4, y3, x1, y1]
                · cases h
theorem encK_length {K : List La} (h : ∀ y ∈ K, isKey y.k = true) : (encK K).length ≤ 58 * K.length := by
  induction K with
  | nil => simp [encK]
  | cons x K ih =>
    have h1 := (isKey_iff _).1 (h x (by simp))
    have h2 := enc_length x.k.length
    have h3 := enc_length x.s
    have h4 := ih (fun y hy => h y (by simp [hy]))
    have e : encK (x :: K) = encTx x.k ++ enc x.s ++ encK K := by simp [encK]
    rw [e, List.length_append, List.length_append, encTx, List.length_append, List.length_cons]
    omega
theorem encY_length {L : List Ot} (h : ∀ y ∈ L, y.x.formed = true ∧ y.to.length ≤ 40) : (encY L).length ≤ 200 * L.length := by
  induction L with
  | nil => simp [encY]
  | cons x L ih =>
    have h1 := h x (by simp)
    have h2 := formed_le h1.1
    have h3 := encL_length x.x
    have h4 := enc_length x.to.length
    have h5 := enc_length (encL x.x).length
    have h6 := ih (fun y hy => h y (by simp [hy]))
    have e : encY (x :: L) = encTx x.to ++ encTx (encL x.x) ++ encY L := by simp [encY]
    rw [e, List.length_append, List.length_append, encTx, encTx, List.length_append, List.length_append, List.length_cons]
    omega
end Go.Proofs.YtpodoiichpnpjaaDoor
namespace Go.Proofs.YtpodoiichpnpjaaDoor
open Go.Lib (decDigits itoa)
set_option linter.unusedVariables false
/-- The operations' words, and what their integers are. -/
def words : List (List UInt8 × Nat) := [([104, 97, 108, 116], 0), ([112, 117, 115, 104], 1), ([108, 111, 97, 100], 2), ([115, 116, 111, 114, 101], 2), ([97, 114, 103], 3), ([107, 105, 110, 100], 0), ([97, 100, 100], 0), ([115, 117, 98], 0), ([109, 117, 108], 0), ([108, 101, 115, 115], 0), ([101, 113, 117, 97, 108], 0), ([110, 111, 116], 0), ([100, 117, 112], 0), ([100, 114, 111, 112], 0), ([115, 119, 97, 112], 0), ([106, 117, 109, 112], 4), ([106, 117, 109, 112, 122], 4), ([115, 101, 110, 100], 5), ([114, 101, 112, 108, 121], 0), ([114, 101, 109, 105, 110, 100], 5), ([99, 97, 110, 99, 101, 108], 5), ([102, 97, 105, 108], 0), ([110, 111, 119], 0), ([115, 101, 114, 105, 97, 108], 0)]
theorem words_length : words.length = 24 := rfl
/-- A decimal digit. -/
def isDig (c : UInt8) : Bool := decide (48 ≤ c.toNat) && decide (c.toNat ≤ 57)
/-- The number of decimal digits, behind n. -/
def numG : List UInt8 → Nat → Option Nat
  | [], n => some n
  | c :: s, n => if isDig c = false ∨ 18446744073709551615 < 10 * n + (c.toNat - 48) then none else numG s (10 * n + (c.toNat - 48))
/-- A number without leading noughts. -/
def numD (s : List UInt8) : Option Nat := if s = [] ∨ (1 < s.length ∧ s.head? = some 48) then none else numG s 0
/-- With a - ahead below 0. -/
def intD (s : List UInt8) : Option Int :=
  if s.head? = some 45 then (numD (s.drop 1)).bind fun n => if n = 0 ∨ 9223372036854775808 < n then none else some (-(n : Int))
  else (numD s).bind fun n => if 9223372036854775807 < n then none else some (n : Int)
theorem ofNat_toNat (d : Nat) (h : d < 256) : (UInt8.ofNat d).toNat = d := by simp; omega
theorem numG_append (s t : List UInt8) : ∀ n, numG (s ++ t) n = (numG s n).bind fun m => numG t m := by
  induction s with
  | nil => intro n; rfl
  | cons c s ih =>
    intro n
    rw [List.cons_append, numG, numG]
    split
    · rfl
    · exact ih _
/-- Digits are read as they were printed. -/
theorem numG_dec (u : Nat) : ∀ h : u < 18446744073709551616, numG (decDigits u) 0 = some u := by
  induction u using Nat.strongRecOn with
  | _ u ih =>
    intro h
    rw [decDigits]
    split
    · rename_i hu
      have e := ofNat_toNat (48 + u) (by omega)
      rw [numG, if_neg, numG, e]
      · congr 1; omega
      · rw [e]
        simp only [isDig, e]
        rintro (h1 | h1)
        · simp at h1; omega
        · omega
    · rename_i hu
      have e := ofNat_toNat (48 + u % 10) (by omega)
      rw [numG_append, ih (u / 10) (by omega) (by omega)]
      dsimp only [Option.bind_some]
      rw [numG, if_neg, numG, e]
      · congr 1; omega
      · rw [e]
        simp only [isDig, e]
        rintro (h1 | h1)
        · simp at h1; omega
        · omega
theorem dec_ne (u : Nat) : decDigits u ≠ [] := by
  rw [decDigits]
  split <;> simp
theorem dec_head (u : Nat) : (u < 10 ∧ decDigits u = [UInt8.ofNat (48 + u)]) ∨ (10 ≤ u ∧ 1 < (decDigits u).length ∧ ∃ d t, 1 ≤ d ∧ d ≤ 9 ∧ decDigits u = UInt8.ofNat (48 + d) :: t) := by
  induction u using Nat.strongRecOn with
  | _ u ih =>
    rw [decDigits]
    split
    · rename_i hu; exact .inl ⟨hu, rfl⟩
    · rename_i hu
      refine .inr ⟨by omega, ?_⟩
      rcases ih (u / 10) (by omega) with ⟨h1, h2⟩ | ⟨h1, h2, d, t, h3, h4, h5⟩
      · rw [h2]; exact ⟨by simp, u / 10, [UInt8.ofNat (48 + u % 10)], by omega, by omega, rfl⟩
      · refine ⟨by simp; omega, d, t ++ [UInt8.ofNat (48 + u % 10)], h3, h4, by rw [h5]; rfl⟩
theorem numD_dec (u : Nat) (h : u < 18446744073709551616) : numD (decDigits u) = some u := by
  unfold numD
  rw [if_neg, numG_dec u h]
  rintro (h1 | ⟨h1, h2⟩)
  · exact dec_ne u h1
  · rcases dec_head u with ⟨h3, h4⟩ | ⟨h3, h4, d, t, h5, h6, h7⟩
    · rw [h4] at h1; simp at h1
    · rw [h7] at h2
      simp only [List.head?_cons, Option.some.injEq] at h2
      have := congrArg UInt8.toNat h2
      rw [ofNat_toNat _ (by omega)] at this
      have e : (48 : UInt8).toNat = 48 := rfl
      omega
theorem dig_eq {c : UInt8} (h : isDig c = true) : c = UInt8.ofNat (48 + (c.toNat - 48)) ∧ c.toNat - 48 ≤ 9 := by
  simp only [isDig, Bool.and_eq_true, decide_eq_true_eq] at h
  refine ⟨?_, by omega⟩
  rw [show 48 + (c.toNat - 48) = c.toNat by omega]
  simp
theorem dec_snoc {n d : Nat} (hn : 1 ≤ n) (hd : d ≤ 9) : decDigits (10 * n + d) = decDigits n ++ [UInt8.ofNat (48 + d)] := by
  rw [decDigits, dif_neg (by omega), show (10 * n + d) / 10 = n by omega, show (10 * n + d) % 10 = d by omega]
theorem numG_own (s : List UInt8) : ∀ n m, 1 ≤ n → numG s n = some m → decDigits m = decDigits n ++ s ∧ m < 18446744073709551616 ∨ (s = [] ∧ m = n) := by
  induction s with
  | nil => intro n m _ h; simp only [numG, Option.some.injEq] at h; exact .inr ⟨rfl, h.symm⟩
  | cons c s ih =>
    intro n m hn h
    rw [numG] at h
    split at h
    · cases h
    · rename_i hno
      have hc : isDig c = true := by
        cases hh : isDig c with
        | true => rfl
        | false => exact absurd (.inl hh) hno
      obtain ⟨e, hd⟩ := dig_eq hc
      have hs := dec_snoc hn hd
      have hle : 10 * n + (c.toNat - 48) < 18446744073709551616 := by
        have : ¬ 18446744073709551615 < 10 * n + (c.toNat - 48) := fun h => hno (.inr h)
        omega
      refine .inl ?_
      rcases ih _ m (by omega) h with ⟨h1, h2⟩ | ⟨h1, h2⟩
      · rw [h1, hs, ← e]; exact ⟨by simp, h2⟩
      · rw [h1, h2, hs, ← e]; exact ⟨rfl, hle⟩
/-- Digits that are read are the number's own. -/
theorem numD_own {s : List UInt8} {m : Nat} (h : numD s = some m) : s = decDigits m ∧ m < 18446744073709551616 := by
  unfold numD at h
  split at h
  · cases h
  · rename_i hno
    cases s with
    | nil => exact absurd (.inl rfl) hno
    | cons c s =>
      rw [numG] at h
      split at h
      · cases h
      · rename_i hd0
        have hc : isDig c = true := by
          cases hh : isDig c with
          | true => rfl
          | false => exact absurd (.inl hh) hd0
        obtain ⟨e, hd⟩ := dig_eq hc
        rw [Nat.mul_zero, Nat.zero_add] at h
        have h1 : decDigits (c.toNat - 48) = [c] := by rw [decDigits, dif_pos (by omega), ← e]
        by_cases hz : c.toNat - 48 = 0
        · have hc48 : c = 48 := by rw [e, hz]; rfl
          have hs : s = [] := by
            cases s with
            | nil => rfl
            | cons d t => exact absurd (.inr ⟨by simp, by rw [hc48]; rfl⟩) hno
          subst hs
          simp only [numG, Option.some.injEq] at h
          rw [← h, h1]
          exact ⟨rfl, by omega⟩
        · rcases numG_own s _ m (by omega) h with ⟨h2, h3⟩ | ⟨h2, h3⟩
          · rw [h2, h1]; exact ⟨rfl, h3⟩
          · rw [h2, h3, h1]; exact ⟨rfl, by omega⟩
theorem itoa_head {n : Nat} : (decDigits n).head? ≠ some 45 := by
  intro h
  rcases dec_head n with ⟨h1, h2⟩ | ⟨h1, h2, d, t, h3, h4, h5⟩
  · rw [h2] at h
    simp only [List.head?_cons, Option.some.injEq] at h
    have := congrArg UInt8.toNat h
    rw [ofNat_toNat _ (by omega)] at this
    have e : (45 : UInt8).toNat = 45 := rfl
    omega
  · rw [h5] at h
    simp only [List.head?_cons, Option.some.injEq] at h
    have := congrArg UInt8.toNat h
    rw [ofNat_toNat _ (by omega)] at this
    have e : (45 : UInt8).toNat = 45 := rfl
    omega
theorem intD_itoa (z : Int) (h : I64 z) : intD (itoa z) = some z := by
  unfold I64 at h
  unfold itoa intD
  split
  · rename_i hz
    rw [if_pos (show (45 :: decDigits z.natAbs).head? = some 45 from rfl)]
    show (numD (decDigits z.natAbs)).bind _ = _
    rw [numD_dec _ (by omega)]
    dsimp only [Option.bind_some]
    rw [if_neg (by omega)]
    congr 1
    omega
  · rename_i hz
    rw [if_neg itoa_head, numD_dec _ (by omega)]
    dsimp only [Option.bind_some]
    rw [if_neg (by omega)]
    congr 1
    omega
theorem intD_own {s : List UInt8} {z : Int} (h : intD s = some z) : s = itoa z ∧ I64 z := by
  unfold intD at h
  split at h
  · rename_i hs
    cases s with
    | nil => simp at hs
    | cons c s =>
      simp only [List.head?_cons, Option.some.injEq] at hs
      subst hs
      rw [List.drop_succ_cons, List.drop_zero] at h
      cases hn : numD s with
      | none => rw [hn] at h; cases h
      | some n =>
        rw [hn] at h
        dsimp only [Option.bind_some] at h
        split at h
        · cases h
        · simp only [Option.some.injEq] at h
          subst h
          obtain ⟨e, -⟩ := numD_own hn
          refine ⟨?_, by unfold I64; omega⟩
          unfold itoa
          rw [if_pos (by omega), show (-(n : Int)).natAbs = n by omega, ← e]
  · cases hn : numD s with
    | none => rw [hn] at h; cases h
    | some n =>
      rw [hn] at h
      dsimp only [Option.bind_some] at h
      split at h
      · cases h
      · simp only [Option.some.injEq] at h
        subst h
        obtain ⟨e, -⟩ := numD_own hn
        refine ⟨?_, by unfold I64; omega⟩
        unfold itoa
        rw [if_neg (by omega), show (n : Int).toNat = n by omega, ← e]
/-- A hexadecimal digit. -/
def hexC (d : Nat) : UInt8 := UInt8.ofNat (if d < 10 then 48 + d else 87 + d)
/-- What it is worth. -/
def digC (c : UInt8) : Option Nat := if 48 ≤ c.toNat ∧ c.toNat ≤ 57 then some (c.toNat - 48) else if 97 ≤ c.toNat ∧ c.toNat ≤ 102 then some (c.toNat - 87) else none
def hexS (s : List UInt8) : List UInt8 := s.flatMap fun b => [hexC (b.toNat / 16), hexC (b.toNat % 16)]
def unhexS : List UInt8 → Option (List UInt8)
  | [] => some []
  | [_] => none
  | a :: b :: s => (digC a).bind fun x => (digC b).bind fun y => (unhexS s).map fun r => UInt8.ofNat (16 * x + y) :: r
theorem digC_hex (d : Nat) (h : d < 16) : digC (hexC d) = some d := by
  unfold digC hexC
  split
  · rw [ofNat_toNat _ (by omega), if_pos (by omega)]; congr 1; omega
  · rw [ofNat_toNat _ (by omega), if_neg (by omega), if_pos (by omega)]; congr 1; omega
theorem digC_own {c : UInt8} {d : Nat} (h : digC c = some d) : c = hexC d ∧ d < 16 := by
  unfold digC at h
  unfold hexC
  split at h
  · simp only [Option.some.injEq] at h
    subst h
    refine ⟨?_, by omega⟩
    rw [if_pos (by omega), show 48 + (c.toNat - 48) = c.toNat by omega]
    simp
  · split at h
    · simp only [Option.some.injEq] at h
      subst h
      refine ⟨?_, by omega⟩
      rw [if_neg (by omega), show 87 + (c.toNat - 87) = c.toNat by omega]
      simp
    · cases h
theorem unhex_hex (s : List UInt8) : unhexS (hexS s) = some s := by
  induction s with
  | nil => rfl
  | cons b s ih =>
    have hb := b.toNat_lt
    have e : hexS (b :: s) = hexC (b.toNat / 16) :: hexC (b.toNat % 16) :: hexS s := rfl
    rw [e, unhexS, digC_hex _ (by omega)]
    dsimp only [Option.bind_some]
    rw [digC_hex _ (by omega)]
    dsimp only [Option.bind_some]
    rw [ih, show 16 * (b.toNat / 16) + b.toNat % 16 = b.toNat by omega]
    simp
theorem unhex_own : ∀ {s r : List UInt8}, unhexS s = some r → s = hexS r
  | [], r, h => by simp only [unhexS, Option.some.injEq] at h; subst h; rfl
  | [_], r, h => by simp [unhexS] at h
  | a :: b :: s, r, h => by
    rw [unhexS] at h
    cases h1 : digC a with
    | none => rw [h1] at h; cases h
    | some x =>
      rw [h1] at h
      dsimp only [Option.bind_some] at h
      cases h2 : digC b with
      | none => rw [h2] at h; cases h
      | some y =>
        rw [h2] at h
        dsimp only [Option.bind_some] at h
        cases h3 : unhexS s with
        | none => rw [h3] at h; cases h
        | some q =>
          rw [h3] at h
          simp only [Option.map_some, Option.some.injEq] at h
          subst h
          obtain ⟨e1, l1⟩ := digC_own h1
          obtain ⟨e2, l2⟩ := digC_own h2
          have e : hexS (UInt8.ofNat (16 * x + y) :: q) = hexC ((UInt8.ofNat (16 * x + y)).toNat / 16) :: hexC ((UInt8.ofNat (16 * x + y)).toNat % 16) :: hexS q := rfl
          rw [e, ofNat_toNat _ (by omega), show (16 * x + y) / 16 = x by omega, show (16 * x + y) % 16 = y by omega, ← e1, ← e2, ← unhex_own h3]
end Go.Proofs.YtpodoiichpnpjaaDoor
namespace Go.Proofs.YtpodoiichpnpjaaDoor
open Go.Lib (decDigits itoa)
set_option linter.unusedVariables false
/-- An instruction: an operation's number and an integer. -/
structure In where
  op : Int
  arg : Int
instance : Inhabited In := ⟨⟨0, 0⟩⟩
/-- A program. -/
structure Pg where
  names : List (List UInt8)
  code : List In
/-- What a line is. -/
inductive Ln where
  | nm (k : List UInt8)
  | ins (op : Nat) (arg : Int)
/-- The word name, and a blank. -/
def nameB : List UInt8 := [110, 97, 109, 101, 32]
/-- The line of an operation's word. -/
def wline (w : List UInt8) (k : Nat) (arg : Int) : List UInt8 := if k = 0 then w else w ++ 32 :: itoa arg
def lineG : List (List UInt8 × Nat) → Nat → List UInt8 → Option Ln
  | [], _, _ => none
  | (w, k) :: T, o, s => if k = 0 ∧ s = w then some (.ins o 0) else if 0 < k ∧ s.take (w.length + 1) = w ++ [32] then (intD (s.drop (w.length + 1))).map (.ins o) else lineG T (o + 1) s
/-- What a line is, if it is one. -/
def line1 (s : List UInt8) : Option Ln :=
  if s.take 5 = nameB then (unhexS (s.drop 5)).bind fun k => if isKey k = true then some (.nm k) else none else lineG words 0 s
/-- A blank parts a word from what is behind it. -/
theorem blank_cut : ∀ {w w' t : List UInt8}, 32 ∉ w → 32 ∉ w' → (w ++ 32 :: t).take (w'.length + 1) = w' ++ [32] → w = w'
  | [], [], t, _, _, _ => rfl
  | [], c :: w', t, _, h2, h => by
    simp only [List.nil_append, List.length_cons, List.take_succ_cons, List.cons_append, List.cons.injEq] at h
    exact absurd (by rw [← h.1]; simp) h2
  | c :: w, [], t, h1, _, h => by
    simp only [List.cons_append, List.length_nil, List.take_succ_cons, List.nil_append, List.cons.injEq] at h
    exact absurd (by rw [h.1]; simp) h1
  | c :: w, d :: w', t, h1, h2, h => by
    simp only [List.cons_append, List.length_cons, List.take_succ_cons, List.cons.injEq] at h
    rw [h.1, blank_cut (fun e => h1 (by simp [e])) (fun e => h2 (by simp [e])) h.2]
theorem blank_take (w t : List UInt8) : (w ++ 32 :: t).take (w.length + 1) = w ++ [32] ∧ (w ++ 32 :: t).drop (w.length + 1) = t := by
  constructor
  · rw [List.take_append, List.take_of_length_le (by omega), Nat.add_sub_cancel_left]; rfl
  · rw [List.drop_append, List.drop_eq_nil_of_le (by omega), Nat.add_sub_cancel_left]; rfl
theorem lineG_back : ∀ {T : List (List UInt8 × Nat)} {o i : Nat} {w : List UInt8} {k : Nat} {arg : Int}, (∀ x ∈ T, 32 ∉ x.1) → (T.map (·.1)).Nodup → T[i]? = some (w, k) → (k = 0 → arg = 0) → I64 arg → lineG T o (wline w k arg) = some (.ins (o + i) arg)
  | [], o, i, w, k, arg, _, _, h, _, _ => by simp at h
  | (w', k') :: T, o, 0, w, k, arg, hb, hn, h, h0, ha => by
    simp only [List.getElem?_cons_zero, Option.some.injEq, Prod.mk.injEq] at h
    obtain ⟨rfl, rfl⟩ := h
    rw [lineG, wline]
    by_cases hk : k' = 0
    · rw [if_pos hk, if_pos ⟨hk, rfl⟩, h0 hk]; rfl
    · obtain ⟨e1, e2⟩ := blank_take w' (itoa arg)
      rw [if_neg hk, if_neg (fun e => hk e.1), if_pos ⟨by omega, e1⟩, e2, intD_itoa arg ha]
      rfl
  | (w', k') :: T, o, i + 1, w, k, arg, hb, hn, h, h0, ha => by
    rw [List.getElem?_cons_succ] at h
    rw [List.map_cons, List.nodup_cons] at hn
    have hm := List.mem_of_getElem? h
    have hne : w ≠ w' := fun e => hn.1 (List.mem_map.2 ⟨_, hm, by rw [← e]⟩)
    have hw := hb (w, k) (by simp [hm])
    have hw' := hb (w', k') (by simp)
    dsimp only at hw hw'
    rw [lineG]
    have h1 : ¬ (k' = 0 ∧ wline w k arg = w') := by
      rintro ⟨-, e⟩
      unfold wline at e
      split at e
      · exact hne e
      · exact hw' (by rw [← e]; simp)
    have h2 : ¬ (0 < k' ∧ (wline w k arg).take (w'.length + 1) = w' ++ [32]) := by
      rintro ⟨-, e⟩
      unfold wline at e
      split at e
      · have : (32 : UInt8) ∈ w.take (w'.length + 1) := by rw [e]; simp
        exact hw (List.mem_of_mem_take this)
      · exact hne (blank_cut hw hw' e)
    rw [if_neg h1, if_neg h2, lineG_back (fun x hx => hb x (by simp [hx])) hn.2 h h0 ha]
    congr 2
    omega
theorem lineG_own : ∀ {T : List (List UInt8 × Nat)} {o : Nat} {s : List UInt8} {x : Ln}, lineG T o s = some x → ∃ i w k arg, T[i]? = some (w, k) ∧ x = .ins (o + i) arg ∧ s = wline w k arg ∧ (k = 0 → arg = 0) ∧ I64 arg
  | [], o, s, x, h => by simp [lineG] at h
  | (w, k) :: T, o, s, x, h => by
    rw [lineG] at h
    split at h
    · rename_i h1
      simp only [Option.some.injEq] at h
      subst h
      exact ⟨0, w, k, 0, rfl, rfl, by unfold wline; rw [if_pos h1.1]; exact h1.2, fun _ => rfl, by unfold I64; omega⟩
    · split at h
      · rename_i h2
        cases hi : intD (s.drop (w.length + 1)) with
        | none => rw [hi] at h; cases h
        | some z =>
          rw [hi] at h
          simp only [Option.map_some, Option.some.injEq] at h
          subst h
          obtain ⟨e, hz⟩ := intD_own hi
          refine ⟨0, w, k, z, rfl, rfl, ?_, fun e => by omega, hz⟩
          unfold wline
          rw [if_neg (by omega), ← e]
          have := List.take_append_drop (w.length + 1) s
          rw [h2.2] at this
          rw [← this]
          simp
      · obtain ⟨i, w', k', arg, h1, h2, h3, h4, h5⟩ := lineG_own h
        exact ⟨i + 1, w', k', arg, by simpa using h1, by rw [h2]; congr 1; omega, h3, h4, h5⟩
theorem words_blank : ∀ x ∈ words, (32 : UInt8) ∉ x.1 := by decide
theorem words_nodup : (words.map (·.1)).Nodup := by decide
theorem words_name : ∀ x ∈ words, x.1 ≠ [110, 97, 109, 101] := by decide
theorem words_feed : ∀ x ∈ words, (10 : UInt8) ∉ x.1 := by decide
theorem name_not {w : List UInt8} {k : Nat} (h : (w, k) ∈ words) (arg : Int) : (wline w k arg).take 5 ≠ nameB := by
  intro e
  have hw := words_blank _ h
  dsimp only at hw
  unfold wline at e
  split at e
  · have : (32 : UInt8) ∈ w.take 5 := by rw [e]; decide
    exact hw (List.mem_of_mem_take this)
  · exact words_name _ h (blank_cut (w' := [110, 97, 109, 101]) hw (by decide) e)
/-- An instruction's line is read as it was. -/
theorem line1_ins {i : Nat} {w : List UInt8} {k : Nat} {arg : Int} (h : words[i]? = some (w, k)) (h0 : k = 0 → arg = 0) (ha : I64 arg) : line1 (wline w k arg) = some (.ins i arg) := by
  unfold line1
  rw [if_neg (name_not (List.mem_of_getElem? h) arg), lineG_back words_blank words_nodup h h0 ha, Nat.zero_add]
/-- A name's line is read as it was. -/
theorem line1_name {k : List UInt8} (h : isKey k = true) : line1 (nameB ++ hexS k) = some (.nm k) := by
  unfold line1
  rw [if_pos (by rfl), show (nameB ++ hexS k).drop 5 = hexS k from rfl, unhex_hex]
  dsimp only [Option.bind_some]
  rw [if_pos h]
theorem line1_own {s : List UInt8} {x : Ln} (h : line1 s = some x) : (∃ k, x = .nm k ∧ isKey k = true ∧ s = nameB ++ hexS k) ∨ (∃ i w k arg, words[i]? = some (w, k) ∧ x = .ins i arg ∧ s = wline w k arg ∧ (k = 0 → arg = 0) ∧ I64 arg) := by
  unfold line1 at h
  split at h
  · rename_i hn
    refine .inl ?_
    cases hu : unhexS (s.drop 5) with
    | none => rw [hu] at h; cases h
    | some k =>
      rw [hu] at h
      dsimp only [Option.bind_some] at h
      split at h
      · rename_i hk
        simp only [Option.some.injEq] at h
        refine ⟨k, h.symm, hk, ?_⟩
        rw [← hn, ← unhex_own hu, List.take_append_drop]
      · cases h
  · obtain ⟨i, w, k, arg, h1, h2, h3, h4, h5⟩ := lineG_own h
    exact .inr ⟨i, w, k, arg, h1, by rw [h2, Nat.zero_add], h3, h4, h5⟩
/-- Lines, parted by line feeds; cur: what stands ahead. -/
def splitG : List UInt8 → List UInt8 → List (List UInt8)
  | [], cur => if cur = [] then [] else [cur]
  | c :: s, cur => if c = 10 then cur :: splitG s [] else splitG s (cur ++ [c])
def linesOf (s : List UInt8) : List (List UInt8) := splitG s []
/-- Lines, each with its line feed. -/
def joinL (ls : List (List UInt8)) : List UInt8 := ls.flatMap fun l => l ++ [10]
theorem split_line : ∀ {l : List UInt8} (s cur : List UInt8), 10 ∉ l → splitG (l ++ 10 :: s) cur = (cur ++ l) :: splitG s []
  | [], s, cur, _ => by rw [List.nil_append, splitG, if_pos rfl, List.append_nil]
  | c :: l, s, cur, h => by
    have hc : c ≠ 10 := fun e => h (by simp [e])
    rw [List.cons_append, splitG, if_neg hc, split_line s (cur ++ [c]) (fun e => h (by simp [e]))]
    simp
theorem lines_join : ∀ {ls : List (List UInt8)}, (∀ l ∈ ls, (10 : UInt8) ∉ l) → linesOf (joinL ls) = ls
  | [], _ => rfl
  | l :: ls, h => by
    have e : joinL (l :: ls) = l ++ 10 :: joinL ls := by simp [joinL]
    unfold linesOf
    rw [e, split_line _ _ (h l (by simp)), List.nil_append]
    congr 1
    exact lines_join fun x hx => h x (by simp [hx])
/-- Lines ahead of other text. -/
theorem lines_ahead : ∀ {ls : List (List UInt8)} (s : List UInt8), (∀ l ∈ ls, (10 : UInt8) ∉ l) → linesOf (joinL ls ++ s) = ls ++ linesOf s
  | [], s, _ => rfl
  | l :: ls, s, h => by
    have e : joinL (l :: ls) ++ s = l ++ 10 :: (joinL ls ++ s) := by simp [joinL]
    unfold linesOf
    rw [e, split_line _ _ (h l (by simp)), List.nil_append]
    rw [List.cons_append]
    congr 1
    exact lines_ahead s fun x hx => h x (by simp [hx])
theorem join_split (s : List UInt8) : ∀ cur, joinL (splitG s cur) = cur ++ s ∨ joinL (splitG s cur) = cur ++ s ++ [10] := by
  induction s with
  | nil =>
    intro cur
    rw [splitG]
    split
    · rename_i h; subst h; exact .inl rfl
    · exact .inr (by simp [joinL])
  | cons c s ih =>
    intro cur
    rw [splitG]
    split
    · rename_i h
      subst h
      have e : joinL (cur :: splitG s []) = cur ++ 10 :: joinL (splitG s []) := by simp [joinL]
      rw [e]
      rcases ih [] with h | h
      · rw [h]; exact .inl (by simp)
      · rw [h]; exact .inr (by simp)
    · rcases ih (cur ++ [c]) with h | h
      · rw [h]; exact .inl (by simp)
      · rw [h]; exact .inr (by simp)
theorem join_lines (s : List UInt8) : joinL (linesOf s) = s ∨ joinL (linesOf s) = s ++ [10] := by
  rcases join_split s [] with h | h
  · exact .inl (by unfold linesOf; rw [h]; simp)
  · exact .inr (by unfold linesOf; rw [h]; simp)
/-- The most that an integer may be, by what it is. -/
def mostI (nn nc : Nat) (k : Nat) : Int := if k = 0 then 0 else if k = 2 then 7 else if k = 3 then 3 else if k = 4 then (nc : Int) else (nn : Int) - 1
def okI (nn nc : Nat) (x : In) : Bool := match words[x.op.toNat]? with
  | some (w, k) => decide (0 ≤ x.op) && (decide (k = 1) || (decide (0 ≤ x.arg) && decide (x.arg ≤ mostI nn nc k)))
  | none => false
/-- A program is formed. -/
def formedP (p : Pg) : Bool := decide (p.names.length ≤ 8) && decide (p.code.length ≤ 200) && p.names.all isKey && p.code.all (okI p.names.length p.code.length)
/-- Its integers are of 64 bits. -/
def OkP (p : Pg) : Prop := ∀ x ∈ p.code, I64 x.arg
/-- An instruction's line. -/
def iline (x : In) : List UInt8 := match words[x.op.toNat]? with
  | some (w, k) => wline w k x.arg
  | none => []
def plines (p : Pg) : List (List UInt8) := p.names.map (fun k => nameB ++ hexS k) ++ p.code.map iline
/-- A program's text. -/
def printP (p : Pg) : List UInt8 := joinL (plines p)
theorem hexS_feed (s : List UInt8) : (10 : UInt8) ∉ hexS s := by
  intro h
  unfold hexS at h
  obtain ⟨b, hb, h⟩ := List.mem_flatMap.1 h
  have hlt := b.toNat_lt
  have key : ∀ d, d < 16 → hexC d ≠ 10 := by decide
  simp only [List.mem_cons, List.not_mem_nil, or_false] at h
  rcases h with h | h
  · exact key _ (by omega) h.symm
  · exact key _ (by omega) h.symm
theorem dec_feed (u : Nat) : (10 : UInt8) ∉ decDigits u := by
  have key : ∀ d, d < 10 → UInt8.ofNat (48 + d) ≠ 10 := by decide
  induction u using Nat.strongRecOn with
  | _ u ih =>
    rw [decDigits]
    split
    · rename_i hu
      intro h
      simp only [List.mem_cons, List.not_mem_nil, or_false] at h
      exact key u hu h.symm
    · rename_i hu
      intro h
      rcases List.mem_append.1 h with h | h
      · exact ih (u / 10) (by omega) h
      · simp only [List.mem_cons, List.not_mem_nil, or_false] at h
        exact key _ (by omega) h.symm
theorem itoa_feed (z : Int) : (10 : UInt8) ∉ itoa z := by
  unfold itoa
  split
  · intro h
    rcases List.mem_cons.1 h with h | h
    · exact absurd h (by decide)
    · exact dec_feed _ h
  · exact dec_feed _
theorem wline_feed {w : List UInt8} {k : Nat} (h : (w, k) ∈ words) (arg : Int) : (10 : UInt8) ∉ wline w k arg := by
  have hw := words_feed _ h
  unfold wline
  split
  · exact hw
  · intro e
    rcases List.mem_append.1 e with e | e
    · exact hw e
    · rcases List.mem_cons.1 e with e | e
      · exact absurd e (by decide)
      · exact itoa_feed arg e
theorem plines_feed (p : Pg) : ∀ l ∈ plines p, (10 : UInt8) ∉ l := fun l hl => by
  rcases List.mem_append.1 hl with hl | hl
  · obtain ⟨k, -, rfl⟩ := List.mem_map.1 hl
    intro e
    rcases List.mem_append.1 e with e | e
    · exact absurd e (by decide)
    · exact hexS_feed k e
  · obtain ⟨x, -, rfl⟩ := List.mem_map.1 hl
    unfold iline
    split
    · rename_i w k h
      exact wline_feed (List.mem_of_getElem? h) x.arg
    · simp
/-- What is read so far: names, instructions, and whether a name came behind an instruction. -/
structure Ps where
  names : List (List UInt8)
  code : List In
  late : Bool
def Ps.add (st : Ps) : Ln → Ps
  | .nm k => ⟨st.names ++ [k], st.code, st.late || !st.code.isEmpty⟩
  | .ins op arg => ⟨st.names, st.code ++ [⟨(op : Int), arg⟩], st.late⟩
/-- Lines that are read: the first that is none, or all. -/
def parseF : List (List UInt8) → Nat → Ps → Sum Nat Ps
  | [], _, st => .inr st
  | l :: ls, i, st => match line1 l with
    | none => .inl (i + 1)
    | some x => parseF ls (i + 1) (st.add x)
/-- What Parse tells: a program, or the number of a line with an error. -/
def parseP (s : List UInt8) : Sum Nat Pg := match parseF (linesOf s) 0 ⟨[], [], false⟩ with
  | .inl n => .inl n
  | .inr st => if st.late = true ∨ formedP ⟨st.names, st.code⟩ = false then .inl 0 else .inr ⟨st.names, st.code⟩
theorem okI_some {nn nc : Nat} {x : In} (h : okI nn nc x = true) : ∃ (i : Nat) (w : List UInt8) (k : Nat), x.op = (i : Int) ∧ words[i]? = some (w, k) ∧ (k = 0 → x.arg = 0) := by
  unfold okI at h
  split at h
  · rename_i w k hw
    simp only [Bool.and_eq_true, Bool.or_eq_true, decide_eq_true_eq] at h
    refine ⟨x.op.toNat, w, k, by omega, hw, fun hk => ?_⟩
    subst hk
    rcases h.2 with h2 | ⟨h2, h3⟩
    · omega
    · unfold mostI at h3
      rw [if_pos rfl] at h3
      omega
  · cases h
theorem parseF_names (ns : List (List UInt8)) : ∀ (i : Nat) (st : Ps) (rest : List (List UInt8)), st.code = [] → (∀ k ∈ ns, isKey k = true) → parseF (ns.map (fun k => nameB ++ hexS k) ++ rest) i st = parseF rest (i + ns.length) ⟨st.names ++ ns, [], st.late⟩ := by
  induction ns with
  | nil =>
    intro i st rest hc _
    obtain ⟨a, b, c⟩ := st
    dsimp only at hc
    subst hc
    simp
  | cons k ns ih =>
    intro i st rest hc h
    rw [List.map_cons, List.cons_append, parseF, line1_name (h k (by simp))]
    dsimp only
    rw [ih (i + 1) (st.add (.nm k)) rest hc (fun y hy => h y (by simp [hy]))]
    unfold Ps.add
    dsimp only
    rw [hc]
    simp only [List.isEmpty_nil, Bool.not_true, Bool.or_false, List.append_assoc, List.cons_append, List.nil_append, List.length_cons]
    congr 1
    omega
theorem parseF_code (xs : List In) (nn nc : Nat) : ∀ (i : Nat) (st : Ps) (rest : List (List UInt8)), (∀ x ∈ xs, okI nn nc x = true ∧ I64 x.arg) → parseF (xs.map iline ++ rest) i st = parseF rest (i + xs.length) ⟨st.names, st.code ++ xs, st.late⟩ := by
  induction xs with
  | nil => intro i st rest _; simp
  | cons x xs ih =>
    intro i st rest h
    obtain ⟨h1, h2⟩ := h x (by simp)
    obtain ⟨j, w, k, e1, e2, e3⟩ := okI_some h1
    have hl : iline x = wline w k x.arg := by
      unfold iline
      rw [e1, Int.toNat_natCast, e2]
    rw [List.map_cons, List.cons_append, parseF, hl, line1_ins e2 e3 h2]
    dsimp only
    rw [ih (i + 1) _ rest (fun y hy => h y (by simp [hy]))]
    unfold Ps.add
    dsimp only
    rw [← e1]
    simp only [List.append_assoc, List.cons_append, List.nil_append, List.length_cons]
    congr 1
    omega
theorem formed_parts {p : Pg} (h : formedP p = true) : p.names.length ≤ 8 ∧ p.code.length ≤ 200 ∧ (∀ k ∈ p.names, isKey k = true) ∧ ∀ x ∈ p.code, okI p.names.length p.code.length x = true := by
  unfold formedP at h
  simp only [Bool.and_eq_true, decide_eq_true_eq, List.all_eq_true] at h
  exact ⟨h.1.1.1, h.1.1.2, h.1.2, h.2⟩
/-- What was printed is parsed, ahead of any other lines. -/
theorem parseF_print {p : Pg} (h : formedP p = true) (ho : OkP p) (rest : List (List UInt8)) : parseF (plines p ++ rest) 0 ⟨[], [], false⟩ = parseF rest (p.names.length + p.code.length) ⟨p.names, p.code, false⟩ := by
  obtain ⟨h1, h2, h3, h4⟩ := formed_parts h
  unfold plines
  rw [List.append_assoc, parseF_names p.names 0 _ _ rfl h3, parseF_code p.code _ _ _ _ _ (fun x hx => ⟨h4 x hx, ho x hx⟩)]
  simp
theorem parse_print {p : Pg} (h : formedP p = true) (ho : OkP p) : parseP (printP p) = .inr p := by
  unfold parseP printP
  rw [lines_join (plines_feed p)]
  have := parseF_print h ho []
  rw [List.append_nil] at this
  rw [this]
  obtain ⟨a, b⟩ := p
  simp [parseF, h]
/-- A text that begins with a printed program, and then has a line that is none. -/
theorem parse_behind {p : Pg} (h : formedP p = true) (ho : OkP p) {line behind : List UInt8} (hl : 10 ∉ line) (hn : line1 line = none) : parseP (printP p ++ (line ++ 10 :: behind)) = .inl (p.names.length + p.code.length + 1) := by
  unfold parseP printP
  rw [lines_ahead _ (plines_feed p)]
  have e : linesOf (line ++ 10 :: behind) = line :: linesOf behind := by
    unfold linesOf
    rw [split_line _ _ hl, List.nil_append]
  rw [parseF_print h ho, e, parseF, hn]
/-- What is parsed, line by line, has these lines. -/
theorem parseF_own : ∀ (ls : List (List UInt8)) (i : Nat) (st st' : Ps), st.late = false → parseF ls i st = .inr st' → st'.late = false → ∃ ns xs, st'.names = st.names ++ ns ∧ st'.code = st.code ++ xs ∧ ls = ns.map (fun k => nameB ++ hexS k) ++ xs.map iline ∧ (st.code ≠ [] → ns = []) ∧ (∀ x ∈ xs, I64 x.arg)
  | [], i, st, st', _, h, _ => by
    simp only [parseF, Sum.inr.injEq] at h
    subst h
    exact ⟨[], [], by simp, by simp, rfl, fun _ => rfl, by simp⟩
  | l :: ls, i, st, st', hl, h, hl' => by
    rw [parseF] at h
    cases hx : line1 l with
    | none => rw [hx] at h; cases h
    | some x =>
      rw [hx] at h
      dsimp only at h
      rcases line1_own hx with ⟨k, rfl, hk, hs⟩ | ⟨j, w, k, arg, hw, rfl, hs, h0, ha⟩
      · -- a name
        have mono : ∀ (ls : List (List UInt8)) (i : Nat) (s t : Ps), parseF ls i s = .inr t → s.late = true → t.late = true := by
          intro ls
          induction ls with
          | nil => intro i s t h hs; simp only [parseF, Sum.inr.injEq] at h; rw [← h]; exact hs
          | cons l ls ih =>
            intro i s t h hs
            rw [parseF] at h
            cases hx : line1 l with
            | none => rw [hx] at h; cases h
            | some x =>
              rw [hx] at h
              refine ih _ _ _ h ?_
              cases x with
              | nm k => simp [Ps.add, hs]
              | ins o a => simp [Ps.add, hs]
        have hc : st.code = [] := by
          cases hcc : st.code with
          | nil => rfl
          | cons y t =>
            have := mono _ _ _ _ h (by simp [Ps.add, hcc])
            rw [this] at hl'
            cases hl'
        have hla : (st.add (.nm k)).late = false := by simp [Ps.add, hl, hc]
        obtain ⟨ns, xs, i1, i2, i3, i4, i5⟩ := parseF_own ls (i + 1) _ st' hla h hl'
        refine ⟨k :: ns, xs, by rw [i1]; simp [Ps.add], by rw [i2]; rfl, by rw [i3, hs]; rfl, fun e => absurd hc e, i5⟩
      · obtain ⟨ns, xs, i1, i2, i3, i4, i5⟩ := parseF_own ls (i + 1) (st.add (.ins j arg)) st' hl h hl'
        have hns := i4 (by simp [Ps.add])
        subst hns
        have hline : iline ⟨(j : Int), arg⟩ = wline w k arg := by
          unfold iline
          dsimp only
          rw [Int.toNat_natCast, hw]
        refine ⟨[], ⟨(j : Int), arg⟩ :: xs, by rw [i1]; simp [Ps.add], by rw [i2]; simp [Ps.add], ?_, fun _ => rfl, fun x hx => ?_⟩
        · rw [i3, hs, List.map_cons, hline]; rfl
        · rcases List.mem_cons.1 hx with rfl | hx
          · exact ha
          · exact i5 x hx
/-- A text that is parsed is printed, without its last line feed, as it was. -/
theorem print_parse {s : List UInt8} {p : Pg} (h : parseP s = .inr p) : formedP p = true ∧ OkP p ∧ (printP p = s ∨ printP p = s ++ [10]) := by
  unfold parseP at h
  cases hp : parseF (linesOf s) 0 ⟨[], [], false⟩ with
  | inl n => rw [hp] at h; cases h
  | inr st =>
    rw [hp] at h
    dsimp only at h
    split at h
    · cases h
    · rename_i hno
      simp only [Sum.inr.injEq] at h
      subst h
      have hf : formedP ⟨st.names, st.code⟩ = true := by
        cases hh : formedP ⟨st.names, st.code⟩ with
        | true => rfl
        | false => exact absurd (.inr hh) hno
      have hl : st.late = false := by
        cases hh : st.late with
        | false => rfl
        | true => exact absurd (.inl hh) hno
      obtain ⟨ns, xs, i1, i2, i3, i4, i5⟩ := parseF_own _ 0 _ st rfl hp hl
      rw [List.nil_append] at i1 i2
      refine ⟨hf, fun x hx => i5 x (by rw [← i2]; exact hx), ?_⟩
      have e : printP ⟨st.names, st.code⟩ = joinL (linesOf s) := by
        unfold printP plines
        dsimp only
        rw [i1, i2, ← i3]
      rw [e]
      exact join_lines s
end Go.Proofs.YtpodoiichpnpjaaDoor
namespace Go.Proofs.YtpodoiichpnpjaaDoor
set_option linter.unusedVariables false
def encN (ns : List (List UInt8)) : List UInt8 := ns.flatMap encTx
def encX (xs : List In) : List UInt8 := xs.flatMap fun x => enc x.op.toNat ++ enc (fold x.arg)
/-- A program's bytes. -/
def encPg (p : Pg) : List UInt8 := enc p.names.length ++ (encN p.names ++ (enc p.code.length ++ encX p.code))
/-- n texts more. -/
def rnm : Nat → List (List UInt8) → List UInt8 → Option (List (List UInt8) × List UInt8)
  | 0, N, l => some (N, l)
  | n + 1, N, l => (txt l).bind fun a => rnm n (N ++ [a.1]) a.2
/-- n instructions more. -/
def rin : Nat → List In → List UInt8 → Option (List In × List UInt8)
  | 0, C, l => some (C, l)
  | n + 1, C, l => (num l).bind fun a => if 23 < a.1 then none else (int a.2).bind fun b => rin n (C ++ [⟨(a.1 : Int), b.1⟩]) b.2
/-- The program that bytes are. -/
def decPg (l : List UInt8) : Option Pg := (num l).bind fun a => if 8 < a.1 then none else (rnm a.1 [] a.2).bind fun b => (num b.2).bind fun c => if 200 < c.1 then none else
  (rin c.1 [] c.2).bind fun d => if d.2 = [] ∧ formedP ⟨b.1, d.1⟩ = true then some ⟨b.1, d.1⟩ else none
theorem rnm_back (X : List (List UInt8)) : ∀ P r, (∀ k ∈ X, k.length < 18446744073709551616) → rnm X.length P (encN X ++ r) = some (P ++ X, r) := by
  induction X with
  | nil => intro P r _; simp [rnm, encN]
  | cons x X ih =>
    intro P r h
    have e : encN (x :: X) ++ r = encTx x ++ (encN X ++ r) := by simp [encN]
    rw [List.length_cons, rnm, e, txt_back x (h x (by simp))]
    dsimp only [Option.bind_some]
    rw [ih (P ++ [x]) r (fun y hy => h y (by simp [hy]))]
    simp
theorem rnm_fwd (n : Nat) : ∀ P l N r, rnm n P l = some (N, r) → ∃ X, X.length = n ∧ N = P ++ X ∧ l = encN X ++ r := by
  induction n with
  | zero =>
    intro P l N r h
    simp only [rnm, Option.some.injEq, Prod.mk.injEq] at h
    obtain ⟨rfl, rfl⟩ := h
    exact ⟨[], rfl, by simp, by simp [encN]⟩
  | succ n ih =>
    intro P l N r h
    rw [rnm] at h
    cases h1 : txt l with
    | none => rw [h1] at h; cases h
    | some a =>
      obtain ⟨k, l1⟩ := a
      rw [h1] at h
      dsimp only [Option.bind_some] at h
      obtain ⟨X, h4, h5, h6⟩ := ih (P ++ [k]) l1 N r h
      exact ⟨k :: X, by simp [h4], by rw [h5]; simp, by rw [txt_fwd h1, h6]; simp [encN]⟩
theorem rin_back (X : List In) : ∀ P r, (∀ x ∈ X, (∃ i : Nat, x.op = (i : Int) ∧ i ≤ 23) ∧ I64 x.arg) → rin X.length P (encX X ++ r) = some (P ++ X, r) := by
  induction X with
  | nil => intro P r _; simp [rin, encX]
  | cons x X ih =>
    intro P r h
    obtain ⟨⟨i, hi, hl⟩, ha⟩ := h x (by simp)
    have e : encX (x :: X) ++ r = enc i ++ (enc (fold x.arg) ++ (encX X ++ r)) := by simp [encX, hi]
    rw [List.length_cons, rin, e, num_back i (by unfold U64; omega)]
    dsimp only [Option.bind_some]
    rw [if_neg (by omega), int_back x.arg ha]
    dsimp only [Option.bind_some]
    rw [← hi, show (⟨x.op, x.arg⟩ : In) = x from rfl, ih (P ++ [x]) r (fun y hy => h y (by simp [hy]))]
    simp
theorem rin_fwd (n : Nat) : ∀ P l C r, rin n P l = some (C, r) → ∃ X, X.length = n ∧ C = P ++ X ∧ l = encX X ++ r ∧ ∀ x ∈ X, I64 x.arg := by
  induction n with
  | zero =>
    intro P l C r h
    simp only [rin, Option.some.injEq, Prod.mk.injEq] at h
    obtain ⟨rfl, rfl⟩ := h
    exact ⟨[], rfl, by simp, by simp [encX], by simp⟩
  | succ n ih =>
    intro P l C r h
    rw [rin] at h
    cases h1 : num l with
    | none => rw [h1] at h; cases h
    | some a =>
      obtain ⟨i, l1⟩ := a
      rw [h1] at h
      dsimp only [Option.bind_some] at h
      split at h
      · cases h
      · cases h2 : int l1 with
        | none => rw [h2] at h; cases h
        | some b =>
          obtain ⟨z, l2⟩ := b
          rw [h2] at h
          dsimp only [Option.bind_some] at h
          obtain ⟨X, h4, h5, h6, h7⟩ := ih (P ++ [⟨(i : Int), z⟩]) l2 C r h
          refine ⟨⟨(i : Int), z⟩ :: X, by simp [h4], by rw [h5]; simp, ?_, fun y hy => ?_⟩
          · rw [num_fwd h1, int_fwd h2, h6]; simp [encX]
          · rcases List.mem_cons.1 hy with rfl | hy
            · exact (int_some h2).2.2
            · exact h7 y hy
theorem decPg_back {p : Pg} (h : formedP p = true) (ho : OkP p) : decPg (encPg p) = some p := by
  obtain ⟨N, C⟩ := p
  obtain ⟨h1, h2, h3, h4⟩ := formed_parts h
  dsimp only at h1 h2 h3 h4
  have hr1 := rnm_back N [] (enc C.length ++ encX C) (fun k hk => by have := (isKey_iff _).1 (h3 k hk); omega)
  have hr2 := rin_back C [] [] (fun x hx => by
    obtain ⟨i, w, k, e1, e2, -⟩ := okI_some (h4 x hx)
    refine ⟨⟨i, e1, ?_⟩, ho x hx⟩
    have := (List.getElem?_eq_some_iff.1 e2).1
    rw [words_length] at this
    omega)
  rw [List.append_nil, List.nil_append] at hr2
  rw [List.nil_append] at hr1
  unfold decPg encPg
  dsimp only
  rw [num_back N.length (by unfold U64; omega)]
  dsimp only [Option.bind_some]
  rw [if_neg (by omega), hr1]
  dsimp only [Option.bind_some]
  rw [num_back C.length (by unfold U64; omega)]
  dsimp only [Option.bind_some]
  rw [if_neg (by omega), hr2]
  dsimp only [Option.bind_some]
  rw [if_pos ⟨rfl, h⟩]
theorem decPg_fwd {l : List UInt8} {p : Pg} (h : decPg l = some p) : encPg p = l ∧ formedP p = true ∧ OkP p := by
  unfold decPg at h
  cases h1 : num l with
  | none => rw [h1] at h; cases h
  | some a =>
    obtain ⟨n, l1⟩ := a
    rw [h1] at h
    dsimp only [Option.bind_some] at h
    split at h
    · cases h
    · cases h2 : rnm n [] l1 with
      | none => rw [h2] at h; cases h
      | some b =>
        obtain ⟨N, l2⟩ := b
        rw [h2] at h
        dsimp only [Option.bind_some] at h
        cases h3 : num l2 with
        | none => rw [h3] at h; cases h
        | some c =>
          obtain ⟨m, l3⟩ := c
          rw [h3] at h
          dsimp only [Option.bind_some] at h
          split at h
          · cases h
          · cases h4 : rin m [] l3 with
            | none => rw [h4] at h; cases h
            | some d =>
              obtain ⟨C, l4⟩ := d
              rw [h4] at h
              dsimp only [Option.bind_some] at h
              split at h
              · rename_i hend
                simp only [Option.some.injEq] at h
                subst h
                obtain ⟨X, x1, x2, x3⟩ := rnm_fwd n [] l1 N l2 h2
                obtain ⟨Y, y1, y2, y3, y4⟩ := rin_fwd m [] l3 C l4 h4
                rw [List.nil_append] at x2 y2
                subst x2 y2
                rw [hend.1, List.append_nil] at y3
                refine ⟨?_, hend.2, y4⟩
                unfold encPg
                dsimp only
                rw [num_fwd h1, x3, num_fwd h3, y3, x1, y1]
              · cases h
end Go.Proofs.YtpodoiichpnpjaaDoor
namespace Go.Proofs.YtpodoiichpnpjaaDoor
open Go.Lib (decDigits itoa)
set_option linter.unusedVariables false
theorem parseM_num : ∀ (s : List UInt8) (n m : Nat), numG s n = some m → Lib.parseUintM 18446744073709551615 n s = .ok m
  | [], n, m, h => by simp only [numG, Option.some.injEq] at h; rw [Lib.parseUintM, h]
  | c :: s, n, m, h => by
    rw [numG] at h
    split at h
    · cases h
    · rename_i hno
      have hc : isDig c = true := by
        cases hh : isDig c with
        | true => rfl
        | false => exact absurd (.inl hh) hno
      simp only [isDig, Bool.and_eq_true, decide_eq_true_eq] at hc
      have hle : ¬ 18446744073709551615 < 10 * n + (c.toNat - 48) := fun h => hno (.inr h)
      rw [Lib.parseUintM, if_pos hc, if_neg (by omega), if_neg (by omega), Nat.mul_comm n 10]
      exact parseM_num s _ m h
theorem parseB_num {s : List UInt8} {n : Nat} (h : numD s = some n) : Lib.parseUintB 64 s = .ok n := by
  unfold numD at h
  split at h
  · cases h
  · rename_i hno
    unfold Lib.parseUintB
    rw [if_neg (fun e => hno (.inl e))]
    exact parseM_num s 0 n h
theorem numD_head {s : List UInt8} {n : Nat} (h : numD s = some n) : s ≠ [] ∧ s.head? ≠ some 43 ∧ s.head? ≠ some 45 := by
  unfold numD at h
  split at h
  · cases h
  · rename_i hno
    cases s with
    | nil => exact absurd (.inl rfl) hno
    | cons c s =>
      rw [numG] at h
      split at h
      · cases h
      · rename_i h0
        have hc : isDig c = true := by
          cases hh : isDig c with
          | true => rfl
          | false => exact absurd (.inl hh) h0
        simp only [isDig, Bool.and_eq_true, decide_eq_true_eq] at hc
        refine ⟨by simp, fun e => ?_, fun e => ?_⟩
        · simp only [List.head?_cons, Option.some.injEq] at e; subst e; exact absurd hc.1 (by decide)
        · simp only [List.head?_cons, Option.some.injEq] at e; subst e; exact absurd hc.1 (by decide)
theorem toNat_ne {c : UInt8} {k : UInt8} (h : c ≠ k) : c.toNat ≠ k.toNat := fun e => h (UInt8.toNat_inj.1 e)
theorem parse_int {s : List UInt8} {z : Int} (h : intD s = some z) : Lib.parseIntB 64 s = .ok z := by
  unfold intD at h
  split at h
  · rename_i hs
    cases s with
    | nil => simp at hs
    | cons c s =>
      simp only [List.head?_cons, Option.some.injEq] at hs
      subst hs
      rw [List.drop_succ_cons, List.drop_zero] at h
      cases hn : numD s with
      | none => rw [hn] at h; cases h
      | some n =>
        rw [hn] at h
        dsimp only [Option.bind_some] at h
        split at h
        · cases h
        · rename_i hb
          simp only [Option.some.injEq] at h
          subst h
          have e : (45 : UInt8).toNat = 45 := rfl
          have e1 : Lib.parseIntB 64 (45 :: s) = (match Lib.parseUintB 64 s with | .syntax => .syntax | .range => .range | .ok u => if ¬ (45 : UInt8).toNat = 45 ∧ 2 ^ (64 - 1) ≤ u then .range else if (45 : UInt8).toNat = 45 ∧ 2 ^ (64 - 1) < u then .range else .ok (if (45 : UInt8).toNat = 45 then -(u : Int) else u)) := rfl
          rw [e1, parseB_num hn]
          dsimp only
          rw [if_neg (by simp), if_neg (by omega), if_pos e]
  · rename_i hs
    cases hn : numD s with
    | none => rw [hn] at h; cases h
    | some n =>
      rw [hn] at h
      dsimp only [Option.bind_some] at h
      split at h
      · cases h
      · rename_i hb
        simp only [Option.some.injEq] at h
        subst h
        obtain ⟨h1, h2, h3⟩ := numD_head hn
        cases s with
        | nil => exact absurd rfl h1
        | cons c s =>
          have n43 : ¬ c.toNat = 43 := toNat_ne (k := 43) (fun e => h2 (by rw [e]; rfl))
          have n45 : ¬ c.toNat = 45 := toNat_ne (k := 45) (fun e => h3 (by rw [e]; rfl))
          have e1 : Lib.parseIntB 64 (c :: s) = (match Lib.parseUintB 64 (if c.toNat = 43 ∨ c.toNat = 45 then s else c :: s) with | .syntax => .syntax | .range => .range | .ok u => if ¬ c.toNat = 45 ∧ 2 ^ (64 - 1) ≤ u then .range else if c.toNat = 45 ∧ 2 ^ (64 - 1) < u then .range else .ok (if c.toNat = 45 then -(u : Int) else u)) := rfl
          rw [e1, if_neg (by omega), parseB_num hn]
          dsimp only
          rw [if_neg (by omega), if_neg (by omega), if_neg n45]
theorem parse_not {s : List UInt8} (h : ∀ v, Lib.parseIntB 64 s ≠ .ok v) : intD s = none := by
  cases e : intD s with
  | none => rfl
  | some z => exact absurd (parse_int e) (h z)
theorem parse_yes {s : List UInt8} {v : Int} (h : Lib.parseIntB 64 s = .ok v) : -9223372036854775808 ≤ v ∧ v ≤ 9223372036854775807 ∧ (itoa v = s → intD s = some v) ∧ (itoa v ≠ s → intD s = none) := by
  have hb := Lib.parseIntB_bounds h
  have b1 : -9223372036854775808 ≤ v := by have := hb.1; simp at this; omega
  have b2 : v ≤ 9223372036854775807 := by have := hb.2; simp at this; omega
  refine ⟨b1, b2, fun e => by rw [← e]; exact intD_itoa v ⟨b1, b2⟩, fun e => ?_⟩
  cases e2 : intD s with
  | none => rfl
  | some z =>
    have e3 := parse_int e2
    rw [h] at e3
    simp only [Lib.NumEnd.ok.injEq] at e3
    rw [← e3] at e2
    exact absurd (intD_own e2).1.symm e
end Go.Proofs.YtpodoiichpnpjaaDoor
namespace Go.Proofs.YtpodoiichpnpjaaDoor
open Go.Lib (decDigits itoa)
set_option linter.unusedVariables false
/-- What stands ahead of the first c, what behind it, and whether it is there. -/
def cutC (c : UInt8) : List UInt8 → List UInt8 × List UInt8 × Bool
  | [] => ([], [], false)
  | x :: s => if x = c then ([], s, true) else (x :: (cutC c s).1, (cutC c s).2)
theorem cutC_no {c : UInt8} : ∀ {s : List UInt8}, c ∉ s → cutC c s = (s, [], false)
  | [], _ => rfl
  | x :: s, h => by
    rw [cutC, if_neg (fun e => h (by simp [e])), cutC_no (fun e => h (by simp [e]))]
theorem cutC_at {c : UInt8} : ∀ {a : List UInt8} (b : List UInt8), c ∉ a → cutC c (a ++ c :: b) = (a, b, true)
  | [], b, _ => by rw [List.nil_append, cutC, if_pos rfl]
  | x :: a, b, h => by
    rw [List.cons_append, cutC, if_neg (fun e => h (by simp [e])), cutC_at b (fun e => h (by simp [e]))]
theorem cutC_form (c : UInt8) : ∀ s : List UInt8, (c ∉ s ∧ cutC c s = (s, [], false)) ∨ ∃ a b, s = a ++ c :: b ∧ c ∉ a ∧ cutC c s = (a, b, true)
  | [] => .inl ⟨by simp, rfl⟩
  | x :: s => by
    by_cases h : x = c
    · subst h
      exact .inr ⟨[], s, rfl, by simp, by rw [cutC, if_pos rfl]⟩
    · rcases cutC_form c s with ⟨h1, h2⟩ | ⟨a, b, h1, h2, h3⟩
      · refine .inl ⟨fun e => ?_, by rw [cutC, if_neg h, h2]⟩
        rcases List.mem_cons.1 e with e | e
        · exact h e.symm
        · exact h1 e
      · refine .inr ⟨x :: a, b, by rw [h1]; rfl, fun e => ?_, by rw [cutC, if_neg h, h3]⟩
        rcases List.mem_cons.1 e with e | e
        · exact h e.symm
        · exact h2 e
theorem index_noC {c : UInt8} : ∀ {s : List UInt8}, c ∉ s → Lib.index s [c] = -1
  | [], _ => by simp [Lib.index]
  | x :: s, h => by
    have hx : x ≠ c := fun e => h (by simp [e])
    have := index_noC (c := c) (s := s) (fun e => h (by simp [e]))
    simp [Lib.index, this, Ne.symm hx]
theorem index_at {c : UInt8} : ∀ {a : List UInt8} (b : List UInt8), c ∉ a → Lib.index (a ++ c :: b) [c] = (a.length : Int)
  | [], b, _ => by simp [Lib.index]
  | x :: a, b, h => by
    have hx : x ≠ c := fun e => h (by simp [e])
    have := index_at (c := c) (a := a) b (fun e => h (by simp [e]))
    simp [Lib.index, this, Ne.symm hx]
theorem cut_cutC (c : UInt8) (s : List UInt8) : Lib.cut s [c] = cutC c s := by
  unfold Lib.cut
  rcases cutC_form c s with ⟨h1, h2⟩ | ⟨a, b, rfl, h2, h3⟩
  · rw [index_noC h1, if_neg (by omega), h2]
  · rw [index_at b h2, if_pos (by omega), h3]
    simp
theorem cutC_length (c : UInt8) (s : List UInt8) : (cutC c s).1.length ≤ s.length ∧ (cutC c s).2.1.length ≤ s.length ∧ (s ≠ [] → (cutC c s).2.1.length < s.length) := by
  rcases cutC_form c s with ⟨h1, h2⟩ | ⟨a, b, rfl, h2, h3⟩
  · rw [h2]
    refine ⟨by simp, by simp, fun h => ?_⟩
    cases s with
    | nil => exact absurd rfl h
    | cons x s => simp
  · rw [h3]; simp; omega
/-- The first line, and the others. -/
theorem lines_cut {s : List UInt8} (h : s ≠ []) : linesOf s = (cutC 10 s).1 :: linesOf (cutC 10 s).2.1 := by
  rcases cutC_form 10 s with ⟨h1, h2⟩ | ⟨a, b, rfl, h2, h3⟩
  · rw [h2]
    have key : ∀ (s cur : List UInt8), 10 ∉ s → splitG s cur = if cur ++ s = [] then [] else [cur ++ s] := by
      intro s
      induction s with
      | nil => intro cur _; rw [splitG]; simp
      | cons x s ih =>
        intro cur hh
        rw [splitG, if_neg (fun e => hh (by simp [e])), ih _ (fun e => hh (by simp [e]))]
        simp
    unfold linesOf
    rw [key s [] h1]
    simp [h, splitG]
  · rw [h3]
    unfold linesOf
    rw [split_line b [] h2]
    rfl
/-- A name's line, as the program reads it. -/
def nameP (s : List UInt8) : Option (List UInt8) :=
  if (cutC 32 s).1 = [110, 97, 109, 101] ∧ (cutC 32 s).2.1.length % 2 = 0 then (unhexS (cutC 32 s).2.1).bind fun k => if isKey k = true then some k else none else none
theorem nameP_own {s k : List UInt8} (h : nameP s = some k) : isKey k = true ∧ s = nameB ++ hexS k := by
  unfold nameP at h
  split at h
  · rename_i hw
    cases hu : unhexS (cutC 32 s).2.1 with
    | none => rw [hu] at h; cases h
    | some q =>
      rw [hu] at h
      dsimp only [Option.bind_some] at h
      split at h
      · rename_i hk
        simp only [Option.some.injEq] at h
        subst h
        refine ⟨hk, ?_⟩
        rcases cutC_form 32 s with ⟨h1, h2⟩ | ⟨a, b, rfl, h2, h3⟩
        · rw [h2] at hu
          simp only [unhexS, Option.some.injEq] at hu
          subst hu
          simp [isKey] at hk
        · rw [h3] at hw hu
          dsimp only at hw hu
          rw [hw.1, unhex_own hu]
          rfl
      · cases h
  · cases h
theorem hexS_length (k : List UInt8) : (hexS k).length = 2 * k.length := by
  induction k with
  | nil => rfl
  | cons b k ih =>
    have e : hexS (b :: k) = hexC (b.toNat / 16) :: hexC (b.toNat % 16) :: hexS k := rfl
    rw [e]; simp [ih]; omega
theorem nameP_back {k : List UInt8} (h : isKey k = true) : nameP (nameB ++ hexS k) = some k := by
  unfold nameP
  have e : cutC 32 (nameB ++ hexS k) = ([110, 97, 109, 101], hexS k, true) := cutC_at (c := 32) (a := [110, 97, 109, 101]) (hexS k) (by decide)
  rw [e]
  dsimp only
  rw [if_pos ⟨rfl, by rw [hexS_length]; omega⟩, unhex_hex]
  dsimp only [Option.bind_some]
  rw [if_pos h]
/-- An instruction's line, as the program reads it, the word's number being i and its integer k. -/
def insP (s : List UInt8) (k : Nat) : Option Int := if k = 0 then (if (cutC 32 s).2.2 = true then none else some 0) else intD (cutC 32 s).2.1
theorem intD_nil : intD [] = none := rfl
theorem words_at {i j : Nat} {w : List UInt8} {k k' : Nat} (h : words[i]? = some (w, k)) (h' : words[j]? = some (w, k')) : i = j := by
  have hi := (List.getElem?_eq_some_iff.1 h).1
  have hj := (List.getElem?_eq_some_iff.1 h').1
  have key : ∀ i, i < 24 → ∀ j, j < 24 → (words[i]?).map (·.1) = (words[j]?).map (·.1) → i = j := by decide +kernel
  exact key i hi j hj (by rw [h, h']; rfl)
/-- A line whose word is an operation's. -/
theorem line1_word {s : List UInt8} {i k : Nat} (h : words[i]? = some ((cutC 32 s).1, k)) : line1 s = (insP s k).map (.ins i) := by
  have hm := List.mem_of_getElem? h
  have yes : ∀ {arg}, insP s k = some arg → s = wline (cutC 32 s).1 k arg ∧ (k = 0 → arg = 0) ∧ I64 arg := by
    intro arg ha
    unfold insP at ha
    unfold wline
    rcases cutC_form 32 s with ⟨h1, h2⟩ | ⟨a, b, rfl, h2, h3⟩
    · rw [h2] at ha
      dsimp only at ha
      by_cases hk : k = 0
      · rw [if_pos hk] at ha
        rw [if_pos hk, h2]
        simp only [Bool.false_eq_true, ↓reduceIte, Option.some.injEq] at ha
        exact ⟨rfl, fun _ => ha.symm, by rw [← ha]; unfold I64; omega⟩
      · rw [if_neg hk, intD_nil] at ha
        cases ha
    · rw [h3] at ha ⊢
      dsimp only at ha ⊢
      by_cases hk : k = 0
      · rw [if_pos hk, if_pos rfl] at ha
        cases ha
      · rw [if_neg hk] at ha
        obtain ⟨e, hz⟩ := intD_own ha
        rw [if_neg hk, ← e]
        exact ⟨rfl, fun e => absurd e hk, hz⟩
  cases e : insP s k with
  | some arg =>
    obtain ⟨e1, e2, e3⟩ := yes e
    have := line1_ins h e2 e3
    rw [← e1] at this
    exact this
  | none =>
    show line1 s = none
    cases e2 : line1 s with
    | none => rfl
    | some x =>
      exfalso
      rcases line1_own e2 with ⟨q, rfl, hq, hs⟩ | ⟨j, w, k', arg, hw, rfl, hs, h0, ha⟩
      · have ec : cutC 32 s = ([110, 97, 109, 101], hexS q, true) := by rw [hs]; exact cutC_at (c := 32) (a := [110, 97, 109, 101]) (hexS q) (by decide)
        rw [ec] at hm
        exact words_name _ hm rfl
      · have hb := words_blank _ (List.mem_of_getElem? hw)
        dsimp only at hb
        unfold wline at hs
        split at hs
        · rename_i hk'
          have ec : cutC 32 s = (w, [], false) := by rw [hs]; exact cutC_no hb
          rw [ec] at h
          have ij := words_at h hw
          subst ij
          rw [h] at hw
          simp only [Option.some.injEq, Prod.mk.injEq, true_and] at hw
          unfold insP at e
          rw [ec, if_pos (hw.trans hk')] at e
          simp at e
        · rename_i hk'
          have ec : cutC 32 s = (w, itoa arg, true) := by rw [hs]; exact cutC_at (itoa arg) hb
          rw [ec] at h
          have ij := words_at h hw
          subst ij
          rw [h] at hw
          simp only [Option.some.injEq, Prod.mk.injEq, true_and] at hw
          unfold insP at e
          rw [ec, if_neg (fun z => hk' (hw ▸ z))] at e
          dsimp only at e
          rw [intD_itoa arg ha] at e
          cases e
/-- A line whose word is none, and that is no name's. -/
theorem line1_no {s : List UInt8} (h : ∀ x ∈ words, x.1 ≠ (cutC 32 s).1) (hn : nameP s = none) : line1 s = none := by
  cases e2 : line1 s with
  | none => rfl
  | some x =>
    exfalso
    rcases line1_own e2 with ⟨q, rfl, hq, hs⟩ | ⟨j, w, k', arg, hw, rfl, hs, h0, ha⟩
    · rw [hs, nameP_back hq] at hn
      cases hn
    · have hb := words_blank _ (List.mem_of_getElem? hw)
      dsimp only at hb
      refine h _ (List.mem_of_getElem? hw) ?_
      dsimp only
      unfold wline at hs
      split at hs
      · rw [hs, cutC_no hb]
      · rw [hs, cutC_at _ hb]
theorem line1_nm {s k : List UInt8} (h : nameP s = some k) : line1 s = some (.nm k) := by
  obtain ⟨h1, rfl⟩ := nameP_own h
  exact line1_name h1
/-- The hexadecimal digits. -/
def hexT : List UInt8 := [48, 49, 50, 51, 52, 53, 54, 55, 56, 57, 97, 98, 99, 100, 101, 102]
/-- What a digit is worth, or -1. -/
def digI (c : UInt8) : Int := match digC c with
  | some d => (d : Int)
  | none => -1
theorem hex_index : ∀ n, n < 256 → Lib.indexByte hexT (UInt8.ofNat n) = digI (UInt8.ofNat n) := by decide +kernel
theorem hexC_at : ∀ d, d < 16 → hexT[d]? = some (hexC d) := by decide +kernel
end Go.Proofs.YtpodoiichpnpjaaDoor
namespace Go.Proofs.YtpodoiichpnpjaaDoor
set_option linter.unusedVariables false
theorem rnum_true (l : List UInt8) : (rnum l true).2.2 = true := by
  unfold rnum
  split <;> rfl
theorem rtext_true (l : List UInt8) : (rtext l true).2.2 = true := by
  unfold rtext
  split
  · rfl
  · exact rnum_true l
theorem int_bad {l : List UInt8} (h : int l = none) : rnum l false = (0, [], true) := num_none (int_none h)
theorem rnum_len (l : List UInt8) (bad : Bool) : (rnum l bad).2.1.length ≤ l.length := by
  unfold rnum
  split
  · simp
  · simp
theorem rtext_len (l : List UInt8) (bad : Bool) : (rtext l bad).1.length ≤ l.length ∧ (rtext l bad).2.1.length ≤ l.length := by
  have h := rnum_len l bad
  unfold rtext
  split
  · simp
  · simp only [List.length_take, List.length_drop]
    omega
/-- What is behind the names. -/
def contC (N : List (List UInt8)) (r : List UInt8) : Option Pg := (num r).bind fun c => if 200 < c.1 then none else (rin c.1 [] c.2).bind fun d => if d.2 = [] ∧ formedP ⟨N, d.1⟩ = true then some ⟨N, d.1⟩ else none
/-- After k names, N, of n, the bytes r are left. -/
def NInv (l : List UInt8) (n k : Nat) (N : List (List UInt8)) (r : List UInt8) (bad : Bool) : Prop :=
  (bad = true → decPg l = none) ∧ (bad = false → (8 < n → decPg l = none) ∧ (¬ 8 < n → decPg l = (rnm (n - k) N r).bind fun b => contC b.1 b.2))
theorem NInv.start (l : List UInt8) : NInv l (rnum l false).1 0 [] (rnum l false).2.1 (rnum l false).2.2 := by
  cases h : num l with
  | none =>
    rw [num_none h]
    refine ⟨fun _ => ?_, (fun h => by cases h)⟩
    unfold decPg
    rw [h]
    rfl
  | some a =>
    obtain ⟨n, r⟩ := a
    rw [num_some h]
    refine ⟨(fun h => by cases h), fun _ => ⟨fun hb => ?_, fun hb => ?_⟩⟩
    · unfold decPg
      rw [h]
      dsimp only [Option.bind_some] at hb ⊢
      rw [if_pos hb]
    · unfold decPg
      rw [h]
      dsimp only [Option.bind_some] at hb ⊢
      rw [if_neg hb]
      rfl
theorem NInv.big {l : List UInt8} {n k : Nat} {N : List (List UInt8)} {r : List UInt8} {bad : Bool} (h : NInv l n k N r bad) (hb : 8 < n) : decPg l = none := by
  cases bad with
  | true => exact h.1 rfl
  | false => exact (h.2 rfl).1 hb
theorem NInv.step {l : List UInt8} {n k : Nat} {N : List (List UInt8)} {r : List UInt8} {bad : Bool} (h : NInv l n k N r bad) (hk : k < n) : NInv l n (k + 1) (N ++ [(rtext r bad).1]) (rtext r bad).2.1 (rtext r bad).2.2 := by
  cases bad with
  | true => exact ⟨fun _ => h.1 rfl, fun e => by rw [rtext_true] at e; cases e⟩
  | false =>
    obtain ⟨h1, h2⟩ := h.2 rfl
    rw [show n - k = (n - (k + 1)) + 1 by omega, rnm] at h2
    cases hi : txt r with
    | none =>
      rw [txt_none hi]
      refine ⟨fun _ => ?_, (fun e => by cases e)⟩
      by_cases hs : 8 < n
      · exact h1 hs
      · rw [h2 hs, hi]
        rfl
    | some x =>
      obtain ⟨t, r'⟩ := x
      rw [txt_some hi]
      refine ⟨(fun e => by cases e), fun _ => ⟨h1, fun hs => ?_⟩⟩
      rw [h2 hs, hi]
      rfl
/-- After k instructions, C, of m, the bytes r are left. -/
def CInv (l : List UInt8) (N : List (List UInt8)) (m k : Nat) (C : List In) (r : List UInt8) (bad : Bool) : Prop :=
  (bad = true → decPg l = none) ∧ (bad = false → (200 < m → decPg l = none) ∧ (¬ 200 < m → decPg l = (rin (m - k) C r).bind fun d => if d.2 = [] ∧ formedP ⟨N, d.1⟩ = true then some ⟨N, d.1⟩ else none))
theorem CInv.start {l : List UInt8} {n : Nat} {N : List (List UInt8)} {r : List UInt8} {bad : Bool} (h : NInv l n n N r bad) (hn : ¬ 8 < n) : CInv l N (rnum r bad).1 0 [] (rnum r bad).2.1 (rnum r bad).2.2 := by
  cases bad with
  | true => exact ⟨fun _ => h.1 rfl, fun e => by rw [rnum_true] at e; cases e⟩
  | false =>
    have h2 := (h.2 rfl).2 hn
    rw [Nat.sub_self, rnm] at h2
    dsimp only [Option.bind_some] at h2
    unfold contC at h2
    cases hi : num r with
    | none =>
      rw [num_none hi]
      rw [hi] at h2
      exact ⟨fun _ => h2, (fun e => by cases e)⟩
    | some x =>
      obtain ⟨m, r'⟩ := x
      rw [num_some hi]
      rw [hi] at h2
      dsimp only [Option.bind_some] at h2
      refine ⟨(fun e => by cases e), fun _ => ⟨fun hb => ?_, fun hb => ?_⟩⟩
      · rw [h2, if_pos hb]
      · rw [h2, if_neg hb]
        rfl
theorem CInv.big {l : List UInt8} {N : List (List UInt8)} {m k : Nat} {C : List In} {r : List UInt8} {bad : Bool} (h : CInv l N m k C r bad) (hb : 200 < m) : decPg l = none := by
  cases bad with
  | true => exact h.1 rfl
  | false => exact (h.2 rfl).1 hb
/-- The next operation is none. -/
theorem CInv.no {l : List UInt8} {N : List (List UInt8)} {m k : Nat} {C : List In} {r : List UInt8} {bad : Bool} (h : CInv l N m k C r bad) (hk : k < m) (hs : ¬ 200 < m) (h7 : 23 < (rnum r bad).1) : decPg l = none := by
  cases bad with
  | true => exact h.1 rfl
  | false =>
    have h2 := (h.2 rfl).2 hs
    rw [show m - k = (m - (k + 1)) + 1 by omega, rin] at h2
    cases hi : num r with
    | none => rw [num_none hi] at h7; exact absurd h7 (by decide)
    | some x =>
      obtain ⟨o, r'⟩ := x
      rw [num_some hi] at h7
      rw [hi] at h2
      dsimp only [Option.bind_some] at h2 h7
      rw [h2, if_pos h7]
      rfl
/-- One instruction more. -/
theorem CInv.yes {l : List UInt8} {N : List (List UInt8)} {m k : Nat} {C : List In} {r : List UInt8} {bad : Bool} (h : CInv l N m k C r bad) (hk : k < m) (h7 : ¬ 23 < (rnum r bad).1) : CInv l N m (k + 1) (C ++ [⟨((rnum r bad).1 : Int), unfold (rnum (rnum r bad).2.1 (rnum r bad).2.2).1⟩]) (rnum (rnum r bad).2.1 (rnum r bad).2.2).2.1 (rnum (rnum r bad).2.1 (rnum r bad).2.2).2.2 := by
  cases bad with
  | true => exact ⟨fun _ => h.1 rfl, fun e => by rw [rnum_true, rnum_true] at e; cases e⟩
  | false =>
    obtain ⟨h1, h2⟩ := h.2 rfl
    rw [show m - k = (m - (k + 1)) + 1 by omega, rin] at h2
    cases hi : num r with
    | none =>
      rw [num_none hi]
      refine ⟨fun _ => ?_, (fun e => by dsimp only at e; rw [rnum_true] at e; cases e)⟩
      by_cases hs : 200 < m
      · exact h1 hs
      · rw [h2 hs, hi]
        rfl
    | some x =>
      obtain ⟨o, r'⟩ := x
      rw [num_some hi] at h7 ⊢
      dsimp only at h7 ⊢
      cases hj : int r' with
      | none =>
        rw [int_bad hj]
        refine ⟨fun _ => ?_, (fun e => by cases e)⟩
        by_cases hs : 200 < m
        · exact h1 hs
        · rw [h2 hs, hi]
          dsimp only [Option.bind_some]
          rw [if_neg h7, hj]
          rfl
      | some y =>
        obtain ⟨z, r2⟩ := y
        obtain ⟨e1, e2, -⟩ := int_some hj
        rw [e1]
        dsimp only
        rw [e2]
        refine ⟨(fun e => by cases e), fun _ => ⟨h1, fun hs => ?_⟩⟩
        rw [h2 hs, hi]
        dsimp only [Option.bind_some]
        rw [if_neg h7, hj]
        rfl
theorem CInv.fin {l : List UInt8} {N : List (List UInt8)} {m : Nat} {C : List In} {r : List UInt8} {bad : Bool} (h : CInv l N m m C r bad) (hs : ¬ 200 < m) : decPg l = if (!bad && r.isEmpty) = true ∧ formedP ⟨N, C⟩ = true then some ⟨N, C⟩ else none := by
  cases bad with
  | true => rw [h.1 rfl]; simp
  | false =>
    rw [(h.2 rfl).2 hs, Nat.sub_self, rin]
    cases r with
    | nil => simp
    | cons a r => simp
theorem encN_length : ∀ {l : List (List UInt8)}, (∀ k ∈ l, isKey k = true) → (encN l).length ≤ l.length * 49
  | [], _ => by simp [encN]
  | e :: l, h => by
    have h1 := encN_length (l := l) (fun k hk => h k (by simp [hk]))
    have h2 := enc_length e.length
    have h3 := (isKey_iff _).1 (h e (by simp))
    unfold encN encTx at *
    simp only [List.flatMap_cons, List.length_append, List.length_cons]
    omega
theorem encX_length : ∀ (l : List In), (encX l).length ≤ l.length * 18
  | [] => by simp [encX]
  | e :: l => by
    have h1 := encX_length l
    have h2 := enc_length (fold e.arg)
    have h3 := enc_length e.op.toNat
    unfold encX at *
    simp only [List.flatMap_cons, List.length_append, List.length_cons]
    omega
theorem encN_take {l : List (List UInt8)} {j : Nat} (h : j < l.length) : encN (l.take (j + 1)) = encN (l.take j) ++ encTx l[j] := by
  have e : l.take (j + 1) = l.take j ++ [l[j]] := by rw [List.take_add_one, List.getElem?_eq_getElem h]; rfl
  rw [e]
  simp only [encN, List.flatMap_append, List.flatMap_cons, List.flatMap_nil, List.append_nil]
theorem encX_take {l : List In} {j : Nat} (h : j < l.length) : encX (l.take (j + 1)) = encX (l.take j) ++ (enc l[j].op.toNat ++ enc (fold l[j].arg)) := by
  have e : l.take (j + 1) = l.take j ++ [l[j]] := by rw [List.take_add_one, List.getElem?_eq_getElem h]; rfl
  rw [e]
  simp only [encX, List.flatMap_append, List.flatMap_cons, List.flatMap_nil, List.append_nil]
theorem encPg_length {p : Pg} (h : formedP p = true) : (encPg p).length ≤ 4100 ∧ 1 ≤ (encPg p).length := by
  obtain ⟨h1, h2, h3, -⟩ := formed_parts h
  have a1 := encN_length h3
  have a2 := encX_length p.code
  have a3 := enc_length p.names.length
  have a4 := enc_length p.code.length
  unfold encPg
  simp only [List.length_append]
  omega
end Go.Proofs.YtpodoiichpnpjaaDoor
