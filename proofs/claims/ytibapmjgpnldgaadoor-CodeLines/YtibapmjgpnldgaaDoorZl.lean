/-
  Letters, without memory (of stage 11's texts: where Lt and De are in the seat, import these instead).
-/
import Derived.Test.YtibapmjgpnldgaaDoorPieces
namespace Go.Proofs.YtibapmjgpnldgaaDoor
set_option linter.unusedVariables false
/-- An integer of 64 bits. -/
def I64 (z : Int) : Prop := -9223372036854775808 ≤ z ∧ z ≤ 9223372036854775807
/-- A letter. -/
structure Lt where
  fr : List UInt8
  ser : Nat
  kind : Int
  args : List Int
instance : Inhabited Lt := ⟨⟨[], 0, 0, []⟩⟩
/-- Its numbers are of 64 bits. -/
structure Lt.ok (x : Lt) : Prop where
  ser : x.ser < 18446744073709551616
  kind : I64 x.kind
  args : ∀ z ∈ x.args, I64 z
/-- It keeps the limits. -/
def Lt.formed (x : Lt) : Bool := decide (x.fr.length ≤ 40) && decide (x.args.length ≤ 4)
/-- Integers' bytes. -/
def encJ (l : List Int) : List UInt8 := l.flatMap fun z => enc (fold z)
/-- A letter's bytes. -/
def encL (x : Lt) : List UInt8 := enc x.fr.length ++ x.fr ++ enc x.ser ++ enc (fold x.kind) ++ enc x.args.length ++ encJ x.args
theorem encJ_append (a b : List Int) : encJ (a ++ b) = encJ a ++ encJ b := by simp [encJ]
theorem encJ_length (l : List Int) : l.length ≤ (encJ l).length ∧ (encJ l).length ≤ 9 * l.length := by
  induction l with
  | nil => simp [encJ]
  | cons z l ih =>
    have h := enc_length (fold z)
    have e : encJ (z :: l) = enc (fold z) ++ encJ l := rfl
    rw [e, List.length_append, List.length_cons]
    omega
theorem encL_length (x : Lt) : (encL x).length ≤ x.fr.length + 9 * x.args.length + 36 := by
  have h1 := enc_length x.fr.length
  have h2 := enc_length x.ser
  have h3 := enc_length (fold x.kind)
  have h4 := enc_length x.args.length
  have h5 := encJ_length x.args
  simp only [encL, List.length_append]
  omega
/-- n integers that bytes begin with. -/
def rints : Nat → List UInt8 → Bool → List Int × List UInt8 × Bool
  | 0, l, bad => ([], l, bad)
  | n + 1, l, bad =>
    let r := rints n (rnum l bad).2.1 (rnum l bad).2.2
    (unfold (rnum l bad).1 :: r.1, r.2.1, r.2.2)
/-- The head of a letter: From, Serial, Kind, how many Args; what is left, and whether all was there. -/
structure Hd where
  fr : List UInt8
  ser : Nat
  kind : Int
  n : Nat
  rest : List UInt8
  bad : Bool
def rhead (l : List UInt8) (bad : Bool) : Hd :=
  let t := rtext l bad
  let s := rnum t.2.1 t.2.2
  let k := rnum s.2.1 s.2.2
  let n := rnum k.2.1 k.2.2
  ⟨t.1, s.1, unfold k.1, n.1, n.2.1, n.2.2⟩
/-- The letter that bytes begin with, if they begin with one that is formed; what is left, and whether all was there. -/
def rlet (l : List UInt8) (bad : Bool) : Option Lt × List UInt8 × Bool :=
  let h := rhead l bad
  if 4 < h.n then (none, h.rest, h.bad)
  else
    let r := rints h.n h.rest h.bad
    if r.2.2 = true ∨ 40 < h.fr.length then (none, r.2.1, r.2.2) else (some ⟨h.fr, h.ser, h.kind, r.1⟩, r.2.1, r.2.2)
theorem rints_length (n : Nat) : ∀ l bad, (rints n l bad).1.length = n := by
  induction n with
  | zero => intro l bad; rfl
  | succ n ih => intro l bad; simp [rints, ih]
theorem rints_snoc (n : Nat) : ∀ l bad, rints (n + 1) l bad = ((rints n l bad).1 ++ [unfold (rnum (rints n l bad).2.1 (rints n l bad).2.2).1], (rnum (rints n l bad).2.1 (rints n l bad).2.2).2.1, (rnum (rints n l bad).2.1 (rints n l bad).2.2).2.2) := by
  induction n with
  | zero => intro l bad; rfl
  | succ n ih =>
    intro l bad
    have e : rints (n + 1 + 1) l bad = (unfold (rnum l bad).1 :: (rints (n + 1) (rnum l bad).2.1 (rnum l bad).2.2).1, (rints (n + 1) (rnum l bad).2.1 (rnum l bad).2.2).2.1, (rints (n + 1) (rnum l bad).2.1 (rnum l bad).2.2).2.2) := rfl
    have e2 : rints (n + 1) l bad = (unfold (rnum l bad).1 :: (rints n (rnum l bad).2.1 (rnum l bad).2.2).1, (rints n (rnum l bad).2.1 (rnum l bad).2.2).2.1, (rints n (rnum l bad).2.1 (rnum l bad).2.2).2.2) := rfl
    rw [e, ih, e2]
    rfl
theorem unfold_I64 (n : Nat) (h : n < 18446744073709551616) : I64 (unfold n) := by
  unfold unfold I64; split <;> omega
theorem rints_I64 (n : Nat) : ∀ l bad, ∀ z ∈ (rints n l bad).1, I64 z := by
  induction n with
  | zero => intro l bad z hz; simp [rints] at hz
  | succ n ih =>
    intro l bad z hz
    simp only [rints, List.mem_cons] at hz
    rcases hz with rfl | hz
    · exact unfold_I64 _ (rnum_lt _ _)
    · exact ih _ _ z hz
theorem rhead_lt (l : List UInt8) (bad : Bool) : (rhead l bad).ser < 18446744073709551616 ∧ I64 (rhead l bad).kind ∧ (rhead l bad).n < 18446744073709551616 :=
  ⟨rnum_lt _ _, unfold_I64 _ (rnum_lt _ _), rnum_lt _ _⟩
/-- What is read is a formed letter of 64 bits. -/
theorem rlet_ok {l : List UInt8} {bad : Bool} {x : Lt} (h : (rlet l bad).1 = some x) : x.ok ∧ x.formed = true := by
  unfold rlet at h
  obtain ⟨h1, h2, h3⟩ := rhead_lt l bad
  revert h
  generalize rhead l bad = d at h1 h2 h3
  intro h
  dsimp only at h
  split at h
  · cases h
  · rename_i h4
    split at h
    · cases h
    · rename_i h5
      cases h
      refine ⟨⟨h1, h2, rints_I64 _ _ _⟩, ?_⟩
      have := rints_length d.n d.rest d.bad
      have h6 : d.fr.length ≤ 40 := by omega
      simp only [Lt.formed, this, h6, decide_true, Bool.true_and, decide_eq_true_eq]
      omega
theorem rints_back (a : List Int) : ∀ rest, (∀ z ∈ a, I64 z) → rints a.length (encJ a ++ rest) false = (a, rest, false) := by
  induction a with
  | nil => intro rest _; rfl
  | cons z a ih =>
    intro rest h
    have e : encJ (z :: a) = enc (fold z) ++ encJ a := rfl
    have hz := h z (by simp)
    have h1 := rnum_back (fold z) (fold_lt z hz.1 hz.2) (encJ a ++ rest)
    rw [List.length_cons, rints, e, List.append_assoc, h1]
    dsimp only
    rw [ih rest (fun y hy => h y (by simp [hy]))]
    simp [unfold_fold z]
/-- What was encoded is read as it was. -/
theorem rlet_back (x : Lt) (hx : x.ok) (hf : x.formed = true) (rest : List UInt8) : rlet (encL x ++ rest) false = (some x, rest, false) := by
  have hf' : x.fr.length ≤ 40 ∧ x.args.length ≤ 4 := by simpa [Lt.formed] using hf
  have e : encL x ++ rest = enc x.fr.length ++ (x.fr ++ (enc x.ser ++ (enc (fold x.kind) ++ (enc x.args.length ++ (encJ x.args ++ rest))))) := by simp only [encL, List.append_assoc]
  have h1 := rtext_back x.fr (by omega) (enc x.ser ++ (enc (fold x.kind) ++ (enc x.args.length ++ (encJ x.args ++ rest))))
  have h2 := rnum_back x.ser hx.ser (enc (fold x.kind) ++ (enc x.args.length ++ (encJ x.args ++ rest)))
  have h3 := rnum_back (fold x.kind) (fold_lt _ hx.kind.1 hx.kind.2) (enc x.args.length ++ (encJ x.args ++ rest))
  have h4 := rnum_back x.args.length (by omega) (encJ x.args ++ rest)
  have h5 := rints_back x.args rest hx.args
  have h6 := unfold_fold x.kind
  have hh : rhead (encL x ++ rest) false = ⟨x.fr, x.ser, x.kind, x.args.length, encJ x.args ++ rest, false⟩ := by
    unfold rhead
    rw [e, h1]
    dsimp only
    rw [h2]
    dsimp only
    rw [h3]
    dsimp only
    rw [h4, h6]
  unfold rlet
  rw [hh]
  dsimp only
  rw [if_neg (by omega), h5]
  dsimp only
  rw [if_neg (by simp; omega)]
/-- What was read wholly begins with the number's bytes. -/
theorem rnum_fwd {l : List UInt8} {bad : Bool} (h : (rnum l bad).2.2 = false) : bad = false ∧ l = enc (rnum l bad).1 ++ (rnum l bad).2.1 := by
  unfold rnum at h ⊢
  split at h
  · cases h
  · rename_i hk
    rw [if_neg hk]
    exact ⟨h, by rw [enc_dec l hk, List.take_append_drop]⟩
theorem rtext_fwd {l : List UInt8} {bad : Bool} (h : (rtext l bad).2.2 = false) : bad = false ∧ l = enc (rtext l bad).1.length ++ ((rtext l bad).1 ++ (rtext l bad).2.1) := by
  unfold rtext at h ⊢
  split at h
  · cases h
  · rename_i hk
    rw [if_neg hk]
    obtain ⟨h1, h2⟩ := rnum_fwd (l := l) (bad := bad) h
    refine ⟨h1, ?_⟩
    dsimp only
    rw [List.take_append_drop, List.length_take, Nat.min_eq_left (by omega)]
    exact h2
theorem rints_fwd (n : Nat) : ∀ l bad, (rints n l bad).2.2 = false → bad = false ∧ l = encJ (rints n l bad).1 ++ (rints n l bad).2.1 := by
  induction n with
  | zero => intro l bad h; exact ⟨h, rfl⟩
  | succ n ih =>
    intro l bad h
    simp only [rints] at h ⊢
    obtain ⟨h1, h2⟩ := ih _ _ h
    obtain ⟨h3, h4⟩ := rnum_fwd h1
    refine ⟨h3, ?_⟩
    have e : ∀ (z : Int) (a : List Int), encJ (z :: a) = enc (fold z) ++ encJ a := fun z a => rfl
    rw [e, fold_unfold, List.append_assoc, ← h2]
    exact h4
/-- What is read wholly has just the letter's bytes. -/
theorem rlet_fwd {l rest : List UInt8} {bad : Bool} {x : Lt} (h : rlet l bad = (some x, rest, false)) : bad = false ∧ l = encL x ++ rest := by
  unfold rlet at h
  dsimp only at h
  split at h
  · cases h
  · split at h
    · cases h
    · rename_i h4 h5
      simp only [Prod.mk.injEq, Option.some.injEq] at h
      obtain ⟨rfl, rfl, hb⟩ := h
      obtain ⟨hb1, e1⟩ := rints_fwd _ _ _ hb
      have hb2 : (rhead l bad).bad = (rnum (rnum (rnum (rtext l bad).2.1 (rtext l bad).2.2).2.1 (rnum (rtext l bad).2.1 (rtext l bad).2.2).2.2).2.1 (rnum (rnum (rtext l bad).2.1 (rtext l bad).2.2).2.1 (rnum (rtext l bad).2.1 (rtext l bad).2.2).2.2).2.2).2.2 := rfl
      obtain ⟨hb3, e2⟩ := rnum_fwd (hb2.symm.trans hb1)
      obtain ⟨hb4, e3⟩ := rnum_fwd hb3
      obtain ⟨hb5, e4⟩ := rnum_fwd hb4
      obtain ⟨hb6, e5⟩ := rtext_fwd hb5
      refine ⟨hb6, ?_⟩
      have el := rints_length (rhead l bad).n (rhead l bad).rest (rhead l bad).bad
      have ek : fold (rhead l bad).kind = (rnum (rnum (rtext l bad).2.1 (rtext l bad).2.2).2.1 (rnum (rtext l bad).2.1 (rtext l bad).2.2).2.2).1 := fold_unfold _
      simp only [encL, List.append_assoc, ← e1]
      rw [el, ek]
      refine e5.trans ?_
      show _ = enc (rtext l bad).1.length ++ ((rtext l bad).1 ++ (_ ++ (_ ++ (_ ++ _))))
      congr 2
      refine e4.trans ?_
      show _ = enc (rnum (rtext l bad).2.1 (rtext l bad).2.2).1 ++ _
      congr 1
      refine e3.trans ?_
      congr 1


def decL (l : List UInt8) : Option Lt := if (!(rlet l false).2.2 && (rlet l false).2.1.isEmpty) = true then (rlet l false).1 else none
theorem decL_ok {l : List UInt8} {x : Lt} (h : decL l = some x) : x.ok ∧ x.formed = true := by
  unfold decL at h
  split at h
  · exact rlet_ok h
  · cases h
theorem formed_le {x : Lt} (h : x.formed = true) : x.fr.length ≤ 40 ∧ x.args.length ≤ 4 := by simpa [Lt.formed] using h
theorem decL_enc {x : Lt} (hx : x.ok) (hf : x.formed = true) : decL (encL x) = some x := by
  have h := rlet_back x hx hf []
  rw [List.append_nil] at h
  unfold decL
  rw [h]
  rfl
theorem decL_own {l : List UInt8} {x : Lt} (h : decL l = some x) : encL x = l := by
  unfold decL at h
  split at h
  · rename_i hq
    generalize hr : rlet l false = r at h hq
    obtain ⟨r1, r2, r3⟩ := r
    dsimp only at h hq
    subst h
    simp at hq
    obtain ⟨rfl, rfl⟩ := hq
    have := (rlet_fwd hr).2
    rw [this, List.append_nil]
  · cases h
end Go.Proofs.YtibapmjgpnldgaaDoor
