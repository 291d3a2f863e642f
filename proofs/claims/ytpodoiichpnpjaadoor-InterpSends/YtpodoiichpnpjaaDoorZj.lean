/-
  Journals, without memory: registers, events, a journal's bytes.
-/
import Derived.Test.YtpodoiichpnpjaaDoorZz
namespace Go.Proofs.YtpodoiichpnpjaaDoor
set_option linter.unusedVariables false
/-- An event: a register is set. -/
structure Ev where
  r : Nat
  v : Int
instance : Inhabited Ev := ⟨⟨0, 0⟩⟩
/-- A journal. -/
structure Jn where
  base : List Int
  ev : List Ev
  ver : Nat
/-- An event is done. -/
def doE (b : List Int) (e : Ev) : List Int := b.set e.r e.v
/-- All are, in order. -/
def doA (b : List Int) (l : List Ev) : List Int := l.foldl doE b
def stJ (j : Jn) : List Int := doA j.base j.ev
def newJ : Jn := ⟨List.replicate 8 0, [], 0⟩
/-- The first event is done to the base, and gone. -/
def dropJ (j : Jn) : Jn := match j.ev with
  | [] => j
  | e :: t => ⟨doE j.base e, t, j.ver⟩
/-- One event more. -/
def addE (j : Jn) (e : Ev) : Jn := if 16 < j.ev.length + 1 then dropJ ⟨j.base, j.ev ++ [e], j.ver + 1⟩ else ⟨j.base, j.ev ++ [e], j.ver + 1⟩
def addA (j : Jn) (l : List Ev) : Jn := l.foldl addE j
def foldJ (j : Jn) : Jn := ⟨stJ j, [], j.ver⟩
theorem doA_append (b : List Int) (l m : List Ev) : doA b (l ++ m) = doA (doA b l) m := by simp [doA]
theorem doA_length (l : List Ev) : ∀ b, (doA b l).length = b.length := by
  induction l with
  | nil => intro b; rfl
  | cons e l ih => intro b; show (doA (doE b e) l).length = _; rw [ih]; simp [doE]
theorem st_drop (j : Jn) : stJ (dropJ j) = stJ j := by
  obtain ⟨b, ev, v⟩ := j
  cases ev with
  | nil => rfl
  | cons e t => rfl
/-- The registers are what was set last. -/
theorem st_add (j : Jn) (e : Ev) : stJ (addE j e) = doE (stJ j) e := by
  unfold addE
  have h : stJ ⟨j.base, j.ev ++ [e], j.ver + 1⟩ = doE (stJ j) e := by
    unfold stJ
    dsimp only
    rw [doA_append]
    rfl
  split
  · rw [st_drop, h]
  · exact h
theorem st_addA (l : List Ev) : ∀ j, stJ (addA j l) = doA (stJ j) l := by
  induction l with
  | nil => intro j; rfl
  | cons e l ih =>
    intro j
    show stJ (addA (addE j e) l) = doA (doE (stJ j) e) l
    rw [ih, st_add]
theorem st_fold (j : Jn) : stJ (foldJ j) = stJ j := rfl
theorem ver_add (j : Jn) (e : Ev) : (addE j e).ver = j.ver + 1 := by
  unfold addE dropJ
  dsimp only
  split
  · split <;> rfl
  · rfl
theorem ver_addA (l : List Ev) : ∀ j, (addA j l).ver = j.ver + l.length := by
  induction l with
  | nil => intro j; rfl
  | cons e l ih =>
    intro j
    show (addA (addE j e) l).ver = _
    rw [ih, ver_add, List.length_cons]
    omega
theorem addA_append (j : Jn) (l m : List Ev) : addA j (l ++ m) = addA (addA j l) m := by simp [addA]
/-- A journal may be. -/
structure GoodJ (j : Jn) : Prop where
  b8 : j.base.length = 8
  b64 : ∀ z ∈ j.base, I64 z
  e16 : j.ev.length ≤ 16
  ev : ∀ e ∈ j.ev, e.r ≤ 7 ∧ I64 e.v
  low : j.ev.length ≤ j.ver
  v64 : U64 j.ver
theorem GoodJ.new : GoodJ newJ := ⟨rfl, fun z hz => by rw [List.eq_of_mem_replicate hz]; unfold I64; omega, by simp [newJ], by simp [newJ], by simp [newJ], by unfold U64; simp [newJ]⟩
theorem doE_I64 {b : List Int} {e : Ev} (h : ∀ z ∈ b, I64 z) (he : I64 e.v) : ∀ z ∈ doE b e, I64 z := fun z hz => by
  rcases List.mem_or_eq_of_mem_set hz with h1 | h1
  · exact h z h1
  · rw [h1]; exact he
theorem doA_I64 (l : List Ev) : ∀ b, (∀ z ∈ b, I64 z) → (∀ e ∈ l, I64 e.v) → ∀ z ∈ doA b l, I64 z := by
  induction l with
  | nil => intro b h _; exact h
  | cons e l ih => intro b h he; exact ih (doE b e) (doE_I64 h (he e (by simp))) fun x hx => he x (by simp [hx])
theorem GoodJ.add {j : Jn} (h : GoodJ j) {e : Ev} (he : e.r ≤ 7 ∧ I64 e.v) (hv : U64 (j.ver + 1)) : GoodJ (addE j e) := by
  obtain ⟨b, ev, v⟩ := j
  have h1 := h.e16
  have h2 := h.low
  dsimp only at h1 h2 hv
  have hev : ∀ x ∈ ev ++ [e], x.r ≤ 7 ∧ I64 x.v := fun x hx => by
    rcases List.mem_append.1 hx with hx | hx
    · exact h.ev x hx
    · simp at hx; subst hx; exact he
  unfold addE
  dsimp only
  split
  · cases ev with
    | nil => simp at *
    | cons x t =>
      have hx := hev x (by simp)
      refine ⟨?_, ?_, ?_, fun y hy => hev y (List.mem_cons_of_mem x (show y ∈ t ++ [e] from hy)), ?_, hv⟩
      · show (doE b x).length = 8
        have := h.b8
        dsimp only at this
        simp [doE, this]
      · exact doE_I64 h.b64 hx.2
      · show (t ++ [e]).length ≤ 16
        simp at h1 ⊢
        omega
      · show (t ++ [e]).length ≤ v + 1
        simp at h2 ⊢
        omega
  · refine ⟨h.b8, h.b64, ?_, hev, ?_, hv⟩
    · show (ev ++ [e]).length ≤ 16
      simp
      omega
    · show (ev ++ [e]).length ≤ v + 1
      simp
      omega
theorem GoodJ.addA {l : List Ev} : ∀ {j : Jn}, GoodJ j → (∀ e ∈ l, e.r ≤ 7 ∧ I64 e.v) → U64 (j.ver + l.length) → GoodJ (addA j l) := by
  induction l with
  | nil => intro j h _ _; exact h
  | cons e l ih =>
    intro j h he hv
    rw [List.length_cons] at hv
    refine ih (h.add (he e (by simp)) (by unfold U64 at *; omega)) (fun x hx => he x (by simp [hx])) ?_
    rw [ver_add]
    unfold U64 at *
    omega
theorem GoodJ.fold {j : Jn} (h : GoodJ j) : GoodJ (foldJ j) :=
  ⟨by show (doA j.base j.ev).length = 8; rw [doA_length]; exact h.b8, doA_I64 j.ev j.base h.b64 fun e he => (h.ev e he).2, by simp [foldJ], by simp [foldJ], by simp [foldJ], h.v64⟩
/-- Integers' bytes. -/
def encI (l : List Int) : List UInt8 := l.flatMap fun z => enc (fold z)
def encV (l : List Ev) : List UInt8 := l.flatMap fun e => enc e.r ++ enc (fold e.v)
/-- A journal's bytes. -/
def encJn (j : Jn) : List UInt8 := enc j.ver ++ (encI j.base ++ (enc j.ev.length ++ encV j.ev))
/-- n integers. -/
def rint : Nat → List UInt8 → Option (List Int × List UInt8)
  | 0, l => some ([], l)
  | n + 1, l => (int l).bind fun a => (rint n a.2).map fun b => (a.1 :: b.1, b.2)
/-- n events. -/
def revs : Nat → List Ev → List UInt8 → Option (List Ev × List UInt8)
  | 0, E, l => some (E, l)
  | n + 1, E, l => (num l).bind fun a => (int a.2).bind fun b => if 7 < a.1 then none else revs n (E ++ [⟨a.1, b.1⟩]) b.2
/-- The journal that bytes are. -/
def decJn (l : List UInt8) : Option Jn := (num l).bind fun a => (rint 8 a.2).bind fun b => (num b.2).bind fun c => if 16 < c.1 ∨ a.1 < c.1 then none else (revs c.1 [] c.2).bind fun d => if d.2 = [] then some ⟨b.1, d.1, a.1⟩ else none
theorem rint_back (a : List Int) : ∀ r, (∀ z ∈ a, I64 z) → rint a.length (encI a ++ r) = some (a, r) := by
  induction a with
  | nil => intro r _; rfl
  | cons z a ih =>
    intro r h
    have e : encI (z :: a) ++ r = enc (fold z) ++ (encI a ++ r) := by simp [encI]
    rw [List.length_cons, rint, e, int_back z (h z (by simp))]
    dsimp only [Option.bind_some]
    rw [ih r (fun y hy => h y (by simp [hy]))]
    rfl
theorem rint_fwd (n : Nat) : ∀ l a r, rint n l = some (a, r) → a.length = n ∧ l = encI a ++ r ∧ ∀ z ∈ a, I64 z := by
  induction n with
  | zero =>
    intro l a r h
    simp only [rint, Option.some.injEq, Prod.mk.injEq] at h
    obtain ⟨rfl, rfl⟩ := h
    exact ⟨rfl, rfl, by simp⟩
  | succ n ih =>
    intro l a r h
    rw [rint] at h
    cases h1 : int l with
    | none => rw [h1] at h; cases h
    | some x =>
      obtain ⟨z, l1⟩ := x
      rw [h1] at h
      dsimp only [Option.bind_some] at h
      cases h2 : rint n l1 with
      | none => rw [h2] at h; cases h
      | some y =>
        obtain ⟨b, q⟩ := y
        rw [h2] at h
        simp only [Option.map_some, Option.some.injEq, Prod.mk.injEq] at h
        obtain ⟨rfl, rfl⟩ := h
        obtain ⟨i1, i2, i3⟩ := ih l1 b q h2
        refine ⟨by simp [i1], ?_, fun w hw => ?_⟩
        · rw [int_fwd h1, i2]; simp [encI]
        · rcases List.mem_cons.1 hw with rfl | hw
          · exact (int_some h1).2.2
          · exact i3 w hw
theorem revs_back (X : List Ev) : ∀ P r, (∀ e ∈ X, e.r ≤ 7 ∧ I64 e.v) → revs X.length P (encV X ++ r) = some (P ++ X, r) := by
  induction X with
  | nil => intro P r _; simp [revs, encV]
  | cons x X ih =>
    intro P r h
    have hx := h x (by simp)
    have e : encV (x :: X) ++ r = enc x.r ++ (enc (fold x.v) ++ (encV X ++ r)) := by simp [encV]
    rw [List.length_cons, revs, e, num_back x.r (by unfold U64; omega)]
    dsimp only [Option.bind_some]
    rw [int_back x.v hx.2]
    dsimp only [Option.bind_some]
    rw [if_neg (by omega), ih (P ++ [x]) r (fun y hy => h y (by simp [hy]))]
    simp
theorem revs_fwd (n : Nat) : ∀ P l E r, revs n P l = some (E, r) → ∃ X, X.length = n ∧ E = P ++ X ∧ l = encV X ++ r ∧ ∀ e ∈ X, e.r ≤ 7 ∧ I64 e.v := by
  induction n with
  | zero =>
    intro P l E r h
    simp only [revs, Option.some.injEq, Prod.mk.injEq] at h
    obtain ⟨rfl, rfl⟩ := h
    exact ⟨[], rfl, by simp, by simp [encV], by simp⟩
  | succ n ih =>
    intro P l E r h
    rw [revs] at h
    cases h1 : num l with
    | none => rw [h1] at h; cases h
    | some a =>
      obtain ⟨k, l1⟩ := a
      rw [h1] at h
      dsimp only [Option.bind_some] at h
      cases h2 : int l1 with
      | none => rw [h2] at h; cases h
      | some b =>
        obtain ⟨v, l2⟩ := b
        rw [h2] at h
        dsimp only [Option.bind_some] at h
        split at h
        · cases h
        · rename_i hk
          obtain ⟨X, h4, h5, h6, h7⟩ := ih (P ++ [⟨k, v⟩]) l2 E r h
          refine ⟨⟨k, v⟩ :: X, by simp [h4], by rw [h5]; simp, ?_, fun y hy => ?_⟩
          · rw [num_fwd h1, int_fwd h2, h6]; simp [encV]
          · rcases List.mem_cons.1 hy with rfl | hy
            · exact ⟨by show k ≤ 7; omega, (int_some h2).2.2⟩
            · exact h7 y hy
theorem decJn_back {j : Jn} (h : GoodJ j) : decJn (encJn j) = some j := by
  obtain ⟨b, ev, v⟩ := j
  have h1 := h.b8
  have h2 := h.e16
  have h3 := h.low
  dsimp only at h1 h2 h3
  have hr1 := rint_back b (enc ev.length ++ encV ev) h.b64
  have hr2 := revs_back ev [] [] h.ev
  rw [List.append_nil, List.nil_append] at hr2
  rw [h1] at hr1
  unfold decJn encJn
  dsimp only
  rw [num_back v h.v64]
  dsimp only [Option.bind_some]
  rw [hr1]
  dsimp only [Option.bind_some]
  rw [num_back ev.length (by unfold U64; omega)]
  dsimp only [Option.bind_some]
  rw [if_neg (by omega), hr2]
  rfl
theorem decJn_fwd {l : List UInt8} {j : Jn} (h : decJn l = some j) : encJn j = l ∧ GoodJ j := by
  unfold decJn at h
  cases h1 : num l with
  | none => rw [h1] at h; cases h
  | some a =>
    obtain ⟨v, l1⟩ := a
    rw [h1] at h
    dsimp only [Option.bind_some] at h
    cases h2 : rint 8 l1 with
    | none => rw [h2] at h; cases h
    | some b =>
      obtain ⟨base, l2⟩ := b
      rw [h2] at h
      dsimp only [Option.bind_some] at h
      cases h3 : num l2 with
      | none => rw [h3] at h; cases h
      | some c =>
        obtain ⟨n, l3⟩ := c
        rw [h3] at h
        dsimp only [Option.bind_some] at h
        split at h
        · cases h
        · rename_i hno
          cases h4 : revs n [] l3 with
          | none => rw [h4] at h; cases h
          | some d =>
            obtain ⟨E, r⟩ := d
            rw [h4] at h
            dsimp only [Option.bind_some] at h
            split at h
            · rename_i hr
              simp only [Option.some.injEq] at h
              subst h hr
              obtain ⟨i1, i2, i3⟩ := rint_fwd 8 l1 base l2 h2
              obtain ⟨X, x1, x2, x3, x4⟩ := revs_fwd n [] l3 E [] h4
              rw [List.nil_append] at x2
              subst x2
              rw [List.append_nil] at x3
              refine ⟨?_, i1, i3, by show E.length ≤ 16; omega, x4, by show E.length ≤ v; omega, num_lt h1⟩
              unfold encJn
              dsimp only
              rw [num_fwd h1, i2, num_fwd h3, x3, x1]
            · cases h
end Go.Proofs.YtpodoiichpnpjaaDoor
