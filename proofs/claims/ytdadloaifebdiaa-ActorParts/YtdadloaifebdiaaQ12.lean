import Derived.Test.YtdadloaifebdiaaQ09
import Derived.Test.YtdadloaifebdiaaQ11
/-
  Journals, without memory: registers, events, a journal's bytes.
-/
namespace Go.Proofs.Ytdadloaifebdiaa
set_option linter.unusedVariables false
/-- An event: a register is set. -/
structure Ev where
  r : Nat
  v : Int
instance : Inhabited Ev := ⟨⟨0, 0⟩⟩
/-- A journal. -/
structure Jn where
  base : List Int
  ev : List Ev
  ver : Nat
/-- An event is done. -/
def doE (b : List Int) (e : Ev) : List Int := b.set e.r e.v
/-- All are, in order. -/
def doA (b : List Int) (l : List Ev) : List Int := l.foldl doE b
def stJ (j : Jn) : List Int := doA j.base j.ev
def newJ : Jn := ⟨List.replicate 8 0, [], 0⟩
/-- The first event is done to the base, and gone. -/
def dropJ (j : Jn) : Jn := match j.ev with
  | [] => j
  | e :: t => ⟨doE j.base e, t, j.ver⟩
/-- One event more. -/
def addE (j : Jn) (e : Ev) : Jn := if 16 < j.ev.length + 1 then dropJ ⟨j.base, j.ev ++ [e], j.ver + 1⟩ else ⟨j.base, j.ev ++ [e], j.ver + 1⟩
def addA (j : Jn) (l : List Ev) : Jn := l.foldl addE j
def foldJ (j : Jn) : Jn := ⟨stJ j, [], j.ver⟩
theorem doA_append (b : List Int) (l m : List Ev) : doA b (l ++ m) = doA (doA b l) m := by simp [doA]
theorem doA_length (l : List Ev) : ∀ b, (doA b l).length = b.length := by
  induction l with
  | nil => intro b; rfl
  | cons e l ih => intro b; show (doA (doE b e) l).length = _; rw [ih]; simp [doE]
theorem st_drop (j : Jn) : stJ (dropJ j) = stJ j := by
  obtain ⟨b, ev, v⟩ := j
  cases ev with
  | nil => rfl
  | cons e t => rfl
/-- The registers are what was set last. -/
theorem st_add (j : Jn) (e : Ev) : stJ (addE j e) = doE (stJ j) e := by
  unfold addE
  have h : stJ ⟨j.base, j.ev ++ [e], j.ver + 1⟩ = doE (stJ j) e := by
    unfold stJ
    dsimp only
    rw [doA_append]
    rfl
  split
  · rw [st_drop, h]
  · exact h
theorem st_addA (l : List Ev) : ∀ j, stJ (addA j l) = doA (stJ j) l := by
  induction l with
  | nil => intro j; rfl
  | cons e l ih =>
    intro j
    show stJ (addA (addE j e) l) = doA (doE (stJ j) e) l
    rw [ih, st_add]
theorem st_fold (j : Jn) : stJ (foldJ j) = stJ j := rfl
theorem ver_add (j : Jn) (e : Ev) : (addE j e).ver = j.ver + 1 := by
  unfold addE dropJ
  dsimp only
  split
  · split <;> rfl
  · rfl
theorem ver_addA (l : List Ev) : ∀ j, (addA j l).ver = j.ver + l.length := by
  induction l with
  | nil => intro j; rfl
  | cons e l ih =>
    intro j
    show (addA (addE j e) l).ver = _
    rw [ih, ver_add, List.length_cons]
    omega
theorem addA_append (j : Jn) (l m : List Ev) : addA j (l ++ m) = addA (addA j l) m := by simp [addA]
/-- A journal may be. -/
structure GoodJ (j : Jn) : Prop where
  b8 : j.base.length = 8
  b64 : ∀ z ∈ j.base, I64 z
  e16 : j.ev.length ≤ 16
  ev : ∀ e ∈ j.ev, e.r ≤ 7 ∧ I64 e.v
  low : j.ev.length ≤ j.ver
  v64 : U64 j.ver
theorem GoodJ.new : GoodJ newJ := ⟨rfl, fun z hz => by rw [List.eq_of_mem_replicate hz]; unfold I64; omega, by simp [newJ], by simp [newJ], by simp [newJ], by unfold U64; simp [newJ]⟩
theorem doE_I64 {b : List Int} {e : Ev} (h : ∀ z ∈ b, I64 z) (he : I64 e.v) : ∀ z ∈ doE b e, I64 z := fun z hz => by
  rcases List.mem_or_eq_of_mem_set hz with h1 | h1
  · exact h z h1
  · rw [h1]; exact he
theorem doA_I64 (l : List Ev) : ∀ b, (∀ z ∈ b, I64 z) → (∀ e ∈ l, I64 e.v) → ∀ z ∈ doA b l, I64 z := by
  induction l with
  | nil => intro b h _; exact h
  | cons e l ih => intro b h he; exact ih (doE b e) (doE_I64 h (he e (by simp))) fun x hx => he x (by simp [hx])
theorem GoodJ.add {j : Jn} (h : GoodJ j) {e : Ev} (he : e.r ≤ 7 ∧ I64 e.v) (hv : U64 (j.ver + 1)) : GoodJ (addE j e) := by
  obtain ⟨b, ev, v⟩ := j
  have h1 := h.e16
  have h2 := h.low
  dsimp only at h1 h2 hv
  have hev : ∀ x ∈ ev ++ [e], x.r ≤ 7 ∧ I64 x.v := fun x hx => by
    rcases List.mem_append.1 hx with hx | hx
    · exact h.ev x hx
    · simp at hx; subst hx; exact he
  unfold addE
  dsimp only
  split
  · cases ev with
    | nil => simp at *
    | cons x t =>
      have hx := hev x (by simp)
      refine ⟨?_, ?_, ?_, fun y hy => hev y (List.mem_cons_of_mem x (show y ∈ t ++ [e] from hy)), ?_, hv⟩
      · show (doE b x).length = 8
        have := h.b8
        dsimp only at this
        simp [doE, this]
      · exact doE_I64 h.b64 hx.2
      · show (t ++ [e]).length ≤ 16
        simp at h1 ⊢
        omega
      · show (t ++ [e]).length ≤ v + 1
        simp at h2 ⊢
        omega
  · refine ⟨h.b8, h.b64, ?_, hev, ?_, hv⟩
    · show (ev ++ [e]).length ≤ 16
      simp
      omega
    · show (ev ++ [e]).length ≤ v + 1
      simp
      omega
theorem GoodJ.addA {l : List Ev} : ∀ {j : Jn}, GoodJ j → (∀ e ∈ l, e.r ≤ 7 ∧ I64 e.v) → U64 (j.ver + l.length) → GoodJ (addA j l) := by
  induction l with
  | nil => intro j h _ _; exact h
  | cons e l ih =>
    intro j h he hv
    rw [List.length_cons] at hv
    refine ih (h.add (he e (by simp)) (by unfold U64 at *; omega)) (fun x hx => he x (by simp [hx])) ?_
    rw [ver_add]
    unfold U64 at *
    omega
theorem GoodJ.fold {j : Jn} (h : GoodJ j) : GoodJ (foldJ j) :=
  ⟨by show (doA j.base j.ev).length = 8; rw [doA_length]; exact h.b8, doA_I64 j.ev j.base h.b64 fun e he => (h.ev e he).2, by simp [foldJ], by simp [foldJ], by simp [foldJ], h.v64⟩
/-- Integers' bytes. -/
def encI (l : List Int) : List UInt8 := l.flatMap fun z => enc (fold z)
def encV (l : List Ev) : List UInt8 := l.flatMap fun e => enc e.r ++ enc (fold e.v)
/-- A journal's bytes. -/
def encJn (j : Jn) : List UInt8 := enc j.ver ++ (encI j.base ++ (enc j.ev.length ++ encV j.ev))
/-- n integers. -/
def rint : Nat → List UInt8 → Option (List Int × List UInt8)
  | 0, l => some ([], l)
  | n + 1, l => (int l).bind fun a => (rint n a.2).map fun b => (a.1 :: b.1, b.2)
/-- n events. -/
def revs : Nat → List Ev → List UInt8 → Option (List Ev × List UInt8)
  | 0, E, l => some (E, l)
  | n + 1, E, l => (num l).bind fun a => (int a.2).bind fun b => if 7 < a.1 then none else revs n (E ++ [⟨a.1, b.1⟩]) b.2
/-- The journal that bytes are. -/
def decJn (l : List UInt8) : Option Jn := (num l).bind fun a => (rint 8 a.2).bind fun b => (num b.2).bind fun c => if 16 < c.1 ∨ a.1 < c.1 then none else (revs c.1 [] c.2).bind fun d => if d.2 = [] then some ⟨b.1, d.1, a.1⟩ else none
theorem rint_back (a : List Int) : ∀ r, (∀ z ∈ a, I64 z) → rint a.length (encI a ++ r) = some (a, r) := by
  induction a with
  | nil => intro r _; rfl
  | cons z a ih =>
    intro r h
    have e : encI (z :: a) ++ r = enc (fold z) ++ (encI a ++ r) := by simp [encI]
    rw [List.length_cons, rint, e, int_back z (h z (by simp))]
    dsimp only [Option.bind_some]
    rw [ih r (fun y hy => h y (by simp [hy]))]
    rfl
theorem rint_fwd (n : Nat) : ∀ l a r, rint n l = some (a, r) → a.length = n ∧ l = encI a ++ r ∧ ∀ z ∈ a, I64 z := by
  induction n with
  | zero =>
    intro l a r h
    simp only [rint, Option.some.injEq, Prod.mk.injEq] at h
    obtain ⟨rfl, rfl⟩ := h
    exact ⟨rfl, rfl, by simp⟩
  | succ n ih =>
    intro l a r h
    rw [rint] at h
    cases h1 : int l with
    | none => rw [h1] at h; cases h
    | some x =>
      obtain ⟨z, l1⟩ := x
      rw [h1] at h
      dsimp only [Option.bind_some] at h
      cases h2 : rint n l1 with
      | none => rw [h2] at h; cases h
      | some y =>
        obtain ⟨b, q⟩ := y
        rw [h2] at h
        simp only [Option.map_some, Option.some.injEq, Prod.mk.injEq] at h
        obtain ⟨rfl, rfl⟩ := h
        obtain ⟨i1, i2, i3⟩ := ih l1 b q h2
        refine ⟨by simp [i1], ?_, fun w hw => ?_⟩
        · rw [int_fwd h1, i2]; simp [encI]
        · rcases List.mem_cons.1 hw with rfl | hw
          · exact (int_some h1).2.2
          · exact i3 w hw
theorem revs_back (X : List Ev) : ∀ P r, (∀ e ∈ X, e.r ≤ 7 ∧ I64 e.v) → revs X.length P (encV X ++ r) = some (P ++ X, r) := by
  induction X with
  | nil => intro P r _; simp [revs, encV]
  | cons x X ih =>
    intro P r h
    have hx := h x (by simp)
    have e : encV (x :: X) ++ r = enc x.r ++ (enc (fold x.v) ++ (encV X ++ r)) := by simp [encV]
    rw [List.length_cons, revs, e, num_back x.r (by unfold U64; omega)]
    dsimp only [Option.bind_some]
    rw [int_back x.v hx.2]
    dsimp only [Option.bind_some]
    rw [if_neg (by omega), ih (P ++ [x]) r (fun y hy => h y (by simp [hy]))]
    simp
theorem revs_fwd (n : Nat) : ∀ P l E r, revs n P l = some (E, r) → ∃ X, X.length = n ∧ E = P ++ X ∧ l = encV X ++ r ∧ ∀ e ∈ X, e.r ≤ 7 ∧ I64 e.v := by
  induction n with
  | zero =>
    intro P l E r h
    simp only [revs, Option.some.injEq, Prod.mk.injEq] at h
    obtain ⟨rfl, rfl⟩ := h
    exact ⟨[], rfl, by simp, by simp [encV], by simp⟩
  | succ n ih =>
    intro P l E r h
    rw [revs] at h
    cases h1 : num l with
    | none => rw [h1] at h; cases h
    | some a =>
      obtain ⟨k, l1⟩ := a
      rw [h1] at h
      dsimp only [Option.bind_some] at h
      cases h2 : int l1 with
      | none => rw [h2] at h; cases h
      | some b =>
        obtain ⟨v, l2⟩ := b
        rw [h2] at h
        dsimp only [Option.bind_some] at h
        split at h
        · cases h
        · rename_i hk
          obtain ⟨X, h4, h5, h6, h7⟩ := ih (P ++ [⟨k, v⟩]) l2 E r h
          refine ⟨⟨k, v⟩ :: X, by simp [h4], by rw [h5]; simp, ?_, fun y hy => ?_⟩
          · rw [num_fwd h1, int_fwd h2, h6]; simp [encV]
          · rcases List.mem_cons.1 hy with rfl | hy
            · exact ⟨by show k ≤ 7; omega, (int_some h2).2.2⟩
            · exact h7 y hy
theorem decJn_back {j : Jn} (h : GoodJ j) : decJn (encJn j) = some j := by
  obtain ⟨b, ev, v⟩ := j
  have h1 := h.b8
  have h2 := h.e16
  have h3 := h.low
  dsimp only at h1 h2 h3
  have hr1 := rint_back b (enc ev.length ++ encV ev) h.b64
  have hr2 := revs_back ev [] [] h.ev
  rw [List.append_nil, List.nil_append] at hr2
  rw [h1] at hr1
  unfold decJn encJn
  dsimp only
  rw [num_back v h.v64]
  dsimp only [Option.bind_some]
  rw [hr1]
  dsimp only [Option.bind_some]
  rw [num_back ev.length (by unfold U64; omega)]
  dsimp only [Option.bind_some]
  rw [if_neg (by omega), hr2]
  rfl
theorem decJn_fwd {l : List UInt8} {j : Jn} (h : decJn l = some j) : encJn j = l ∧ GoodJ j := by
  unfold decJn at h
  cases h1 : num l with
  | none => rw [h1] at h; cases h
  | some a =>
    obtain ⟨v, l1⟩ := a
    rw [h1] at h
    dsimp only [Option.bind_some] at h
    cases h2 : rint 8 l1 with
    | none => rw [h2] at h; cases h
    | some b =>
      obtain ⟨base, l2⟩ := b
      rw [h2] at h
      dsimp only [Option.bind_some] at h
      cases h3 : num l2 with
      | none => rw [h3] at h; cases h
      | some c =>
        obtain ⟨n, l3⟩ := c
        rw [h3] at h
        dsimp only [Option.bind_some] at h
        split at h
        · cases h
        · rename_i hno
          cases h4 : revs n [] l3 with
          | none => rw [h4] at h; cases h
          | some d =>
            obtain ⟨E, r⟩ := d
            rw [h4] at h
            dsimp only [Option.bind_some] at h
            split at h
            · rename_i hr
              simp only [Option.some.injEq] at h
              subst h hr
              obtain ⟨i1, i2, i3⟩ := rint_fwd 8 l1 base l2 h2
              obtain ⟨X, x1, x2, x3, x4⟩ := revs_fwd n [] l3 E [] h4
              rw [List.nil_append] at x2
              subst x2
              rw [List.append_nil] at x3
              refine ⟨?_, i1, i3, by show E.length ≤ 16; omega, x4, by show E.length ≤ v; omega, num_lt h1⟩
              unfold encJn
              dsimp only
              rw [num_fwd h1, i2, num_fwd h3, x3, x1]
            · cases h
end Go.Proofs.Ytdadloaifebdiaa
/-
  Actors, without memory: all that an actor has, its bytes, there and back.
-/
namespace Go.Proofs.Ytdadloaifebdiaa
set_option linter.unusedVariables false
theorem decP_enc (l : List Lt) (hl : ∀ x ∈ l, x.ok ∧ x.formed = true) (hn : l.length < 18446744073709551616) : decP (enc l.length ++ encT l) = some l := by
  have h1 := rnum_back l.length hn (encT l)
  have h2 := rlN_back l hl []
  unfold decP
  rw [h1]
  dsimp only
  rw [List.append_nil] at h2
  rw [h2]
  rfl
/-- What is unpacked has just these bytes. -/
theorem decP_own {l : List UInt8} {xs : List Lt} (h : decP l = some xs) : enc xs.length ++ encT xs = l := by
  unfold decP at h
  cases hr : rlN_I (rnum l false).1 (rnum l false).2.1 (rnum l false).2.2 with
  | none => rw [hr] at h; cases h
  | some r =>
    rw [hr] at h
    simp only [Option.bind_some] at h
    split at h
    · rename_i hc
      cases h
      obtain ⟨h1, h2, h3, h4, h5⟩ := rlN_fwd _ hr
      simp only [Bool.and_eq_true, Bool.not_eq_true', List.isEmpty_iff] at hc
      have hb : (rnum l false).2.2 = false := by
        rcases Nat.eq_zero_or_pos (rnum l false).1 with h | h
        · rw [← h4 h]; exact hc.1
        · exact (h3 h).2
      have h6 := (rnum_fwd hb).2
      rw [hc.2, List.append_nil] at h2
      rw [h1, ← h2]
      exact h6.symm
    · cases h
/-- An actor. -/
structure Ac where
  j : Jn
  inb : List Lt
  out : Ob
  tries : Int
  poi : List Lt
/-- Tries and poison by themselves. -/
def soundA (tries : Int) (n : Nat) (poi : List Lt) : Bool :=
  !(decide (tries < 0) || decide (2 < tries) || (decide (0 < tries) && decide (n = 0)) || decide (8 < poi.length)) && poi.all fun x => x.formed
theorem soundA_iff (tries : Int) (n : Nat) (poi : List Lt) : soundA tries n poi = true ↔ 0 ≤ tries ∧ tries ≤ 2 ∧ (n = 0 → tries = 0) ∧ poi.length ≤ 8 ∧ ∀ x ∈ poi, x.formed = true := by
  simp only [soundA, Bool.and_eq_true, Bool.not_eq_true', Bool.or_eq_false_iff, decide_eq_false_iff_not, List.all_eq_true, Bool.and_eq_false_iff]
  constructor
  · rintro ⟨⟨⟨⟨h1, h2⟩, h3⟩, h4⟩, h5⟩
    exact ⟨by omega, by omega, fun h => by rcases h3 with h3 | h3; omega; exact absurd h h3, by omega, h5⟩
  · rintro ⟨h1, h2, h3, h4, h5⟩
    refine ⟨⟨⟨⟨by omega, by omega⟩, ?_⟩, by omega⟩, h5⟩
    rcases Nat.eq_zero_or_pos n with h | h
    · exact .inl (by have := h3 h; omega)
    · exact .inr (by omega)
/-- An actor may be (but for its tries and its poison's letters' form). -/
structure GoodP (a : Ac) : Prop where
  j : GoodJ a.j
  i8 : a.inb.length ≤ 8
  inb : ∀ x ∈ a.inb, x.ok ∧ x.formed = true
  out : GoodO a.out
  poi : ∀ x ∈ a.poi, x.ok
structure GoodA (a : Ac) : Prop extends GoodP a where
  sound : soundA a.tries a.inb.length a.poi = true
def packL (l : List Lt) : List UInt8 := enc l.length ++ encT l
/-- An actor's bytes. -/
def encAc (a : Ac) : List UInt8 := enc a.tries.toNat ++ (encTx (encJn a.j) ++ (encTx (packL a.inb) ++ (encTx (encO a.out) ++ encTx (packL a.poi))))
/-- The actor that bytes are. -/
def decAc (l : List UInt8) : Option Ac :=
  (num l).bind fun n => (txt n.2).bind fun tj => (txt tj.2).bind fun ti => (txt ti.2).bind fun to => (txt to.2).bind fun tp =>
    (decJn tj.1).bind fun j => (decP ti.1).bind fun i => (decO to.1).bind fun o => (decP tp.1).bind fun p =>
      if tp.2 = [] ∧ i.length ≤ 8 ∧ n.1 ≤ 2 ∧ soundA n.1 i.length p = true then some ⟨j, i, o, n.1, p⟩ else none
/-- What no actor has is none. -/
def freshA (a : Ac) : Bool := decide (a.j.ver = 0) && a.inb.isEmpty && a.out.L.isEmpty && a.out.K.isEmpty && decide (a.tries = 0) && a.poi.isEmpty
def newA (key : List UInt8) : Ac := ⟨newJ, [], ⟨key, [], []⟩, 0, []⟩
theorem GoodA.new {key : List UInt8} (h : isKey key = true) : GoodA (newA key) :=
  { j := GoodJ.new, i8 := by simp [newA], inb := by simp [newA], out := GoodO.new h, poi := by simp [newA], sound := by simp [newA, soundA] }
theorem encT_length (l : List Lt) (h : ∀ x ∈ l, x.formed = true) : (encT l).length ≤ 112 * l.length := by
  induction l with
  | nil => simp [encT]
  | cons x l ih =>
    have h1 := encL_length x
    have h2 := formed_le (h x (by simp))
    have h3 := ih fun y hy => h y (by simp [hy])
    have e : encT (x :: l) = encL x ++ encT l := rfl
    rw [e, List.length_append, List.length_cons]
    omega
theorem packL_length (l : List Lt) (h : ∀ x ∈ l, x.formed = true) : (packL l).length ≤ 112 * l.length + 9 := by
  have h1 := encT_length l h
  have h2 := enc_length l.length
  simp only [packL, List.length_append]
  omega
theorem encI_len9 (l : List Int) : (encI l).length ≤ 9 * l.length := (encJ_length l).2
theorem encV_len18 (l : List Ev) : (encV l).length ≤ 18 * l.length := by
  induction l with
  | nil => simp [encV]
  | cons x l ih =>
    have h1 := enc_length x.r
    have h2 := enc_length (fold x.v)
    have e : encV (x :: l) = enc x.r ++ enc (fold x.v) ++ encV l := by simp [encV]
    rw [e, List.length_append, List.length_append, List.length_cons]
    omega
theorem encJn_length {j : Jn} (h : GoodJ j) : (encJn j).length ≤ 400 := by
  have h1 := encI_len9 j.base
  have h2 := encV_len18 j.ev
  have h3 := enc_length j.ver
  have h4 := enc_length j.ev.length
  have h5 := h.b8
  have h6 := h.e16
  simp only [encJn, List.length_append]
  omega
theorem encO_length {o : Ob} (h : GoodO o) : (encO o).length ≤ 12000 := by
  have h1 := encK_length (fun y hy => (h.key y hy).1)
  have h2 := encY_length (L := o.L) (fun y hy => ⟨(h.lets y hy).2.1, by
    obtain ⟨z, hz, e⟩ := (has_mem h.rise).1 (h.lets y hy).2.2.2
    have := (isKey_iff _).1 (h.key z hz).1
    rw [← e]; omega⟩)
  have h3 := (isKey_iff _).1 h.own
  have h4 := enc_length o.own.length
  have h5 := enc_length o.K.length
  have h6 := enc_length o.L.length
  have h7 := h.kn
  have h8 := h.ln
  simp only [encO, encTx, List.length_append]
  omega
/-- What was encoded is decoded as it was. -/
theorem decAc_back {a : Ac} (h : GoodA a) : decAc (encAc a) = some a := by
  obtain ⟨s1, s2, s3, s4, s5⟩ := (soundA_iff _ _ _).1 h.sound
  have l1 := encJn_length h.j
  have l2 := packL_length a.inb fun x hx => (h.inb x hx).2
  have l3 := encO_length h.out
  have l4 := packL_length a.poi s5
  have i8 := h.i8
  unfold decAc encAc
  rw [num_back a.tries.toNat (by unfold U64; omega)]
  dsimp only [Option.bind_some]
  rw [txt_back _ (by omega)]
  dsimp only [Option.bind_some]
  rw [txt_back _ (by omega)]
  dsimp only [Option.bind_some]
  rw [txt_back _ (by omega)]
  dsimp only [Option.bind_some]
  rw [show encTx (packL a.poi) = encTx (packL a.poi) ++ [] by simp, txt_back _ (by omega)]
  dsimp only [Option.bind_some]
  rw [decJn_back h.j]
  dsimp only [Option.bind_some]
  rw [packL, decP_enc a.inb h.inb (by omega)]
  dsimp only [Option.bind_some]
  rw [decO_back h.out]
  dsimp only [Option.bind_some]
  rw [packL, decP_enc a.poi (fun x hx => ⟨h.poi x hx, s5 x hx⟩) (by omega)]
  dsimp only [Option.bind_some]
  have e : ((a.tries.toNat : Nat) : Int) = a.tries := by omega
  rw [e, if_pos ⟨rfl, h.i8, by omega, h.sound⟩]
/-- What is decoded has just these bytes, and is good. -/
theorem decAc_fwd {l : List UInt8} {a : Ac} (h : decAc l = some a) : encAc a = l ∧ GoodA a := by
  unfold decAc at h
  simp only [Option.bind_eq_some_iff] at h
  obtain ⟨⟨n, l1⟩, h1, ⟨tj, l2⟩, h2, ⟨ti, l3⟩, h3, ⟨to, l4⟩, h4, ⟨tp, l5⟩, h5, j, h6, i, h7, o, h8, p, h9, h⟩ := h
  dsimp only at h h2 h3 h4 h5 h6 h7 h8 h9
  split at h
  · rename_i hc
    cases h
    obtain ⟨c1, c2, c3, c4⟩ := hc
    have f1 := decJn_fwd h6
    have f2 := decP_own h7
    have f3 := decO_fwd h8
    have f4 := decP_own h9
    refine ⟨?_, { j := f1.2, i8 := c2, inb := decP_ok h7, out := f3.2, poi := fun x hx => (decP_ok h9 x hx).1, sound := c4 }⟩
    unfold encAc
    dsimp only
    rw [num_fwd h1, txt_fwd h2, txt_fwd h3, txt_fwd h4, txt_fwd h5, c1, List.append_nil, f1.1, packL, f2, f3.1, packL, f4]
    rfl
  · cases h
theorem encAc_length {a : Ac} (h : GoodA a) : (encAc a).length ≤ 16000 := by
  obtain ⟨s1, s2, s3, s4, s5⟩ := (soundA_iff _ _ _).1 h.sound
  have l1 := encJn_length h.j
  have l2 := packL_length a.inb fun x hx => (h.inb x hx).2
  have l3 := encO_length h.out
  have l4 := packL_length a.poi s5
  have i8 := h.i8
  have e1 := enc_length a.tries.toNat
  have e2 := enc_length (encJn a.j).length
  have e3 := enc_length (packL a.inb).length
  have e4 := enc_length (encO a.out).length
  have e5 := enc_length (packL a.poi).length
  simp only [encAc, encTx, List.length_append]
  omega
theorem freshA_new (key : List UInt8) : freshA (newA key) = true := by simp [freshA, newA, newJ]
/-- What the reads of an actor's bytes find, one behind the other. -/
def R0 (l : List UInt8) := rnum l false
def R1 (l : List UInt8) := rtext (R0 l).2.1 (R0 l).2.2
def R2 (l : List UInt8) := rtext (R1 l).2.1 (R1 l).2.2
def R3 (l : List UInt8) := rtext (R2 l).2.1 (R2 l).2.2
def R4 (l : List UInt8) := rtext (R3 l).2.1 (R3 l).2.2
/-- The actor of four parts. -/
def mkAc (n : Nat) (j : Option Jn) (i : Option (List Lt)) (o : Option Ob) (p : Option (List Lt)) : Option Ac :=
  j.bind fun j => i.bind fun i => o.bind fun o => p.bind fun p => if i.length ≤ 8 ∧ n ≤ 2 ∧ soundA n i.length p = true then some ⟨j, i, o, n, p⟩ else none
theorem mkAc_some {n : Nat} {j : Jn} {i : List Lt} {o : Ob} {p : List Lt} : mkAc n (some j) (some i) (some o) (some p) = if i.length ≤ 8 ∧ n ≤ 2 ∧ soundA n i.length p = true then some ⟨j, i, o, n, p⟩ else none := rfl
theorem mkAc_j {n : Nat} {i : Option (List Lt)} {o : Option Ob} {p : Option (List Lt)} : mkAc n none i o p = none := rfl
theorem mkAc_i {n : Nat} {j : Option Jn} {o : Option Ob} {p : Option (List Lt)} : mkAc n j none o p = none := by cases j <;> rfl
theorem mkAc_o {n : Nat} {j : Option Jn} {i : Option (List Lt)} {p : Option (List Lt)} : mkAc n j i none p = none := by cases j <;> cases i <;> rfl
theorem mkAc_p {n : Nat} {j : Option Jn} {i : Option (List Lt)} {o : Option Ob} : mkAc n j i o none = none := by cases j <;> cases i <;> cases o <;> rfl
theorem mkAc_n {n : Nat} {j : Option Jn} {i : Option (List Lt)} {o : Option Ob} {p : Option (List Lt)} (h : 2 < n) : mkAc n j i o p = none := by
  cases j <;> cases i <;> cases o <;> cases p <;> first | rfl | (rw [mkAc_some, if_neg (by omega)])
def decR (l : List UInt8) : Option Ac := if (!(R4 l).2.2 && (R4 l).2.1.isEmpty) = true then mkAc (R0 l).1 (decJn (R1 l).1) (decP (R2 l).1) (decO (R3 l).1) (decP (R4 l).1) else none
theorem decR_eq (l : List UInt8) : decR l = decAc l := by
  unfold decR decAc
  cases h0 : num l with
  | none =>
    have e0 : R0 l = (0, [], true) := num_none h0
    have e1 : R1 l = ([], [], true) := by rw [R1, e0]; rfl
    have e2 : R2 l = ([], [], true) := by rw [R2, e1]; rfl
    have e3 : R3 l = ([], [], true) := by rw [R3, e2]; rfl
    have e4 : R4 l = ([], [], true) := by rw [R4, e3]; rfl
    rw [e4]; rfl
  | some x0 =>
  obtain ⟨n, l1⟩ := x0
  have e0 : R0 l = (n, l1, false) := num_some h0
  dsimp only [Option.bind_some]
  cases h1 : txt l1 with
  | none =>
    have e1 : R1 l = ([], [], true) := by rw [R1, e0]; exact txt_none h1
    have e2 : R2 l = ([], [], true) := by rw [R2, e1]; rfl
    have e3 : R3 l = ([], [], true) := by rw [R3, e2]; rfl
    have e4 : R4 l = ([], [], true) := by rw [R4, e3]; rfl
    rw [e4]; rfl
  | some x1 =>
  obtain ⟨t1, l2⟩ := x1
  have e1 : R1 l = (t1, l2, false) := by rw [R1, e0]; exact txt_some h1
  dsimp only [Option.bind_some]
  cases h2 : txt l2 with
  | none =>
    have e2 : R2 l = ([], [], true) := by rw [R2, e1]; exact txt_none h2
    have e3 : R3 l = ([], [], true) := by rw [R3, e2]; rfl
    have e4 : R4 l = ([], [], true) := by rw [R4, e3]; rfl
    rw [e4]; rfl
  | some x2 =>
  obtain ⟨t2, l3⟩ := x2
  have e2 : R2 l = (t2, l3, false) := by rw [R2, e1]; exact txt_some h2
  dsimp only [Option.bind_some]
  cases h3 : txt l3 with
  | none =>
    have e3 : R3 l = ([], [], true) := by rw [R3, e2]; exact txt_none h3
    have e4 : R4 l = ([], [], true) := by rw [R4, e3]; rfl
    rw [e4]; rfl
  | some x3 =>
  obtain ⟨t3, l4⟩ := x3
  have e3 : R3 l = (t3, l4, false) := by rw [R3, e2]; exact txt_some h3
  dsimp only [Option.bind_some]
  cases h4 : txt l4 with
  | none =>
    have e4 : R4 l = ([], [], true) := by rw [R4, e3]; exact txt_none h4
    rw [e4]; rfl
  | some x4 =>
  obtain ⟨t4, l5⟩ := x4
  have e4 : R4 l = (t4, l5, false) := by rw [R4, e3]; exact txt_some h4
  rw [e0, e1, e2, e3, e4]
  dsimp only [Option.bind_some]
  by_cases hl : l5 = []
  · subst hl
    rw [if_pos (show (!false && ([] : List UInt8).isEmpty) = true from rfl)]
    cases decJn t1 <;> cases decP t2 <;> cases decO t3 <;> cases decP t4 <;> simp [mkAc]
  · rw [if_neg (by simp [hl])]
    cases decJn t1 <;> cases decP t2 <;> cases decO t3 <;> cases decP t4 <;> simp [hl]
/-- The bytes of an outbox are those of a new one just where nothing was sent. -/
theorem encO_new {o : Ob} (h : GoodO o) : encO o = encO ⟨o.own, [], []⟩ ↔ o.K = [] ∧ o.L = [] := by
  constructor
  · intro e
    have h1 := decO_back h
    rw [e, decO_back (GoodO.new h.own)] at h1
    injection h1 with h1
    rw [← h1]
    exact ⟨rfl, rfl⟩
  · rintro ⟨h1, h2⟩
    obtain ⟨a, b, c⟩ := o
    dsimp only at h1 h2
    rw [h1, h2]
/-- Without serials there are no letters. -/
theorem GoodO.noL {o : Ob} (h : GoodO o) (hk : o.K = []) : o.L = [] := by
  cases hL : o.L with
  | nil => rfl
  | cons y t =>
    have := (h.lets y (by rw [hL]; simp)).2.2.2
    rw [hk] at this
    simp [hasK] at this
end Go.Proofs.Ytdadloaifebdiaa
