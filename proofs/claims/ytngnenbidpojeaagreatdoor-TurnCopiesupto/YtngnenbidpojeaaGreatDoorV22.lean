import Derived.WalkKit
import Derived.Deep.AppendLies
import Derived.Lib.AppendStr
import Derived.Laws.IdiomStrings
import Derived.OneCell
import Derived.KernelRfl
import Derived.IntWalk
import Derived.Lib.ItoaMem
import Derived.Lib.ParseIntBTie
import Derived.Lib.CutLaws
import Derived.Test.YtngnenbidpojeaaGreatDoorV01
import Derived.Test.YtngnenbidpojeaaGreatDoorV02
import Derived.Test.YtngnenbidpojeaaGreatDoorV03
import Derived.Test.YtngnenbidpojeaaGreatDoorV04
import Derived.Test.YtngnenbidpojeaaGreatDoorV07
import Derived.Test.YtngnenbidpojeaaGreatDoorV08
/-
  What the bytes that are still to be read make of a journal; without memory.
-/
namespace Go.Proofs.YtngnenbidpojeaaGreatDoor
set_option linter.unusedVariables false
theorem rnum_true (l : List UInt8) : (rnum l true).2.2 = true := by
  unfold rnum
  split <;> rfl
theorem int_bad {l : List UInt8} (h : int l = none) : rnum l false = (0, [], true) := num_none (int_none h)
/-- What is behind the base. -/
def contJ (ver : Nat) (base : List Int) (r : List UInt8) : Option Jn := (num r).bind fun c => if 16 < c.1 ∨ ver < c.1 then none else (revs c.1 [] c.2).bind fun d => if d.2 = [] then some ⟨base, d.1, ver⟩ else none
/-- After k registers, A, the bytes r are left. -/
def AInv (l : List UInt8) (ver k : Nat) (A : List Int) (r : List UInt8) (bad : Bool) : Prop :=
  (bad = true → decJn l = none) ∧ (bad = false → decJn l = (rint (8 - k) r).bind fun b => contJ ver (A ++ b.1) b.2)
theorem AInv.start (l : List UInt8) : AInv l (rnum l false).1 0 [] (rnum l false).2.1 (rnum l false).2.2 := by
  cases h : num l with
  | none =>
    rw [num_none h]
    refine ⟨fun _ => ?_, (fun h => by cases h)⟩
    unfold decJn
    rw [h]
    rfl
  | some a =>
    obtain ⟨n, r⟩ := a
    rw [num_some h]
    refine ⟨(fun h => by cases h), fun _ => ?_⟩
    unfold decJn contJ
    rw [h]
    rfl
theorem AInv.step {l : List UInt8} {ver k : Nat} {A : List Int} {r : List UInt8} {bad : Bool} (h : AInv l ver k A r bad) (hk : k < 8) : AInv l ver (k + 1) (A ++ [unfold (rnum r bad).1]) (rnum r bad).2.1 (rnum r bad).2.2 := by
  cases bad with
  | true => exact ⟨fun _ => h.1 rfl, fun e => by rw [rnum_true] at e; cases e⟩
  | false =>
    have h2 := h.2 rfl
    rw [show 8 - k = (8 - (k + 1)) + 1 by omega, rint] at h2
    cases hi : int r with
    | none =>
      rw [int_bad hi]
      rw [hi] at h2
      exact ⟨fun _ => h2, (fun e => by cases e)⟩
    | some x =>
      obtain ⟨z, r'⟩ := x
      obtain ⟨e1, e2, -⟩ := int_some hi
      rw [e1]
      dsimp only
      rw [e2]
      refine ⟨(fun e => by cases e), fun _ => ?_⟩
      rw [hi] at h2
      rw [h2]
      dsimp only [Option.bind_some]
      cases rint (8 - (k + 1)) r' with
      | none => rfl
      | some b => simp
/-- After k events, E, of n, the bytes r are left. -/
def BInv (l : List UInt8) (ver : Nat) (A : List Int) (n k : Nat) (E : List Ev) (r : List UInt8) (bad : Bool) : Prop :=
  (bad = true → decJn l = none) ∧ (bad = false → ((16 < n ∨ ver < n) → decJn l = none) ∧ (¬ (16 < n ∨ ver < n) → decJn l = (revs (n - k) E r).bind fun d => if d.2 = [] then some ⟨A, d.1, ver⟩ else none))
theorem BInv.start {l : List UInt8} {ver : Nat} {A : List Int} {r : List UInt8} {bad : Bool} (h : AInv l ver 8 A r bad) : BInv l ver A (rnum r bad).1 0 [] (rnum r bad).2.1 (rnum r bad).2.2 := by
  cases bad with
  | true => exact ⟨fun _ => h.1 rfl, fun e => by rw [rnum_true] at e; cases e⟩
  | false =>
    have h2 := h.2 rfl
    rw [Nat.sub_self, rint] at h2
    dsimp only [Option.bind_some] at h2
    rw [List.append_nil] at h2
    unfold contJ at h2
    cases hi : num r with
    | none =>
      rw [num_none hi]
      rw [hi] at h2
      exact ⟨fun _ => h2, (fun e => by cases e)⟩
    | some x =>
      obtain ⟨n, r'⟩ := x
      rw [num_some hi]
      rw [hi] at h2
      dsimp only [Option.bind_some] at h2
      refine ⟨(fun e => by cases e), fun _ => ⟨fun hb => ?_, fun hb => ?_⟩⟩
      · rw [h2, if_pos hb]
      · rw [h2, if_neg hb]
        rfl
theorem BInv.big {l : List UInt8} {ver : Nat} {A : List Int} {n k : Nat} {E : List Ev} {r : List UInt8} {bad : Bool} (h : BInv l ver A n k E r bad) (hb : 16 < n ∨ ver < n) : decJn l = none := by
  cases bad with
  | true => exact h.1 rfl
  | false => exact (h.2 rfl).1 hb
/-- The register of the next event is none. -/
theorem BInv.no {l : List UInt8} {ver : Nat} {A : List Int} {n k : Nat} {E : List Ev} {r : List UInt8} {bad : Bool} (h : BInv l ver A n k E r bad) (hk : k < n) (hs : ¬ (16 < n ∨ ver < n)) (h7 : 7 < (rnum r bad).1) : decJn l = none := by
  cases bad with
  | true => exact h.1 rfl
  | false =>
    have h2 := (h.2 rfl).2 hs
    rw [show n - k = (n - (k + 1)) + 1 by omega, revs] at h2
    cases hi : num r with
    | none => rw [num_none hi] at h7; exact absurd h7 (by decide)
    | some x =>
      obtain ⟨m, r'⟩ := x
      rw [num_some hi] at h7
      rw [hi] at h2
      dsimp only [Option.bind_some] at h2 h7
      rw [h2]
      cases int r' with
      | none => rfl
      | some y =>
        dsimp only [Option.bind_some]
        rw [if_pos h7]
        rfl
/-- One event more. -/
theorem BInv.yes {l : List UInt8} {ver : Nat} {A : List Int} {n k : Nat} {E : List Ev} {r : List UInt8} {bad : Bool} (h : BInv l ver A n k E r bad) (hk : k < n) (h7 : ¬ 7 < (rnum r bad).1) : BInv l ver A n (k + 1) (E ++ [⟨(rnum r bad).1, unfold (rnum (rnum r bad).2.1 (rnum r bad).2.2).1⟩]) (rnum (rnum r bad).2.1 (rnum r bad).2.2).2.1 (rnum (rnum r bad).2.1 (rnum r bad).2.2).2.2 := by
  cases bad with
  | true => exact ⟨fun _ => h.1 rfl, fun e => by rw [rnum_true, rnum_true] at e; cases e⟩
  | false =>
    obtain ⟨h1, h2⟩ := h.2 rfl
    rw [show n - k = (n - (k + 1)) + 1 by omega, revs] at h2
    cases hi : num r with
    | none =>
      rw [num_none hi]
      refine ⟨fun _ => ?_, (fun e => by dsimp only at e; rw [rnum_true] at e; cases e)⟩
      by_cases hs : 16 < n ∨ ver < n
      · exact h1 hs
      · rw [h2 hs, hi]
        rfl
    | some x =>
      obtain ⟨m, r'⟩ := x
      rw [num_some hi] at h7 ⊢
      dsimp only at h7 ⊢
      cases hj : int r' with
      | none =>
        rw [int_bad hj]
        refine ⟨fun _ => ?_, (fun e => by cases e)⟩
        by_cases hs : 16 < n ∨ ver < n
        · exact h1 hs
        · rw [h2 hs, hi]
          dsimp only [Option.bind_some]
          rw [hj]
          rfl
      | some y =>
        obtain ⟨z, r2⟩ := y
        obtain ⟨e1, e2, -⟩ := int_some hj
        rw [e1]
        dsimp only
        rw [e2]
        refine ⟨(fun e => by cases e), fun _ => ⟨h1, fun hs => ?_⟩⟩
        rw [h2 hs, hi]
        dsimp only [Option.bind_some]
        rw [hj]
        dsimp only [Option.bind_some]
        rw [if_neg h7]
theorem BInv.fin {l : List UInt8} {ver : Nat} {A : List Int} {n : Nat} {E : List Ev} {r : List UInt8} {bad : Bool} (h : BInv l ver A n n E r bad) (hs : ¬ (16 < n ∨ ver < n)) : decJn l = if (!bad && r.isEmpty) = true then some ⟨A, E, ver⟩ else none := by
  cases bad with
  | true => rw [h.1 rfl]; rfl
  | false =>
    rw [(h.2 rfl).2 hs, Nat.sub_self, revs]
    cases r with
    | nil => rfl
    | cons a r => rfl
/-- Eight places, the first ones filled. -/
def padA (A : List Int) : List Int := A ++ List.replicate (8 - A.length) 0
theorem padA_full {A : List Int} (h : A.length = 8) : padA A = A := by simp [padA, h]
theorem padA_more {A : List Int} (h : A.length < 8) (x : Int) : (padA A).set A.length x = padA (A ++ [x]) := by
  have e1 : padA A = A ++ (0 :: List.replicate (8 - (A.length + 1)) 0) := by rw [padA, show 8 - A.length = (8 - (A.length + 1)) + 1 by omega, List.replicate_succ]
  rw [e1, List.set_append_right _ _ (Nat.le_refl _), Nat.sub_self, List.set_cons_zero, padA, List.length_append]
  simp
end Go.Proofs.YtngnenbidpojeaaGreatDoor
/-
  Letters, numbers, programs as lists, without memory: their texts and bytes, there and back.
-/
namespace Go.Proofs.YtngnenbidpojeaaGreatDoor
set_option linter.unusedVariables false
end Go.Proofs.YtngnenbidpojeaaGreatDoor
namespace Go.Proofs.YtngnenbidpojeaaGreatDoor
set_option linter.unusedVariables false
end Go.Proofs.YtngnenbidpojeaaGreatDoor
namespace Go.Proofs.YtngnenbidpojeaaGreatDoor
set_option linter.unusedVariables false
end Go.Proofs.YtngnenbidpojeaaGreatDoor
namespace Go.Proofs.YtngnenbidpojeaaGreatDoor
open Go.Lib (decDigits itoa)
set_option linter.unusedVariables false
/-- The operations' words, and what their integers are. -/
def words : List (List UInt8 × Nat) := [([104, 97, 108, 116], 0), ([112, 117, 115, 104], 1), ([108, 111, 97, 100], 2), ([115, 116, 111, 114, 101], 2), ([97, 114, 103], 3), ([107, 105, 110, 100], 0), ([97, 100, 100], 0), ([115, 117, 98], 0), ([109, 117, 108], 0), ([108, 101, 115, 115], 0), ([101, 113, 117, 97, 108], 0), ([110, 111, 116], 0), ([100, 117, 112], 0), ([100, 114, 111, 112], 0), ([115, 119, 97, 112], 0), ([106, 117, 109, 112], 4), ([106, 117, 109, 112, 122], 4), ([115, 101, 110, 100], 5), ([114, 101, 112, 108, 121], 0), ([114, 101, 109, 105, 110, 100], 5), ([99, 97, 110, 99, 101, 108], 5), ([102, 97, 105, 108], 0), ([110, 111, 119], 0), ([115, 101, 114, 105, 97, 108], 0)]
theorem words_length : words.length = 24 := rfl
end Go.Proofs.YtngnenbidpojeaaGreatDoor
namespace Go.Proofs.YtngnenbidpojeaaGreatDoor
open Go.Lib (decDigits itoa)
set_option linter.unusedVariables false
/-- An instruction: an operation's number and an integer. -/
structure In where
  op : Int
  arg : Int
instance : Inhabited In := ⟨⟨0, 0⟩⟩
/-- A program. -/
structure Pg where
  names : List (List UInt8)
  code : List In
/-- What a line is. -/
inductive Ln where
  | nm (k : List UInt8)
  | ins (op : Nat) (arg : Int)
/-- The word name, and a blank. -/
def nameB : List UInt8 := [110, 97, 109, 101, 32]
/-- The most that an integer may be, by what it is. -/
def mostI (nn nc : Nat) (k : Nat) : Int := if k = 0 then 0 else if k = 2 then 7 else if k = 3 then 3 else if k = 4 then (nc : Int) else (nn : Int) - 1
def okI (nn nc : Nat) (x : In) : Bool := match words[x.op.toNat]? with
  | some (w, k) => decide (0 ≤ x.op) && (decide (k = 1) || (decide (0 ≤ x.arg) && decide (x.arg ≤ mostI nn nc k)))
  | none => false
/-- A program is formed. -/
def formedP (p : Pg) : Bool := decide (p.names.length ≤ 8) && decide (p.code.length ≤ 200) && p.names.all isKey && p.code.all (okI p.names.length p.code.length)
/-- Its integers are of 64 bits. -/
def OkP (p : Pg) : Prop := ∀ x ∈ p.code, I64 x.arg
theorem formed_parts {p : Pg} (h : formedP p = true) : p.names.length ≤ 8 ∧ p.code.length ≤ 200 ∧ (∀ k ∈ p.names, isKey k = true) ∧ ∀ x ∈ p.code, okI p.names.length p.code.length x = true := by
  unfold formedP at h
  simp only [Bool.and_eq_true, decide_eq_true_eq, List.all_eq_true] at h
  exact ⟨h.1.1.1, h.1.1.2, h.1.2, h.2⟩
end Go.Proofs.YtngnenbidpojeaaGreatDoor
namespace Go.Proofs.YtngnenbidpojeaaGreatDoor
set_option linter.unusedVariables false
end Go.Proofs.YtngnenbidpojeaaGreatDoor
namespace Go.Proofs.YtngnenbidpojeaaGreatDoor
open Go.Lib (decDigits itoa)
set_option linter.unusedVariables false
end Go.Proofs.YtngnenbidpojeaaGreatDoor
namespace Go.Proofs.YtngnenbidpojeaaGreatDoor
open Go.Lib (decDigits itoa)
set_option linter.unusedVariables false
end Go.Proofs.YtngnenbidpojeaaGreatDoor
namespace Go.Proofs.YtngnenbidpojeaaGreatDoor
set_option linter.unusedVariables false
end Go.Proofs.YtngnenbidpojeaaGreatDoor
/-
  Runs of programs, without memory.
-/
namespace Go.Proofs.YtngnenbidpojeaaGreatDoor
set_option linter.unusedVariables false
/-- What is sent. -/
structure Sn where
  to : List UInt8
  kind : Int
  arg : Int
/-- A reminder that is asked for, or cancelled. -/
structure Tm where
  nm : List UInt8
  can : Bool
  due : Int
  per : Int
  kind : Int
/-- Where a run stands; the top of the stack is its last one. -/
structure Mc where
  at_ : Nat
  st : List Int
  reg : List Int
  ev : List Ev
  sent : List Sn
  tm : List Tm
/-- How many an operation takes, and pushes. -/
def effI (op : Nat) : Nat × Nat :=
  if op = 1 ∨ op = 2 ∨ op = 4 ∨ op = 5 ∨ op = 22 ∨ op = 23 then (0, 1)
  else if op = 3 ∨ op = 13 ∨ op = 16 then (1, 0)
  else if op = 6 ∨ op = 7 ∨ op = 8 ∨ op = 9 ∨ op = 10 then (2, 1)
  else if op = 11 then (1, 1)
  else if op = 12 then (1, 2)
  else if op = 14 then (2, 2)
  else if op = 17 ∨ op = 18 ∨ op = 19 then (2, 0)
  else (0, 0)
def w64 (z : Int) : Int := IntKind.i64.wrap z
/-- What an instruction pushes that pushes one integer. -/
def valI (l : Lt) (now : Int) (reg : List Int) (op : Nat) (arg x y : Int) : Int :=
  if op = 1 then arg
  else if op = 2 then reg.getD arg.toNat 0
  else if op = 4 then l.args.getD arg.toNat 0
  else if op = 5 then l.kind
  else if op = 6 then w64 (x + y)
  else if op = 7 then w64 (x - y)
  else if op = 8 then w64 (x * y)
  else if op = 9 then (if x < y then 1 else 0)
  else if op = 10 then (if x = y then 1 else 0)
  else if op = 11 then (if x = 0 then 1 else 0)
  else if op = 22 then now
  else if op = 23 then w64 (l.ser : Int)
  else 0
/-- What a step comes to. -/
inductive Ou where
  | go (m : Mc)
  | halt (m : Mc)
  | err (e : Int)
/-- What an operation does, x and y being taken. -/
def actI (p : Pg) (l : Lt) (now : Int) (m : Mc) (op g : Nat) (arg x y : Int) : Ou :=
  if op = 0 then .halt m
  else if op = 21 then .err 12
  else if op = 3 then .go { m with reg := m.reg.set arg.toNat x, ev := m.ev ++ [⟨arg.toNat, x⟩] }
  else if op = 12 then .go { m with st := m.st ++ [x, x] }
  else if op = 14 then .go { m with st := m.st ++ [y, x] }
  else if op = 15 then .go { m with at_ := arg.toNat }
  else if op = 16 then .go { m with at_ := if x = 0 then arg.toNat else m.at_ }
  else if op = 17 ∨ op = 18 then
    (if (if op = 17 then p.names.getD arg.toNat [] else l.fr) = [] then .go m
     else if 4 ≤ m.sent.length then .err 12
     else .go { m with sent := m.sent ++ [⟨if op = 17 then p.names.getD arg.toNat [] else l.fr, x, y⟩] })
  else if op = 19 then
    (if x < 0 ∨ 9223372036854775807 < now + x ∨ y < 1 then .err 12
     else .go { m with tm := m.tm ++ [⟨p.names.getD arg.toNat [], false, now + x, y, l.kind⟩] })
  else if op = 20 then .go { m with tm := m.tm ++ [⟨p.names.getD arg.toNat [], true, 0, 0, 0⟩] }
  else .go { m with st := if g = 1 then m.st ++ [valI l now m.reg op arg x y] else m.st }
/-- A step. -/
def oneI (p : Pg) (l : Lt) (now : Int) (m : Mc) (i : In) : Ou :=
  if m.st.length < (effI i.op.toNat).1 ∨ 16 < m.st.length - (effI i.op.toNat).1 + (effI i.op.toNat).2 then .err 10
  else if (effI i.op.toNat).1 = 2 then actI p l now { m with at_ := m.at_ + 1, st := m.st.dropLast.dropLast } i.op.toNat (effI i.op.toNat).2 i.arg (m.st.dropLast.getLastD 0) (m.st.getLastD 0)
  else if (effI i.op.toNat).1 = 1 then actI p l now { m with at_ := m.at_ + 1, st := m.st.dropLast } i.op.toNat (effI i.op.toNat).2 i.arg (m.st.getLastD 0) 0
  else actI p l now { m with at_ := m.at_ + 1 } i.op.toNat (effI i.op.toNat).2 i.arg 0 0
/-- What a run comes to: where it stands and its steps; or an error and the steps. -/
inductive Rr where
  | ok (m : Mc) (k : Nat)
  | err (e : Int) (k : Nat)
/-- A run of f steps at most, behind k. -/
def runI (p : Pg) (l : Lt) (now : Int) : Nat → Nat → Mc → Rr
  | 0, k, m => match p.code[m.at_]? with
    | none => .ok m k
    | some i => .err 11 k
  | f + 1, k, m => match p.code[m.at_]? with
    | none => .ok m k
    | some i => match oneI p l now m i with
      | .err e => .err e (k + 1)
      | .halt m' => .ok m' (k + 1)
      | .go m' => runI p l now f (k + 1) m'
def Mc.start (reg : List Int) : Mc := ⟨0, [], reg, [], [], []⟩
/-- What holds all the way. -/
structure Fine (reg0 : List Int) (now : Int) (m : Mc) : Prop where
  reg : m.reg = doA reg0 m.ev
  ev : ∀ e ∈ m.ev, e.r ≤ 7
  sent : m.sent.length ≤ 4
  tm : ∀ t ∈ m.tm, t.can = false → now ≤ t.due ∧ 1 ≤ t.per
  st : m.st.length ≤ 16
theorem Fine.start {reg0 : List Int} {now : Int} : Fine reg0 now (Mc.start reg0) := ⟨rfl, by simp [Mc.start], by simp [Mc.start], by simp [Mc.start], by simp [Mc.start]⟩
/-- The registers that an instruction of a formed program names are there. -/
def Named (i : In) : Prop := i.op.toNat = 3 → i.arg.toNat ≤ 7
/-- What a step comes to is fine; E: the errors that it may tell. -/
def FineO (reg0 : List Int) (now : Int) (E : Int → Prop) : Ou → Prop
  | .go m => Fine reg0 now m
  | .halt m => Fine reg0 now m
  | .err e => E e
theorem act_fine {reg0 : List Int} {p : Pg} {l : Lt} {now : Int} {m : Mc} {op g : Nat} {arg x y : Int} (h : Fine reg0 now m) (hn : op = 3 → arg.toNat ≤ 7) (hg : m.st.length + g ≤ 16) (h12 : op = 12 → g = 2) (h14 : op = 14 → g = 2) : FineO reg0 now (fun e => e = 12) (actI p l now m op g arg x y) := by
  unfold actI
  have hst := h.st
  by_cases c0 : op = 0
  · rw [if_pos c0]; exact h
  rw [if_neg c0]
  by_cases c1 : op = 21
  · rw [if_pos c1]; rfl
  rw [if_neg c1]
  by_cases c2 : op = 3
  · rw [if_pos c2]
    refine ⟨?_, fun z hz => ?_, h.sent, h.tm, h.st⟩
    · show m.reg.set arg.toNat x = doA reg0 (m.ev ++ [⟨arg.toNat, x⟩])
      rw [doA_append, ← h.reg]; rfl
    · rcases List.mem_append.1 hz with hz | hz
      · exact h.ev z hz
      · simp at hz; subst hz; exact hn c2
  rw [if_neg c2]
  by_cases c3 : op = 12
  · rw [if_pos c3]
    exact ⟨h.reg, h.ev, h.sent, h.tm, by show (m.st ++ [x, x]).length ≤ 16; have := h12 c3; simp; omega⟩
  rw [if_neg c3]
  by_cases c4 : op = 14
  · rw [if_pos c4]
    exact ⟨h.reg, h.ev, h.sent, h.tm, by show (m.st ++ [y, x]).length ≤ 16; have := h14 c4; simp; omega⟩
  rw [if_neg c4]
  by_cases c5 : op = 15
  · rw [if_pos c5]; exact ⟨h.reg, h.ev, h.sent, h.tm, h.st⟩
  rw [if_neg c5]
  by_cases c6 : op = 16
  · rw [if_pos c6]; exact ⟨h.reg, h.ev, h.sent, h.tm, h.st⟩
  rw [if_neg c6]
  by_cases c7 : op = 17 ∨ op = 18
  · rw [if_pos c7]
    generalize (if op = 17 then p.names.getD arg.toNat [] else l.fr) = to
    by_cases d : to = []
    · rw [if_pos d]; exact h
    rw [if_neg d]
    by_cases d4 : 4 ≤ m.sent.length
    · rw [if_pos d4]; rfl
    rw [if_neg d4]
    exact ⟨h.reg, h.ev, by show (m.sent ++ [_]).length ≤ 4; simp; omega, h.tm, h.st⟩
  rw [if_neg c7]
  by_cases c8 : op = 19
  · rw [if_pos c8]
    by_cases d : x < 0 ∨ 9223372036854775807 < now + x ∨ y < 1
    · rw [if_pos d]; rfl
    rw [if_neg d]
    refine ⟨h.reg, h.ev, h.sent, fun t ht => ?_, h.st⟩
    rcases List.mem_append.1 ht with ht | ht
    · exact h.tm t ht
    · simp at ht; subst ht; intro _; exact ⟨by show now ≤ now + x; omega, by show 1 ≤ y; omega⟩
  rw [if_neg c8]
  by_cases c9 : op = 20
  · rw [if_pos c9]
    refine ⟨h.reg, h.ev, h.sent, fun t ht => ?_, h.st⟩
    rcases List.mem_append.1 ht with ht | ht
    · exact h.tm t ht
    · simp at ht; subst ht; intro hc; cases hc
  rw [if_neg c9]
  refine ⟨h.reg, h.ev, h.sent, h.tm, ?_⟩
  show (if g = 1 then m.st ++ [_] else m.st).length ≤ 16
  by_cases d : g = 1
  · rw [if_pos d]; simp; omega
  · rw [if_neg d]; exact h.st
theorem FineO.mono {reg0 : List Int} {now : Int} {E F : Int → Prop} {o : Ou} (h : FineO reg0 now E o) (hm : ∀ e, E e → F e) : FineO reg0 now F o := by
  cases o with
  | go m => exact h
  | halt m => exact h
  | err e => exact hm e h
theorem eff_12 {op : Nat} : (op = 12 → (effI op).2 = 2) ∧ (op = 14 → (effI op).2 = 2) := ⟨fun h => by subst h; rfl, fun h => by subst h; rfl⟩
theorem one_fine {reg0 : List Int} {p : Pg} {l : Lt} {now : Int} {m : Mc} {i : In} (h : Fine reg0 now m) (hn : Named i) : FineO reg0 now (fun e => e = 10 ∨ e = 12) (oneI p l now m i) := by
  unfold oneI
  have hst := h.st
  have key : ∀ (m' : Mc) (x y : Int), m'.reg = m.reg → m'.ev = m.ev → m'.sent = m.sent → m'.tm = m.tm → m'.st.length + (effI i.op.toNat).2 ≤ 16 → FineO reg0 now (fun e => e = 10 ∨ e = 12) (actI p l now m' i.op.toNat (effI i.op.toNat).2 i.arg x y) := fun m' x y e1 e2 e3 e4 e5 =>
    (act_fine ⟨by rw [e1, e2]; exact h.reg, by rw [e2]; exact h.ev, by rw [e3]; exact h.sent, by rw [e4]; exact h.tm, by omega⟩ hn e5 eff_12.1 eff_12.2).mono fun e he => .inr he
  by_cases h1 : m.st.length < (effI i.op.toNat).1 ∨ 16 < m.st.length - (effI i.op.toNat).1 + (effI i.op.toNat).2
  · rw [if_pos h1]
    exact .inl rfl
  rw [if_neg h1]
  by_cases h2 : (effI i.op.toNat).1 = 2
  · rw [if_pos h2]
    refine key _ _ _ rfl rfl rfl rfl ?_
    show m.st.dropLast.dropLast.length + _ ≤ 16
    have hl : m.st.dropLast.dropLast.length = m.st.length - 2 := by simp; omega
    omega
  rw [if_neg h2]
  by_cases h3 : (effI i.op.toNat).1 = 1
  · rw [if_pos h3]
    refine key _ _ _ rfl rfl rfl rfl ?_
    show m.st.dropLast.length + _ ≤ 16
    have hl : m.st.dropLast.length = m.st.length - 1 := by simp
    omega
  rw [if_neg h3]
  refine key _ _ _ rfl rfl rfl rfl ?_
  show m.st.length + _ ≤ 16
  have h4 : (effI i.op.toNat).1 ≤ 2 := by
    unfold effI
    generalize i.op.toNat = o
    by_cases a1 : o = 1 ∨ o = 2 ∨ o = 4 ∨ o = 5 ∨ o = 22 ∨ o = 23
    · rw [if_pos a1]; simp
    rw [if_neg a1]
    by_cases a2 : o = 3 ∨ o = 13 ∨ o = 16
    · rw [if_pos a2]; simp
    rw [if_neg a2]
    by_cases a3 : o = 6 ∨ o = 7 ∨ o = 8 ∨ o = 9 ∨ o = 10
    · rw [if_pos a3]; simp
    rw [if_neg a3]
    by_cases a4 : o = 11
    · rw [if_pos a4]; simp
    rw [if_neg a4]
    by_cases a5 : o = 12
    · rw [if_pos a5]; simp
    rw [if_neg a5]
    by_cases a6 : o = 14
    · rw [if_pos a6]; simp
    rw [if_neg a6]
    by_cases a7 : o = 17 ∨ o = 18 ∨ o = 19
    · rw [if_pos a7]; simp
    rw [if_neg a7]; simp
  omega
/-- What a run comes to is fine. -/
def FineR (reg0 : List Int) (now : Int) (n : Nat) : Rr → Prop
  | .ok m k => Fine reg0 now m ∧ k ≤ n
  | .err e k => k ≤ n ∧ (e = 11 → k = n) ∧ (e = 10 ∨ e = 11 ∨ e = 12)
theorem run_fine {reg0 : List Int} {p : Pg} {l : Lt} {now : Int} (hp : ∀ i ∈ p.code, Named i) : ∀ (f k : Nat) (m : Mc), Fine reg0 now m → FineR reg0 now (k + f) (runI p l now f k m)
  | 0, k, m, h => by
    rw [runI]
    cases hc : p.code[m.at_]? with
    | none => exact ⟨h, Nat.le_refl _⟩
    | some i => exact ⟨Nat.le_refl _, fun _ => rfl, .inr (.inl rfl)⟩
  | f + 1, k, m, h => by
    rw [runI]
    cases hc : p.code[m.at_]? with
    | none => exact ⟨h, by omega⟩
    | some i =>
      dsimp only
      have ho := one_fine (p := p) (l := l) h (hp i (List.mem_of_getElem? hc))
      cases hq : oneI p l now m i with
      | err e =>
        rw [hq] at ho
        have ho : e = 10 ∨ e = 12 := ho
        refine ⟨by omega, fun h11 => by omega, ?_⟩
        rcases ho with h | h
        · exact .inl h
        · exact .inr (.inr h)
      | halt m1 =>
        rw [hq] at ho
        exact ⟨ho, by omega⟩
      | go m1 =>
        rw [hq] at ho
        have := run_fine (l := l) hp f (k + 1) m1 ho
        rw [show k + 1 + f = k + (f + 1) by omega] at this
        exact this
end Go.Proofs.YtngnenbidpojeaaGreatDoor
/-
  Runs of programs that the laws of layer 18 write down.
-/
namespace Go.Proofs.YtngnenbidpojeaaGreatDoor
set_option linter.unusedVariables false
section
variable {p : Pg} {l : Lt} {now : Int} {f k : Nat} {m m' : Mc} {i : In}
theorem run_step (hc : p.code[m.at_]? = some i) (ho : oneI p l now m i = .go m') : runI p l now (f + 1) k m = runI p l now f (k + 1) m' := by
  rw [runI, hc]
  dsimp only
  rw [ho]
theorem run_halt (hc : p.code[m.at_]? = some i) (ho : oneI p l now m i = .halt m') : runI p l now (f + 1) k m = .ok m' (k + 1) := by
  rw [runI, hc]
  dsimp only
  rw [ho]
theorem run_err {e : Int} (hc : p.code[m.at_]? = some i) (ho : oneI p l now m i = .err e) : runI p l now (f + 1) k m = .err e (k + 1) := by
  rw [runI, hc]
  dsimp only
  rw [ho]
theorem run_end (hc : p.code[m.at_]? = none) : runI p l now f k m = .ok m k := by
  cases f with
  | zero => rw [runI, hc]
  | succ f => rw [runI, hc]
theorem run_out (hc : p.code[m.at_]? = some i) : runI p l now 0 k m = .err 11 k := by rw [runI, hc]
end
/-- Eight noughts. -/
def z8_N : List Int := [0, 0, 0, 0, 0, 0, 0, 0]
section
variable {n : Int} {l : Lt} {now : Int}
theorem w64_small (z : Int) (h : -9223372036854775808 ≤ z ∧ z ≤ 9223372036854775807) : w64 z = z := by
  unfold w64
  rw [IntKind.wrap_i64]
  omega
end
section
variable {a b : Nat} {l : Lt} {now : Int}
end
end Go.Proofs.YtngnenbidpojeaaGreatDoor
