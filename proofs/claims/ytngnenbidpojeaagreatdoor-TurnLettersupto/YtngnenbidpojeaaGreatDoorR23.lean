import Derived.WalkKit
import Derived.Deep.AppendLies
import Derived.Lib.AppendStr
import Derived.Laws.IdiomStrings
import Derived.OneCell
import Derived.KernelRfl
import Derived.IntWalk
import Derived.Lib.ItoaMem
import Derived.Lib.ParseIntBTie
import Derived.Lib.CutLaws
import Derived.Test.YtngnenbidpojeaaGreatDoorR01
import Derived.Test.YtngnenbidpojeaaGreatDoorR02
import Derived.Test.YtngnenbidpojeaaGreatDoorR04
import Derived.Test.YtngnenbidpojeaaGreatDoorR07
import Derived.Test.YtngnenbidpojeaaGreatDoorR08
import Derived.Test.YtngnenbidpojeaaGreatDoorR09
import Derived.Test.YtngnenbidpojeaaGreatDoorR19
import Derived.Test.YtngnenbidpojeaaGreatDoorR22
/-
  Of: both actors, made of letters, sends, events, tries and poison.
-/
namespace Go.Proofs.YtngnenbidpojeaaGreatDoor
set_option maxRecDepth 100000
open Go.RowKit
set_option linter.unusedVariables false
/-- Cells of an actor's block are other ones. -/
theorem TT.set {w0 w : World} {p i : Nat} {cs : Array Value} {t : Nat} (hb : w.heap[p]? = some (.cells cs t (0, 0))) (hp : w0.heap.size ≤ p) (x : Value) : TT [t] w0 w (w.setCell ⟨p, i, none⟩ x) :=
  ⟨[p], (Kept.refl [p] w).setCell (p := ⟨p, i, none⟩) (.inl (by simp)) x, fun g hg => by simp at hg; subst hg; exact ⟨hp, _, _, hb, by simp⟩⟩
section
variable {w0 w w' : World} {P : Pt} {t s : Int} {v u : Value} {a b : Ac}
theorem Both.setP3 (T : Both w0 w P t v s u a b) (x : Int) : Both w0 (w.setCell ⟨P.p, 3, none⟩ (Iv x)) P x v s u a b := by
  obtain ⟨⟨h1, h2, ⟨qs, h3, h4⟩, ⟨ys, h5, h6⟩, h7, h8, h9, h10⟩, hfa, hk, ga, gb⟩ := T
  have T1 := TT.set (i := 3) h1 h7 (Iv x)
  exact ⟨⟨set_list (L := [_, _, _, _, _]) h1, T1.isJ h2 (by decide), ⟨qs, T1.isB h3 (by decide) (by decide), h4⟩, ⟨ys, T1.isO h5 (by decide) (by decide), h6⟩, h7, h8, h9, h10⟩, hfa.turn T1 (by decide), T1.kept0 hk, ga, gb⟩
theorem Both.setP4 (T : Both w0 w P t v s u a b) (x : Value) : Both w0 (w.setCell ⟨P.p, 4, none⟩ x) P t x s u a b := by
  obtain ⟨⟨h1, h2, ⟨qs, h3, h4⟩, ⟨ys, h5, h6⟩, h7, h8, h9, h10⟩, hfa, hk, ga, gb⟩ := T
  have T1 := TT.set (i := 4) h1 h7 x
  exact ⟨⟨set_list (L := [_, _, _, _, _]) h1, T1.isJ h2 (by decide), ⟨qs, T1.isB h3 (by decide) (by decide), h4⟩, ⟨ys, T1.isO h5 (by decide) (by decide), h6⟩, h7, h8, h9, h10⟩, hfa.turn T1 (by decide), T1.kept0 hk, ga, gb⟩
theorem Both.setF3 (T : Both w0 w P t v s u a b) (x : Int) : Both w0 (w.setCell ⟨P.f, 3, none⟩ (Iv x)) P t v x u a b := by
  obtain ⟨hpa, ⟨h1, ⟨u1, h2, h3⟩, ⟨u2, qs, h4, h5⟩, ⟨u3, x3, ys, h6, h7⟩, h8, h9⟩, hk, ga, gb⟩ := T
  have T1 := TT.set (i := 3) h1 h8 (Iv x)
  exact ⟨hpa.turn T1 (by decide), ⟨set_list (L := [_, _, _, _, _]) h1, ⟨u1, T1.isFJ h2 (by decide) (by decide), h3⟩, ⟨u2, qs, T1.isFI h4 (by decide) (by decide) (by decide), h5⟩, ⟨u3, x3, ys, T1.isFO h6 (by decide) (by decide) (by decide) (by decide), h7⟩, h8, h9⟩, T1.kept0 hk, ga, gb⟩
theorem Both.setF4 (T : Both w0 w P t v s u a b) (x : Value) : Both w0 (w.setCell ⟨P.f, 4, none⟩ x) P t v s x a b := by
  obtain ⟨hpa, ⟨h1, ⟨u1, h2, h3⟩, ⟨u2, qs, h4, h5⟩, ⟨u3, x3, ys, h6, h7⟩, h8, h9⟩, hk, ga, gb⟩ := T
  have T1 := TT.set (i := 4) h1 h8 x
  exact ⟨hpa.turn T1 (by decide), ⟨set_list (L := [_, _, _, _, _]) h1, ⟨u1, T1.isFJ h2 (by decide) (by decide), h3⟩, ⟨u2, qs, T1.isFI h4 (by decide) (by decide) (by decide), h5⟩, ⟨u3, x3, ys, T1.isFO h6 (by decide) (by decide) (by decide) (by decide), h7⟩, h8, h9⟩, T1.kept0 hk, ga, gb⟩
theorem Both.cellsP (T : Both w0 w P t v s u a b) : w.cell? ⟨P.p, 0, none⟩ = some (Ptr P.j) ∧ w.cell? ⟨P.p, 1, none⟩ = some (Ptr P.i) ∧ w.cell? ⟨P.p, 2, none⟩ = some (Ptr P.o) ∧ w.cell? ⟨P.p, 3, none⟩ = some (Iv t) ∧ w.cell? ⟨P.p, 4, none⟩ = some v := by
  have h := T.pa.box
  refine ⟨?_, ?_, ?_, ?_, ?_⟩ <;> (unfold World.cell?; rw [h]; rfl)
theorem Both.cellsF (T : Both w0 w P t v s u a b) : w.cell? ⟨P.f, 0, none⟩ = some (Ptr P.fj) ∧ w.cell? ⟨P.f, 1, none⟩ = some (Ptr P.fi) ∧ w.cell? ⟨P.f, 2, none⟩ = some (Ptr P.fo) ∧ w.cell? ⟨P.f, 3, none⟩ = some (Iv s) ∧ w.cell? ⟨P.f, 4, none⟩ = some u := by
  have h := T.fa.box
  refine ⟨?_, ?_, ?_, ?_, ?_⟩ <;> (unfold World.cell?; rw [h]; rfl)
theorem Both.freeP (T : Both w0 w P t v s u a b) (i : Nat) : w.frozen? ⟨P.p, i, none⟩ = false := by simp [World.frozen?, T.pa.box]
theorem Both.freeF (T : Both w0 w P t v s u a b) (i : Nat) : w.frozen? ⟨P.f, i, none⟩ = false := by simp [World.frozen?, T.fa.box]
end
/-- The first k letters are pushed. -/
def pushK (a : Ac) (ls : List Lq) : Nat → Ac
  | 0 => a
  | k + 1 => pushAc (pushK a ls k) (ls.getD k default).x
/-- The first k texts are sent to. -/
def sendK (a : Ac) (ts : List (List UInt8)) : Nat → Ac
  | 0 => a
  | k + 1 => sendAc (sendK a ts k) (ts.getD k []) k [k]
theorem pushK_j (a : Ac) (ls : List Lq) (k : Nat) : (pushK a ls k).j = a.j ∧ (pushK a ls k).out = a.out := by
  induction k with
  | zero => exact ⟨rfl, rfl⟩
  | succ k ih => exact ih
theorem sendK_j (a : Ac) (ts : List (List UInt8)) (k : Nat) : (sendK a ts k).j = a.j ∧ (sendK a ts k).inb = a.inb ∧ (sendK a ts k).out.own = a.out.own := by
  induction k with
  | zero => exact ⟨rfl, rfl, rfl⟩
  | succ k ih => exact ⟨ih.1, ih.2.1, (sndO_own _ _ _ _).trans ih.2.2⟩
theorem sendK_ser {a : Ac} (h : SerB a.out 0) (ts : List (List UInt8)) (k : Nat) : SerB (sendK a ts k).out k := by
  induction k with
  | zero => exact h
  | succ k ih => exact ih.snd _ _ _
/-- The actor that Of makes. -/
def ofA (key : List UInt8) (ls : List Lq) (ts : List (List UInt8)) (es : List Ep) (t : Int) (ps : List Lt) : Ac :=
  let a := addAc (sendK (pushK (newA key) ls ls.length) ts ts.length) es
  ⟨a.j, a.inb, a.out, t, ps⟩
/-- An actor's poison lies at v. -/
def PoiAt (w : World) (v : Value) (ps : List Lt) : Prop := ∃ qs, RowQ w v qs ∧ ValsQ w qs ∧ qs.map (·.x) = ps
theorem PoiAt.kept0 {w w' : World} {v : Value} {ps : List Lt} (h : PoiAt w v ps) (k : Kept [] w w') : PoiAt w' v ps := by
  obtain ⟨qs, h1, h2, h3⟩ := h
  exact ⟨qs, h1.kept k (by simp), h2.kept0 k, h3⟩
/-- Texts that came in. -/
def TextsIn (w : World) (v : Value) (ts : List (List UInt8)) : Prop := ReadsR 1 w v (CT ts)
theorem TextsIn.bound {w : World} {a : Option Addr} {n c : Nat} {ts : List (List UInt8)} (h : TextsIn w (.slice a n c) ts) : n = ts.length ∧ n ≤ c ∧ c ≤ 9223372036854775807 := by
  obtain ⟨a', c', he, h1, h2, -⟩ := h
  injection he with e1 e2 e3
  subst e1 e2 e3
  rw [CT, List.length_map] at *
  exact ⟨rfl, h1, by unfold maxLen at h2; omega⟩
theorem TextsIn.at {w : World} {a : Option Addr} {n c : Nat} {ts : List (List UInt8)} (h : TextsIn w (.slice a n c) ts) {k : Nat} {t : List UInt8} (ht : ts[k]? = some t) : ∃ b o, a = some ⟨b, o, none⟩ ∧ w.cell? ⟨b, o + k, none⟩ = some (Sv t) := by
  obtain ⟨a', c', he, h1, h2, h3, h4⟩ := h
  injection he with e1 e2 e3
  subst e1 e2 e3
  have hne : CT ts ≠ [] := fun e => by
    simp [CT] at e
    subst e
    simp at ht
  obtain ⟨b, o, rfl, hc⟩ := h4 hne
  refine ⟨b, o, rfl, ?_⟩
  have := hc k [Sv t] (by simp [CT, ht]) 0 (Sv t) rfl
  simpa using this
theorem TextsIn.kept0 {w w' : World} {v : Value} {ts : List (List UInt8)} (h : TextsIn w v ts) (k : Kept [] w w') : TextsIn w' v ts := ReadsR.kept h k (by simp)
end Go.Proofs.YtngnenbidpojeaaGreatDoor
/-
  Letters, numbers, programs as lists, without memory: their texts and bytes, there and back.
-/
namespace Go.Proofs.YtngnenbidpojeaaGreatDoor
set_option linter.unusedVariables false
end Go.Proofs.YtngnenbidpojeaaGreatDoor
namespace Go.Proofs.YtngnenbidpojeaaGreatDoor
set_option linter.unusedVariables false
end Go.Proofs.YtngnenbidpojeaaGreatDoor
namespace Go.Proofs.YtngnenbidpojeaaGreatDoor
set_option linter.unusedVariables false
end Go.Proofs.YtngnenbidpojeaaGreatDoor
namespace Go.Proofs.YtngnenbidpojeaaGreatDoor
open Go.Lib (decDigits itoa)
set_option linter.unusedVariables false
/-- The operations' words, and what their integers are. -/
def words : List (List UInt8 × Nat) := [([104, 97, 108, 116], 0), ([112, 117, 115, 104], 1), ([108, 111, 97, 100], 2), ([115, 116, 111, 114, 101], 2), ([97, 114, 103], 3), ([107, 105, 110, 100], 0), ([97, 100, 100], 0), ([115, 117, 98], 0), ([109, 117, 108], 0), ([108, 101, 115, 115], 0), ([101, 113, 117, 97, 108], 0), ([110, 111, 116], 0), ([100, 117, 112], 0), ([100, 114, 111, 112], 0), ([115, 119, 97, 112], 0), ([106, 117, 109, 112], 4), ([106, 117, 109, 112, 122], 4), ([115, 101, 110, 100], 5), ([114, 101, 112, 108, 121], 0), ([114, 101, 109, 105, 110, 100], 5), ([99, 97, 110, 99, 101, 108], 5), ([102, 97, 105, 108], 0), ([110, 111, 119], 0), ([115, 101, 114, 105, 97, 108], 0)]
theorem words_length : words.length = 24 := rfl
end Go.Proofs.YtngnenbidpojeaaGreatDoor
namespace Go.Proofs.YtngnenbidpojeaaGreatDoor
open Go.Lib (decDigits itoa)
set_option linter.unusedVariables false
/-- An instruction: an operation's number and an integer. -/
structure In where
  op : Int
  arg : Int
instance : Inhabited In := ⟨⟨0, 0⟩⟩
/-- A program. -/
structure Pg where
  names : List (List UInt8)
  code : List In
/-- What a line is. -/
inductive Ln where
  | nm (k : List UInt8)
  | ins (op : Nat) (arg : Int)
/-- The word name, and a blank. -/
def nameB : List UInt8 := [110, 97, 109, 101, 32]
/-- The most that an integer may be, by what it is. -/
def mostI (nn nc : Nat) (k : Nat) : Int := if k = 0 then 0 else if k = 2 then 7 else if k = 3 then 3 else if k = 4 then (nc : Int) else (nn : Int) - 1
def okI (nn nc : Nat) (x : In) : Bool := match words[x.op.toNat]? with
  | some (w, k) => decide (0 ≤ x.op) && (decide (k = 1) || (decide (0 ≤ x.arg) && decide (x.arg ≤ mostI nn nc k)))
  | none => false
/-- A program is formed. -/
def formedP (p : Pg) : Bool := decide (p.names.length ≤ 8) && decide (p.code.length ≤ 200) && p.names.all isKey && p.code.all (okI p.names.length p.code.length)
/-- Its integers are of 64 bits. -/
def OkP (p : Pg) : Prop := ∀ x ∈ p.code, I64 x.arg
theorem formed_parts {p : Pg} (h : formedP p = true) : p.names.length ≤ 8 ∧ p.code.length ≤ 200 ∧ (∀ k ∈ p.names, isKey k = true) ∧ ∀ x ∈ p.code, okI p.names.length p.code.length x = true := by
  unfold formedP at h
  simp only [Bool.and_eq_true, decide_eq_true_eq, List.all_eq_true] at h
  exact ⟨h.1.1.1, h.1.1.2, h.1.2, h.2⟩
end Go.Proofs.YtngnenbidpojeaaGreatDoor
namespace Go.Proofs.YtngnenbidpojeaaGreatDoor
set_option linter.unusedVariables false
end Go.Proofs.YtngnenbidpojeaaGreatDoor
namespace Go.Proofs.YtngnenbidpojeaaGreatDoor
open Go.Lib (decDigits itoa)
set_option linter.unusedVariables false
end Go.Proofs.YtngnenbidpojeaaGreatDoor
namespace Go.Proofs.YtngnenbidpojeaaGreatDoor
open Go.Lib (decDigits itoa)
set_option linter.unusedVariables false
end Go.Proofs.YtngnenbidpojeaaGreatDoor
namespace Go.Proofs.YtngnenbidpojeaaGreatDoor
set_option linter.unusedVariables false
end Go.Proofs.YtngnenbidpojeaaGreatDoor
/-
  Runs of programs, without memory.
-/
namespace Go.Proofs.YtngnenbidpojeaaGreatDoor
set_option linter.unusedVariables false
/-- What is sent. -/
structure Sn where
  to : List UInt8
  kind : Int
  arg : Int
/-- A reminder that is asked for, or cancelled. -/
structure Tm where
  nm : List UInt8
  can : Bool
  due : Int
  per : Int
  kind : Int
/-- Where a run stands; the top of the stack is its last one. -/
structure Mc where
  at_ : Nat
  st : List Int
  reg : List Int
  ev : List Ev
  sent : List Sn
  tm : List Tm
/-- How many an operation takes, and pushes. -/
def effI (op : Nat) : Nat × Nat :=
  if op = 1 ∨ op = 2 ∨ op = 4 ∨ op = 5 ∨ op = 22 ∨ op = 23 then (0, 1)
  else if op = 3 ∨ op = 13 ∨ op = 16 then (1, 0)
  else if op = 6 ∨ op = 7 ∨ op = 8 ∨ op = 9 ∨ op = 10 then (2, 1)
  else if op = 11 then (1, 1)
  else if op = 12 then (1, 2)
  else if op = 14 then (2, 2)
  else if op = 17 ∨ op = 18 ∨ op = 19 then (2, 0)
  else (0, 0)
def w64 (z : Int) : Int := IntKind.i64.wrap z
/-- What an instruction pushes that pushes one integer. -/
def valI (l : Lt) (now : Int) (reg : List Int) (op : Nat) (arg x y : Int) : Int :=
  if op = 1 then arg
  else if op = 2 then reg.getD arg.toNat 0
  else if op = 4 then l.args.getD arg.toNat 0
  else if op = 5 then l.kind
  else if op = 6 then w64 (x + y)
  else if op = 7 then w64 (x - y)
  else if op = 8 then w64 (x * y)
  else if op = 9 then (if x < y then 1 else 0)
  else if op = 10 then (if x = y then 1 else 0)
  else if op = 11 then (if x = 0 then 1 else 0)
  else if op = 22 then now
  else if op = 23 then w64 (l.ser : Int)
  else 0
/-- What a step comes to. -/
inductive Ou where
  | go (m : Mc)
  | halt (m : Mc)
  | err (e : Int)
/-- What an operation does, x and y being taken. -/
def actI (p : Pg) (l : Lt) (now : Int) (m : Mc) (op g : Nat) (arg x y : Int) : Ou :=
  if op = 0 then .halt m
  else if op = 21 then .err 12
  else if op = 3 then .go { m with reg := m.reg.set arg.toNat x, ev := m.ev ++ [⟨arg.toNat, x⟩] }
  else if op = 12 then .go { m with st := m.st ++ [x, x] }
  else if op = 14 then .go { m with st := m.st ++ [y, x] }
  else if op = 15 then .go { m with at_ := arg.toNat }
  else if op = 16 then .go { m with at_ := if x = 0 then arg.toNat else m.at_ }
  else if op = 17 ∨ op = 18 then
    (if (if op = 17 then p.names.getD arg.toNat [] else l.fr) = [] then .go m
     else if 4 ≤ m.sent.length then .err 12
     else .go { m with sent := m.sent ++ [⟨if op = 17 then p.names.getD arg.toNat [] else l.fr, x, y⟩] })
  else if op = 19 then
    (if x < 0 ∨ 9223372036854775807 < now + x ∨ y < 1 then .err 12
     else .go { m with tm := m.tm ++ [⟨p.names.getD arg.toNat [], false, now + x, y, l.kind⟩] })
  else if op = 20 then .go { m with tm := m.tm ++ [⟨p.names.getD arg.toNat [], true, 0, 0, 0⟩] }
  else .go { m with st := if g = 1 then m.st ++ [valI l now m.reg op arg x y] else m.st }
/-- A step. -/
def oneI (p : Pg) (l : Lt) (now : Int) (m : Mc) (i : In) : Ou :=
  if m.st.length < (effI i.op.toNat).1 ∨ 16 < m.st.length - (effI i.op.toNat).1 + (effI i.op.toNat).2 then .err 10
  else if (effI i.op.toNat).1 = 2 then actI p l now { m with at_ := m.at_ + 1, st := m.st.dropLast.dropLast } i.op.toNat (effI i.op.toNat).2 i.arg (m.st.dropLast.getLastD 0) (m.st.getLastD 0)
  else if (effI i.op.toNat).1 = 1 then actI p l now { m with at_ := m.at_ + 1, st := m.st.dropLast } i.op.toNat (effI i.op.toNat).2 i.arg (m.st.getLastD 0) 0
  else actI p l now { m with at_ := m.at_ + 1 } i.op.toNat (effI i.op.toNat).2 i.arg 0 0
/-- What a run comes to: where it stands and its steps; or an error and the steps. -/
inductive Rr where
  | ok (m : Mc) (k : Nat)
  | err (e : Int) (k : Nat)
/-- A run of f steps at most, behind k. -/
def runI (p : Pg) (l : Lt) (now : Int) : Nat → Nat → Mc → Rr
  | 0, k, m => match p.code[m.at_]? with
    | none => .ok m k
    | some i => .err 11 k
  | f + 1, k, m => match p.code[m.at_]? with
    | none => .ok m k
    | some i => match oneI p l now m i with
      | .err e => .err e (k + 1)
      | .halt m' => .ok m' (k + 1)
      | .go m' => runI p l now f (k + 1) m'
def Mc.start (reg : List Int) : Mc := ⟨0, [], reg, [], [], []⟩
/-- What holds all the way. -/
structure Fine (reg0 : List Int) (now : Int) (m : Mc) : Prop where
  reg : m.reg = doA reg0 m.ev
  ev : ∀ e ∈ m.ev, e.r ≤ 7
  sent : m.sent.length ≤ 4
  tm : ∀ t ∈ m.tm, t.can = false → now ≤ t.due ∧ 1 ≤ t.per
  st : m.st.length ≤ 16
theorem Fine.start {reg0 : List Int} {now : Int} : Fine reg0 now (Mc.start reg0) := ⟨rfl, by simp [Mc.start], by simp [Mc.start], by simp [Mc.start], by simp [Mc.start]⟩
/-- The registers that an instruction of a formed program names are there. -/
def Named (i : In) : Prop := i.op.toNat = 3 → i.arg.toNat ≤ 7
/-- What a step comes to is fine; E: the errors that it may tell. -/
def FineO (reg0 : List Int) (now : Int) (E : Int → Prop) : Ou → Prop
  | .go m => Fine reg0 now m
  | .halt m => Fine reg0 now m
  | .err e => E e
theorem act_fine {reg0 : List Int} {p : Pg} {l : Lt} {now : Int} {m : Mc} {op g : Nat} {arg x y : Int} (h : Fine reg0 now m) (hn : op = 3 → arg.toNat ≤ 7) (hg : m.st.length + g ≤ 16) (h12 : op = 12 → g = 2) (h14 : op = 14 → g = 2) : FineO reg0 now (fun e => e = 12) (actI p l now m op g arg x y) := by
  unfold actI
  have hst := h.st
  by_cases c0 : op = 0
  · rw [if_pos c0]; exact h
  rw [if_neg c0]
  by_cases c1 : op = 21
  · rw [if_pos c1]; rfl
  rw [if_neg c1]
  by_cases c2 : op = 3
  · rw [if_pos c2]
    refine ⟨?_, fun z hz => ?_, h.sent, h.tm, h.st⟩
    · show m.reg.set arg.toNat x = doA reg0 (m.ev ++ [⟨arg.toNat, x⟩])
      rw [doA_append, ← h.reg]; rfl
    · rcases List.mem_append.1 hz with hz | hz
      · exact h.ev z hz
      · simp at hz; subst hz; exact hn c2
  rw [if_neg c2]
  by_cases c3 : op = 12
  · rw [if_pos c3]
    exact ⟨h.reg, h.ev, h.sent, h.tm, by show (m.st ++ [x, x]).length ≤ 16; have := h12 c3; simp; omega⟩
  rw [if_neg c3]
  by_cases c4 : op = 14
  · rw [if_pos c4]
    exact ⟨h.reg, h.ev, h.sent, h.tm, by show (m.st ++ [y, x]).length ≤ 16; have := h14 c4; simp; omega⟩
  rw [if_neg c4]
  by_cases c5 : op = 15
  · rw [if_pos c5]; exact ⟨h.reg, h.ev, h.sent, h.tm, h.st⟩
  rw [if_neg c5]
  by_cases c6 : op = 16
  · rw [if_pos c6]; exact ⟨h.reg, h.ev, h.sent, h.tm, h.st⟩
  rw [if_neg c6]
  by_cases c7 : op = 17 ∨ op = 18
  · rw [if_pos c7]
    generalize (if op = 17 then p.names.getD arg.toNat [] else l.fr) = to
    by_cases d : to = []
    · rw [if_pos d]; exact h
    rw [if_neg d]
    by_cases d4 : 4 ≤ m.sent.length
    · rw [if_pos d4]; rfl
    rw [if_neg d4]
    exact ⟨h.reg, h.ev, by show (m.sent ++ [_]).length ≤ 4; simp; omega, h.tm, h.st⟩
  rw [if_neg c7]
  by_cases c8 : op = 19
  · rw [if_pos c8]
    by_cases d : x < 0 ∨ 9223372036854775807 < now + x ∨ y < 1
    · rw [if_pos d]; rfl
    rw [if_neg d]
    refine ⟨h.reg, h.ev, h.sent, fun t ht => ?_, h.st⟩
    rcases List.mem_append.1 ht with ht | ht
    · exact h.tm t ht
    · simp at ht; subst ht; intro _; exact ⟨by show now ≤ now + x; omega, by show 1 ≤ y; omega⟩
  rw [if_neg c8]
  by_cases c9 : op = 20
  · rw [if_pos c9]
    refine ⟨h.reg, h.ev, h.sent, fun t ht => ?_, h.st⟩
    rcases List.mem_append.1 ht with ht | ht
    · exact h.tm t ht
    · simp at ht; subst ht; intro hc; cases hc
  rw [if_neg c9]
  refine ⟨h.reg, h.ev, h.sent, h.tm, ?_⟩
  show (if g = 1 then m.st ++ [_] else m.st).length ≤ 16
  by_cases d : g = 1
  · rw [if_pos d]; simp; omega
  · rw [if_neg d]; exact h.st
theorem FineO.mono {reg0 : List Int} {now : Int} {E F : Int → Prop} {o : Ou} (h : FineO reg0 now E o) (hm : ∀ e, E e → F e) : FineO reg0 now F o := by
  cases o with
  | go m => exact h
  | halt m => exact h
  | err e => exact hm e h
theorem eff_12 {op : Nat} : (op = 12 → (effI op).2 = 2) ∧ (op = 14 → (effI op).2 = 2) := ⟨fun h => by subst h; rfl, fun h => by subst h; rfl⟩
theorem one_fine {reg0 : List Int} {p : Pg} {l : Lt} {now : Int} {m : Mc} {i : In} (h : Fine reg0 now m) (hn : Named i) : FineO reg0 now (fun e => e = 10 ∨ e = 12) (oneI p l now m i) := by
  unfold oneI
  have hst := h.st
  have key : ∀ (m' : Mc) (x y : Int), m'.reg = m.reg → m'.ev = m.ev → m'.sent = m.sent → m'.tm = m.tm → m'.st.length + (effI i.op.toNat).2 ≤ 16 → FineO reg0 now (fun e => e = 10 ∨ e = 12) (actI p l now m' i.op.toNat (effI i.op.toNat).2 i.arg x y) := fun m' x y e1 e2 e3 e4 e5 =>
    (act_fine ⟨by rw [e1, e2]; exact h.reg, by rw [e2]; exact h.ev, by rw [e3]; exact h.sent, by rw [e4]; exact h.tm, by omega⟩ hn e5 eff_12.1 eff_12.2).mono fun e he => .inr he
  by_cases h1 : m.st.length < (effI i.op.toNat).1 ∨ 16 < m.st.length - (effI i.op.toNat).1 + (effI i.op.toNat).2
  · rw [if_pos h1]
    exact .inl rfl
  rw [if_neg h1]
  by_cases h2 : (effI i.op.toNat).1 = 2
  · rw [if_pos h2]
    refine key _ _ _ rfl rfl rfl rfl ?_
    show m.st.dropLast.dropLast.length + _ ≤ 16
    have hl : m.st.dropLast.dropLast.length = m.st.length - 2 := by simp; omega
    omega
  rw [if_neg h2]
  by_cases h3 : (effI i.op.toNat).1 = 1
  · rw [if_pos h3]
    refine key _ _ _ rfl rfl rfl rfl ?_
    show m.st.dropLast.length + _ ≤ 16
    have hl : m.st.dropLast.length = m.st.length - 1 := by simp
    omega
  rw [if_neg h3]
  refine key _ _ _ rfl rfl rfl rfl ?_
  show m.st.length + _ ≤ 16
  have h4 : (effI i.op.toNat).1 ≤ 2 := by
    unfold effI
    generalize i.op.toNat = o
    by_cases a1 : o = 1 ∨ o = 2 ∨ o = 4 ∨ o = 5 ∨ o = 22 ∨ o = 23
    · rw [if_pos a1]; simp
    rw [if_neg a1]
    by_cases a2 : o = 3 ∨ o = 13 ∨ o = 16
    · rw [if_pos a2]; simp
    rw [if_neg a2]
    by_cases a3 : o = 6 ∨ o = 7 ∨ o = 8 ∨ o = 9 ∨ o = 10
    · rw [if_pos a3]; simp
    rw [if_neg a3]
    by_cases a4 : o = 11
    · rw [if_pos a4]; simp
    rw [if_neg a4]
    by_cases a5 : o = 12
    · rw [if_pos a5]; simp
    rw [if_neg a5]
    by_cases a6 : o = 14
    · rw [if_pos a6]; simp
    rw [if_neg a6]
    by_cases a7 : o = 17 ∨ o = 18 ∨ o = 19
    · rw [if_pos a7]; simp
    rw [if_neg a7]; simp
  omega
/-- What a run comes to is fine. -/
def FineR (reg0 : List Int) (now : Int) (n : Nat) : Rr → Prop
  | .ok m k => Fine reg0 now m ∧ k ≤ n
  | .err e k => k ≤ n ∧ (e = 11 → k = n) ∧ (e = 10 ∨ e = 11 ∨ e = 12)
theorem run_fine {reg0 : List Int} {p : Pg} {l : Lt} {now : Int} (hp : ∀ i ∈ p.code, Named i) : ∀ (f k : Nat) (m : Mc), Fine reg0 now m → FineR reg0 now (k + f) (runI p l now f k m)
  | 0, k, m, h => by
    rw [runI]
    cases hc : p.code[m.at_]? with
    | none => exact ⟨h, Nat.le_refl _⟩
    | some i => exact ⟨Nat.le_refl _, fun _ => rfl, .inr (.inl rfl)⟩
  | f + 1, k, m, h => by
    rw [runI]
    cases hc : p.code[m.at_]? with
    | none => exact ⟨h, by omega⟩
    | some i =>
      dsimp only
      have ho := one_fine (p := p) (l := l) h (hp i (List.mem_of_getElem? hc))
      cases hq : oneI p l now m i with
      | err e =>
        rw [hq] at ho
        have ho : e = 10 ∨ e = 12 := ho
        refine ⟨by omega, fun h11 => by omega, ?_⟩
        rcases ho with h | h
        · exact .inl h
        · exact .inr (.inr h)
      | halt m1 =>
        rw [hq] at ho
        exact ⟨ho, by omega⟩
      | go m1 =>
        rw [hq] at ho
        have := run_fine (l := l) hp f (k + 1) m1 ho
        rw [show k + 1 + f = k + (f + 1) by omega] at this
        exact this
end Go.Proofs.YtngnenbidpojeaaGreatDoor
/-
  Runs of programs that the laws of layer 18 write down.
-/
namespace Go.Proofs.YtngnenbidpojeaaGreatDoor
set_option linter.unusedVariables false
section
variable {p : Pg} {l : Lt} {now : Int} {f k : Nat} {m m' : Mc} {i : In}
theorem run_step (hc : p.code[m.at_]? = some i) (ho : oneI p l now m i = .go m') : runI p l now (f + 1) k m = runI p l now f (k + 1) m' := by
  rw [runI, hc]
  dsimp only
  rw [ho]
theorem run_halt (hc : p.code[m.at_]? = some i) (ho : oneI p l now m i = .halt m') : runI p l now (f + 1) k m = .ok m' (k + 1) := by
  rw [runI, hc]
  dsimp only
  rw [ho]
theorem run_err {e : Int} (hc : p.code[m.at_]? = some i) (ho : oneI p l now m i = .err e) : runI p l now (f + 1) k m = .err e (k + 1) := by
  rw [runI, hc]
  dsimp only
  rw [ho]
theorem run_end (hc : p.code[m.at_]? = none) : runI p l now f k m = .ok m k := by
  cases f with
  | zero => rw [runI, hc]
  | succ f => rw [runI, hc]
theorem run_out (hc : p.code[m.at_]? = some i) : runI p l now 0 k m = .err 11 k := by rw [runI, hc]
end
/-- Eight noughts. -/
def z8_N : List Int := [0, 0, 0, 0, 0, 0, 0, 0]
section
variable {n : Int} {l : Lt} {now : Int}
theorem w64_small (z : Int) (h : -9223372036854775808 ≤ z ∧ z ≤ 9223372036854775807) : w64 z = z := by
  unfold w64
  rw [IntKind.wrap_i64]
  omega
end
section
variable {a b : Nat} {l : Lt} {now : Int}
end
end Go.Proofs.YtngnenbidpojeaaGreatDoor
