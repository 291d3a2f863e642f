import Derived.WalkKit
import Derived.Deep.AppendLies
import Derived.Lib.AppendStr
import Derived.Laws.IdiomStrings
import Derived.OneCell
import Derived.KernelRfl
import Derived.IntWalk
import Derived.Lib.ItoaMem
import Derived.Lib.ParseIntBTie
import Derived.Lib.CutLaws
import Derived.Test.YtngnenbidpojeaaGreatDoorT01
import Derived.Test.YtngnenbidpojeaaGreatDoorT02
import Derived.Test.YtngnenbidpojeaaGreatDoorT03
import Derived.Test.YtngnenbidpojeaaGreatDoorT05
import Derived.Test.YtngnenbidpojeaaGreatDoorT06
import Derived.Test.YtngnenbidpojeaaGreatDoorT15
/-
 Letters, numbers, programs as lists, without memory: their texts and bytes, there and back.
-/
namespace Go.Proofs.YtngnenbidpojeaaGreatDoor
set_option linter.unusedVariables false
end Go.Proofs.YtngnenbidpojeaaGreatDoor
namespace Go.Proofs.YtngnenbidpojeaaGreatDoor
set_option linter.unusedVariables false
end Go.Proofs.YtngnenbidpojeaaGreatDoor
namespace Go.Proofs.YtngnenbidpojeaaGreatDoor
set_option linter.unusedVariables false
end Go.Proofs.YtngnenbidpojeaaGreatDoor
namespace Go.Proofs.YtngnenbidpojeaaGreatDoor
open Go.Lib (decDigits itoa)
set_option linter.unusedVariables false
def words : List (List UInt8 × Nat) := [([104, 97, 108, 116], 0), ([112, 117, 115, 104], 1), ([108, 111, 97, 100], 2), ([115, 116, 111, 114, 101], 2), ([97, 114, 103], 3), ([107, 105, 110, 100], 0), ([97, 100, 100], 0), ([115, 117, 98], 0), ([109, 117, 108], 0), ([108, 101, 115, 115], 0), ([101, 113, 117, 97, 108], 0), ([110, 111, 116], 0), ([100, 117, 112], 0), ([100, 114, 111, 112], 0), ([115, 119, 97, 112], 0), ([106, 117, 109, 112], 4), ([106, 117, 109, 112, 122], 4), ([115, 101, 110, 100], 5), ([114, 101, 112, 108, 121], 0), ([114, 101, 109, 105, 110, 100], 5), ([99, 97, 110, 99, 101, 108], 5), ([102, 97, 105, 108], 0), ([110, 111, 119], 0), ([115, 101, 114, 105, 97, 108], 0)]
theorem words_length : words.length = 24 := rfl
end Go.Proofs.YtngnenbidpojeaaGreatDoor
namespace Go.Proofs.YtngnenbidpojeaaGreatDoor
open Go.Lib (decDigits itoa)
set_option linter.unusedVariables false
structure In where
 op : Int
 arg : Int
instance : Inhabited In := ⟨⟨0, 0⟩⟩
structure Pg where
 names : List (List UInt8)
 code : List In
inductive Ln where
 | nm (k : List UInt8)
 | ins (op : Nat) (arg : Int)
def nameB : List UInt8 := [110, 97, 109, 101, 32]
def mostI (nn nc : Nat) (k : Nat) : Int := if k = 0 then 0 else if k = 2 then 7 else if k = 3 then 3 else if k = 4 then (nc : Int) else (nn : Int) - 1
def okI (nn nc : Nat) (x : In) : Bool := match words[x.op.toNat]? with
 | some (w, k) => decide (0 ≤ x.op) && (decide (k = 1) || (decide (0 ≤ x.arg) && decide (x.arg ≤ mostI nn nc k)))
 | none => false
def formedP (p : Pg) : Bool := decide (p.names.length ≤ 8) && decide (p.code.length ≤ 200) && p.names.all isKey && p.code.all (okI p.names.length p.code.length)
def OkP (p : Pg) : Prop := ∀ x ∈ p.code, I64 x.arg
theorem formed_parts {p : Pg} (h : formedP p = true) : p.names.length ≤ 8 ∧ p.code.length ≤ 200 ∧ (∀ k ∈ p.names, isKey k = true) ∧ ∀ x ∈ p.code, okI p.names.length p.code.length x = true := by
 unfold formedP at h
 simp only [Bool.and_eq_true, decide_eq_true_eq, List.all_eq_true] at h
 exact ⟨h.1.1.1, h.1.1.2, h.1.2, h.2⟩
end Go.Proofs.YtngnenbidpojeaaGreatDoor
namespace Go.Proofs.YtngnenbidpojeaaGreatDoor
set_option linter.unusedVariables false
end Go.Proofs.YtngnenbidpojeaaGreatDoor
namespace Go.Proofs.YtngnenbidpojeaaGreatDoor
open Go.Lib (decDigits itoa)
set_option linter.unusedVariables false
end Go.Proofs.YtngnenbidpojeaaGreatDoor
namespace Go.Proofs.YtngnenbidpojeaaGreatDoor
open Go.Lib (decDigits itoa)
set_option linter.unusedVariables false
end Go.Proofs.YtngnenbidpojeaaGreatDoor
namespace Go.Proofs.YtngnenbidpojeaaGreatDoor
set_option linter.unusedVariables false
structure Sn where
 to : List UInt8
 kind : Int
 arg : Int
structure Tm where
 nm : List UInt8
 can : Bool
 due : Int
 per : Int
 kind : Int
structure Mc where
 at_ : Nat
 st : List Int
 reg : List Int
 ev : List Ev
 sent : List Sn
 tm : List Tm
def effI (op : Nat) : Nat × Nat :=
 if op = 1 ∨ op = 2 ∨ op = 4 ∨ op = 5 ∨ op = 22 ∨ op = 23 then (0, 1)
 else if op = 3 ∨ op = 13 ∨ op = 16 then (1, 0)
 else if op = 6 ∨ op = 7 ∨ op = 8 ∨ op = 9 ∨ op = 10 then (2, 1)
 else if op = 11 then (1, 1)
 else if op = 12 then (1, 2)
 else if op = 14 then (2, 2)
 else if op = 17 ∨ op = 18 ∨ op = 19 then (2, 0)
 else (0, 0)
def w64 (z : Int) : Int := IntKind.i64.wrap z
def valI (l : Lt) (now : Int) (reg : List Int) (op : Nat) (arg x y : Int) : Int :=
 if op = 1 then arg
 else if op = 2 then reg.getD arg.toNat 0
 else if op = 4 then l.args.getD arg.toNat 0
 else if op = 5 then l.kind
 else if op = 6 then w64 (x + y)
 else if op = 7 then w64 (x - y)
 else if op = 8 then w64 (x * y)
 else if op = 9 then (if x < y then 1 else 0)
 else if op = 10 then (if x = y then 1 else 0)
 else if op = 11 then (if x = 0 then 1 else 0)
 else if op = 22 then now
 else if op = 23 then w64 (l.ser : Int)
 else 0
inductive Ou where
 | go (m : Mc)
 | halt (m : Mc)
 | err (e : Int)
def actI (p : Pg) (l : Lt) (now : Int) (m : Mc) (op g : Nat) (arg x y : Int) : Ou :=
 if op = 0 then .halt m
 else if op = 21 then .err 12
 else if op = 3 then .go { m with reg := m.reg.set arg.toNat x, ev := m.ev ++ [⟨arg.toNat, x⟩] }
 else if op = 12 then .go { m with st := m.st ++ [x, x] }
 else if op = 14 then .go { m with st := m.st ++ [y, x] }
 else if op = 15 then .go { m with at_ := arg.toNat }
 else if op = 16 then .go { m with at_ := if x = 0 then arg.toNat else m.at_ }
 else if op = 17 ∨ op = 18 then
  (if (if op = 17 then p.names.getD arg.toNat [] else l.fr) = [] then .go m
    else if 4 ≤ m.sent.length then .err 12
    else .go { m with sent := m.sent ++ [⟨if op = 17 then p.names.getD arg.toNat [] else l.fr, x, y⟩] })
 else if op = 19 then
  (if x < 0 ∨ 9223372036854775807 < now + x ∨ y < 1 then .err 12
    else .go { m with tm := m.tm ++ [⟨p.names.getD arg.toNat [], false, now + x, y, l.kind⟩] })
 else if op = 20 then .go { m with tm := m.tm ++ [⟨p.names.getD arg.toNat [], true, 0, 0, 0⟩] }
 else .go { m with st := if g = 1 then m.st ++ [valI l now m.reg op arg x y] else m.st }
def oneI (p : Pg) (l : Lt) (now : Int) (m : Mc) (i : In) : Ou :=
 if m.st.length < (effI i.op.toNat).1 ∨ 16 < m.st.length - (effI i.op.toNat).1 + (effI i.op.toNat).2 then .err 10
 else if (effI i.op.toNat).1 = 2 then actI p l now { m with at_ := m.at_ + 1, st := m.st.dropLast.dropLast } i.op.toNat (effI i.op.toNat).2 i.arg (m.st.dropLast.getLastD 0) (m.st.getLastD 0)
 else if (effI i.op.toNat).1 = 1 then actI p l now { m with at_ := m.at_ + 1, st := m.st.dropLast } i.op.toNat (effI i.op.toNat).2 i.arg (m.st.getLastD 0) 0
 else actI p l now { m with at_ := m.at_ + 1 } i.op.toNat (effI i.op.toNat).2 i.arg 0 0
inductive Rr where
 | ok (m : Mc) (k : Nat)
 | err (e : Int) (k : Nat)
def runI (p : Pg) (l : Lt) (now : Int) : Nat → Nat → Mc → Rr
 | 0, k, m => match p.code[m.at_]? with
  | none => .ok m k
  | some i => .err 11 k
 | f + 1, k, m => match p.code[m.at_]? with
  | none => .ok m k
  | some i => match oneI p l now m i with
   | .err e => .err e (k + 1)
   | .halt m' => .ok m' (k + 1)
   | .go m' => runI p l now f (k + 1) m'
def Mc.start (reg : List Int) : Mc := ⟨0, [], reg, [], [], []⟩
structure Fine (reg0 : List Int) (now : Int) (m : Mc) : Prop where
 reg : m.reg = doA reg0 m.ev
 ev : ∀ e ∈ m.ev, e.r ≤ 7
 sent : m.sent.length ≤ 4
 tm : ∀ t ∈ m.tm, t.can = false → now ≤ t.due ∧ 1 ≤ t.per
 st : m.st.length ≤ 16
theorem Fine.start {reg0 : List Int} {now : Int} : Fine reg0 now (Mc.start reg0) := ⟨rfl, by simp [Mc.start], by simp [Mc.start], by simp [Mc.start], by simp [Mc.start]⟩
def Named (i : In) : Prop := i.op.toNat = 3 → i.arg.toNat ≤ 7
def FineO (reg0 : List Int) (now : Int) (E : Int → Prop) : Ou → Prop
 | .go m => Fine reg0 now m
 | .halt m => Fine reg0 now m
 | .err e => E e
theorem act_fine {reg0 : List Int} {p : Pg} {l : Lt} {now : Int} {m : Mc} {op g : Nat} {arg x y : Int} (h : Fine reg0 now m) (hn : op = 3 → arg.toNat ≤ 7) (hg : m.st.length + g ≤ 16) (h12 : op = 12 → g = 2) (h14 : op = 14 → g = 2) : FineO reg0 now (fun e => e = 12) (actI p l now m op g arg x y) := by
 unfold actI
 have hst := h.st
 by_cases c0 : op = 0
 ·rw [if_pos c0]; exact h
 rw [if_neg c0]
 by_cases c1 : op = 21
 ·rw [if_pos c1]; rfl
 rw [if_neg c1]
 by_cases c2 : op = 3
 ·rw [if_pos c2]
  refine ⟨?_, fun z hz => ?_, h.sent, h.tm, h.st⟩
  ·show m.reg.set arg.toNat x = doA reg0 (m.ev ++ [⟨arg.toNat, x⟩])
   rw [doA_append, ← h.reg]; rfl
  ·rcases List.mem_append.1 hz with hz | hz
   ·exact h.ev z hz
   ·simp at hz; subst hz; exact hn c2
 rw [if_neg c2]
 by_cases c3 : op = 12
 ·rw [if_pos c3]
  exact ⟨h.reg, h.ev, h.sent, h.tm, by show (m.st ++ [x, x]).length ≤ 16; have := h12 c3; simp; omega⟩
 rw [if_neg c3]
 by_cases c4 : op = 14
 ·rw [if_pos c4]
  exact ⟨h.reg, h.ev, h.sent, h.tm, by show (m.st ++ [y, x]).length ≤ 16; have := h14 c4; simp; omega⟩
 rw [if_neg c4]
 by_cases c5 : op = 15
 ·rw [if_pos c5]; exact ⟨h.reg, h.ev, h.sent, h.tm, h.st⟩
 rw [if_neg c5]
 by_cases c6 : op = 16
 ·rw [if_pos c6]; exact ⟨h.reg, h.ev, h.sent, h.tm, h.st⟩
 rw [if_neg c6]
 by_cases c7 : op = 17 ∨ op = 18
 ·rw [if_pos c7]
  generalize (if op = 17 then p.names.getD arg.toNat [] else l.fr) = to
  by_cases d : to = []
  ·rw [if_pos d]; exact h
  rw [if_neg d]
  by_cases d4 : 4 ≤ m.sent.length
  ·rw [if_pos d4]; rfl
  rw [if_neg d4]
  exact ⟨h.reg, h.ev, by show (m.sent ++ [_]).length ≤ 4; simp; omega, h.tm, h.st⟩
 rw [if_neg c7]
 by_cases c8 : op = 19
 ·rw [if_pos c8]
  by_cases d : x < 0 ∨ 9223372036854775807 < now + x ∨ y < 1
  ·rw [if_pos d]; rfl
  rw [if_neg d]
  refine ⟨h.reg, h.ev, h.sent, fun t ht => ?_, h.st⟩
  rcases List.mem_append.1 ht with ht | ht
  ·exact h.tm t ht
  ·simp at ht; subst ht; intro _; exact ⟨by show now ≤ now + x; omega, by show 1 ≤ y; omega⟩
 rw [if_neg c8]
 by_cases c9 : op = 20
 ·rw [if_pos c9]
  refine ⟨h.reg, h.ev, h.sent, fun t ht => ?_, h.st⟩
  rcases List.mem_append.1 ht with ht | ht
  ·exact h.tm t ht
  ·simp at ht; subst ht; intro hc; cases hc
 rw [if_neg c9]
 refine ⟨h.reg, h.ev, h.sent, h.tm, ?_⟩
 show (if g = 1 then m.st ++ [_] else m.st).length ≤ 16
 by_cases d : g = 1
 ·rw [if_pos d]; simp; omega
 ·rw [if_neg d]; exact h.st
theorem FineO.mono {reg0 : List Int} {now : Int} {E F : Int → Prop} {o : Ou} (h : FineO reg0 now E o) (hm : ∀ e, E e → F e) : FineO reg0 now F o := by
 cases o with
 | go m => exact h
 | halt m => exact h
 | err e => exact hm e h
theorem eff_12 {op : Nat} : (op = 12 → (effI op).2 = 2) ∧ (op = 14 → (effI op).2 = 2) := ⟨fun h => by subst h; rfl, fun h => by subst h; rfl⟩
theorem one_fine {reg0 : List Int} {p : Pg} {l : Lt} {now : Int} {m : Mc} {i : In} (h : Fine reg0 now m) (hn : Named i) : FineO reg0 now (fun e => e = 10 ∨ e = 12) (oneI p l now m i) := by
 unfold oneI
 have hst := h.st
 have key : ∀ (m' : Mc) (x y : Int), m'.reg = m.reg → m'.ev = m.ev → m'.sent = m.sent → m'.tm = m.tm → m'.st.length + (effI i.op.toNat).2 ≤ 16 → FineO reg0 now (fun e => e = 10 ∨ e = 12) (actI p l now m' i.op.toNat (effI i.op.toNat).2 i.arg x y) := fun m' x y e1 e2 e3 e4 e5 =>
  (act_fine ⟨by rw [e1, e2]; exact h.reg, by rw [e2]; exact h.ev, by rw [e3]; exact h.sent, by rw [e4]; exact h.tm, by omega⟩ hn e5 eff_12.1 eff_12.2).mono fun e he => .inr he
 by_cases h1 : m.st.length < (effI i.op.toNat).1 ∨ 16 < m.st.length - (effI i.op.toNat).1 + (effI i.op.toNat).2
 ·rw [if_pos h1]
  exact .inl rfl
 rw [if_neg h1]
 by_cases h2 : (effI i.op.toNat).1 = 2
 ·rw [if_pos h2]
  refine key _ _ _ rfl rfl rfl rfl ?_
  show m.st.dropLast.dropLast.length + _ ≤ 16
  have hl : m.st.dropLast.dropLast.length = m.st.length - 2 := by simp; omega
  omega
 rw [if_neg h2]
 by_cases h3 : (effI i.op.toNat).1 = 1
 ·rw [if_pos h3]
  refine key _ _ _ rfl rfl rfl rfl ?_
  show m.st.dropLast.length + _ ≤ 16
  have hl : m.st.dropLast.length = m.st.length - 1 := by simp
  omega
 rw [if_neg h3]
 refine key _ _ _ rfl rfl rfl rfl ?_
 show m.st.length + _ ≤ 16
 have h4 : (effI i.op.toNat).1 ≤ 2 := by
  unfold effI
  generalize i.op.toNat = o
  by_cases a1 : o = 1 ∨ o = 2 ∨ o = 4 ∨ o = 5 ∨ o = 22 ∨ o = 23
  ·rw [if_pos a1]; simp
  rw [if_neg a1]
  by_cases a2 : o = 3 ∨ o = 13 ∨ o = 16
  ·rw [if_pos a2]; simp
  rw [if_neg a2]
  by_cases a3 : o = 6 ∨ o = 7 ∨ o = 8 ∨ o = 9 ∨ o = 10
  ·rw [if_pos a3]; simp
  rw [if_neg a3]
  by_cases a4 : o = 11
  ·rw [if_pos a4]; simp
  rw [if_neg a4]
  by_cases a5 : o = 12
  ·rw [if_pos a5]; simp
  rw [if_neg a5]
  by_cases a6 : o = 14
  ·rw [if_pos a6]; simp
  rw [if_neg a6]
  by_cases a7 : o = 17 ∨ o = 18 ∨ o = 19
  ·rw [if_pos a7]; simp
  rw [if_neg a7]; simp
 omega
def FineR (reg0 : List Int) (now : Int) (n : Nat) : Rr → Prop
 | .ok m k => Fine reg0 now m ∧ k ≤ n
 | .err e k => k ≤ n ∧ (e = 11 → k = n) ∧ (e = 10 ∨ e = 11 ∨ e = 12)
theorem run_fine {reg0 : List Int} {p : Pg} {l : Lt} {now : Int} (hp : ∀ i ∈ p.code, Named i) : ∀ (f k : Nat) (m : Mc), Fine reg0 now m → FineR reg0 now (k + f) (runI p l now f k m)
 | 0, k, m, h => by
  rw [runI]
  cases hc : p.code[m.at_]? with
  | none => exact ⟨h, Nat.le_refl _⟩
  | some i => exact ⟨Nat.le_refl _, fun _ => rfl, .inr (.inl rfl)⟩
 | f + 1, k, m, h => by
  rw [runI]
  cases hc : p.code[m.at_]? with
  | none => exact ⟨h, by omega⟩
  | some i =>
   dsimp only
   have ho := one_fine (p := p) (l := l) h (hp i (List.mem_of_getElem? hc))
   cases hq : oneI p l now m i with
   | err e =>
    rw [hq] at ho
    have ho : e = 10 ∨ e = 12 := ho
    refine ⟨by omega, fun h11 => by omega, ?_⟩
    rcases ho with h | h
    ·exact .inl h
    ·exact .inr (.inr h)
   | halt m1 =>
    rw [hq] at ho
    exact ⟨ho, by omega⟩
   | go m1 =>
    rw [hq] at ho
    have := run_fine (l := l) hp f (k + 1) m1 ho
    rw [show k + 1 + f = k + (f + 1) by omega] at this
    exact this
section
variable {p : Pg} {l : Lt} {now : Int} {f k : Nat} {m m' : Mc} {i : In}
theorem run_step (hc : p.code[m.at_]? = some i) (ho : oneI p l now m i = .go m') : runI p l now (f + 1) k m = runI p l now f (k + 1) m' := by
 rw [runI, hc]
 dsimp only
 rw [ho]
theorem run_halt (hc : p.code[m.at_]? = some i) (ho : oneI p l now m i = .halt m') : runI p l now (f + 1) k m = .ok m' (k + 1) := by
 rw [runI, hc]
 dsimp only
 rw [ho]
theorem run_err {e : Int} (hc : p.code[m.at_]? = some i) (ho : oneI p l now m i = .err e) : runI p l now (f + 1) k m = .err e (k + 1) := by
 rw [runI, hc]
 dsimp only
 rw [ho]
theorem run_end (hc : p.code[m.at_]? = none) : runI p l now f k m = .ok m k := by
 cases f with
 | zero => rw [runI, hc]
 | succ f => rw [runI, hc]
theorem run_out (hc : p.code[m.at_]? = some i) : runI p l now 0 k m = .err 11 k := by rw [runI, hc]
end
def z8_N : List Int := [0, 0, 0, 0, 0, 0, 0, 0]
section
variable {n : Int} {l : Lt} {now : Int}
theorem w64_small (z : Int) (h : -9223372036854775808 ≤ z ∧ z ≤ 9223372036854775807) : w64 z = z := by
 unfold w64
 rw [IntKind.wrap_i64]
 omega
end
section
variable {a b : Nat} {l : Lt} {now : Int}
end
theorem w64_I64 (z : Int) : I64 (w64 z) := by
 unfold w64 I64
 rw [IntKind.wrap_i64]
 omega
theorem I64_0 : I64 0 := by unfold I64; omega
theorem I64_1 : I64 1 := by unfold I64; omega
theorem getD_I64 {l : List Int} (h : ∀ z ∈ l, I64 z) (i : Nat) : I64 (l.getD i 0) := by
 rw [List.getD_eq_getElem?_getD]
 cases hh : l[i]? with
 | none => exact I64_0
 | some z => exact h z (List.mem_of_getElem? hh)
theorem getLastD_I64 {l : List Int} (h : ∀ z ∈ l, I64 z) : I64 (l.getLastD 0) := by
 rcases List.eq_nil_or_concat l with rfl | ⟨a, z, rfl⟩
 ·exact I64_0
 ·simp at h ⊢
  exact h z (.inr rfl)
theorem dropLast_I64 {l : List Int} (h : ∀ z ∈ l, I64 z) : ∀ z ∈ l.dropLast, I64 z := fun z hz => h z (List.dropLast_subset l hz)
structure WideM (k : Nat) (m : Mc) : Prop where
 st : ∀ z ∈ m.st, I64 z
 reg : ∀ z ∈ m.reg, I64 z
 ev : ∀ e ∈ m.ev, I64 e.v
 sent : ∀ s ∈ m.sent, isKey s.to = true ∧ I64 s.kind ∧ I64 s.arg
 tm : ∀ t ∈ m.tm, isKey t.nm = true ∧ I64 t.due ∧ I64 t.per ∧ I64 t.kind
 few : m.ev.length ≤ k
structure Base (p : Pg) (l : Lt) (now : Int) : Prop where
 names : ∀ k ∈ p.names, isKey k = true
 ok : l.ok
 formed : l.formed = true
 now : 0 ≤ now ∧ I64 now
def WideO (k : Nat) : Ou → Prop
 | .go m => WideM k m
 | .halt m => WideM k m
 | .err e => True
theorem name_key {p : Pg} (h : ∀ k ∈ p.names, isKey k = true) (i : Nat) (hi : p.names.getD i [] ≠ []) : isKey (p.names.getD i []) = true := by
 rw [List.getD_eq_getElem?_getD] at hi ⊢
 cases hh : p.names[i]? with
 | none => rw [hh] at hi; exact absurd rfl hi
 | some z => exact h z (List.mem_of_getElem? hh)
theorem name_in {p : Pg} (h : ∀ k ∈ p.names, isKey k = true) {i : Nat} (hi : i < p.names.length) : isKey (p.names.getD i []) = true := by
 rw [List.getD_eq_getElem?_getD, List.getElem?_eq_getElem hi]
 exact h _ (List.getElem_mem hi)
theorem WideM.more {k : Nat} {m : Mc} (h : WideM k m) : WideM (k + 1) m := ⟨h.st, h.reg, h.ev, h.sent, h.tm, by have := h.few; omega⟩
theorem val_I64 {p : Pg} {l : Lt} {now : Int} (hb : Base p l now) {reg : List Int} (hr : ∀ z ∈ reg, I64 z) {op : Nat} {arg x y : Int} (ha : I64 arg) : I64 (valI l now reg op arg x y) := by
 unfold valI
 by_cases c1 : op = 1
 ·rw [if_pos c1]; exact ha
 rw [if_neg c1]
 by_cases c2 : op = 2
 ·rw [if_pos c2]; exact getD_I64 hr _
 rw [if_neg c2]
 by_cases c4 : op = 4
 ·rw [if_pos c4]; exact getD_I64 hb.ok.args _
 rw [if_neg c4]
 by_cases c5 : op = 5
 ·rw [if_pos c5]; exact hb.ok.kind
 rw [if_neg c5]
 by_cases c6 : op = 6
 ·rw [if_pos c6]; exact w64_I64 _
 rw [if_neg c6]
 by_cases c7 : op = 7
 ·rw [if_pos c7]; exact w64_I64 _
 rw [if_neg c7]
 by_cases c8 : op = 8
 ·rw [if_pos c8]; exact w64_I64 _
 rw [if_neg c8]
 by_cases c9 : op = 9
 ·rw [if_pos c9]; split; exact I64_1; exact I64_0
 rw [if_neg c9]
 by_cases c10 : op = 10
 ·rw [if_pos c10]; split; exact I64_1; exact I64_0
 rw [if_neg c10]
 by_cases c11 : op = 11
 ·rw [if_pos c11]; split; exact I64_1; exact I64_0
 rw [if_neg c11]
 by_cases c22 : op = 22
 ·rw [if_pos c22]; exact hb.now.2
 rw [if_neg c22]
 by_cases c23 : op = 23
 ·rw [if_pos c23]; exact w64_I64 _
 rw [if_neg c23]
 exact I64_0
theorem mem_two {l : List Int} (h : ∀ z ∈ l, I64 z) {x y : Int} (hx : I64 x) (hy : I64 y) : ∀ z ∈ l ++ [x, y], I64 z := fun z hz => by
 rcases List.mem_append.1 hz with hz | hz
 ·exact h z hz
 ·simp at hz
  rcases hz with rfl | rfl
  ·exact hx
  ·exact hy
theorem act_wide {p : Pg} {l : Lt} {now : Int} {m : Mc} {k op g : Nat} {arg x y : Int} (hb : Base p l now) (h : WideM k m) (ha : I64 arg) (hx : I64 x) (hy : I64 y) (hn : op = 19 ∨ op = 20 → arg.toNat < p.names.length) : WideO (k + 1) (actI p l now m op g arg x y) := by
 unfold actI
 by_cases c0 : op = 0
 ·rw [if_pos c0]; exact h.more
 rw [if_neg c0]
 by_cases c1 : op = 21
 ·rw [if_pos c1]; trivial
 rw [if_neg c1]
 by_cases c2 : op = 3
 ·rw [if_pos c2]
  refine ⟨h.st, fun z hz => ?_, fun e he => ?_, h.sent, h.tm, by have := h.few; simp; omega⟩
  ·rcases List.mem_or_eq_of_mem_set hz with hz | rfl
   ·exact h.reg z hz
   ·exact hx
  ·rcases List.mem_append.1 he with he | he
   ·exact h.ev e he
   ·simp at he; subst he; exact hx
 rw [if_neg c2]
 by_cases c3 : op = 12
 ·rw [if_pos c3]
  exact { h.more with st := mem_two h.st hx hx }
 rw [if_neg c3]
 by_cases c4 : op = 14
 ·rw [if_pos c4]
  exact { h.more with st := mem_two h.st hy hx }
 rw [if_neg c4]
 by_cases c5 : op = 15
 ·rw [if_pos c5]; exact { h.more with }
 rw [if_neg c5]
 by_cases c6 : op = 16
 ·rw [if_pos c6]; exact { h.more with }
 rw [if_neg c6]
 by_cases c7 : op = 17 ∨ op = 18
 ·rw [if_pos c7]
  by_cases d : (if op = 17 then p.names.getD arg.toNat [] else l.fr) = []
  ·rw [if_pos d]; exact h.more
  rw [if_neg d]
  by_cases d4 : 4 ≤ m.sent.length
  ·rw [if_pos d4]; trivial
  rw [if_neg d4]
  refine { h.more with sent := fun s hs => ?_ }
  rcases List.mem_append.1 hs with hs | hs
  ·exact h.sent s hs
  ·simp at hs; subst hs
   refine ⟨?_, hx, hy⟩
   by_cases e17 : op = 17
   ·rw [if_pos e17] at d
    show isKey (if op = 17 then _ else _) = true
    rw [if_pos e17]
    exact name_key hb.names _ d
   ·rw [if_neg e17] at d
    show isKey (if op = 17 then _ else _) = true
    rw [if_neg e17]
    have := (formed_le hb.formed).1
    exact (isKey_iff _).2 ⟨by have := List.length_pos_iff.2 d; omega, this⟩
 rw [if_neg c7]
 by_cases c8 : op = 19
 ·rw [if_pos c8]
  by_cases d : x < 0 ∨ 9223372036854775807 < now + x ∨ y < 1
  ·rw [if_pos d]; trivial
  rw [if_neg d]
  refine { h.more with tm := fun t ht => ?_ }
  rcases List.mem_append.1 ht with ht | ht
  ·exact h.tm t ht
  ·simp at ht; subst ht
   exact ⟨name_in hb.names (hn (.inl c8)), by have := hb.now; unfold I64 at this ⊢; show _ ≤ now + x ∧ now + x ≤ _; omega, hy, hb.ok.kind⟩
 rw [if_neg c8]
 by_cases c9 : op = 20
 ·rw [if_pos c9]
  refine { h.more with tm := fun t ht => ?_ }
  rcases List.mem_append.1 ht with ht | ht
  ·exact h.tm t ht
  ·simp at ht; subst ht
   exact ⟨name_in hb.names (hn (.inr c9)), I64_0, I64_0, I64_0⟩
 rw [if_neg c9]
 refine { h.more with st := ?_ }
 show ∀ z ∈ (if g = 1 then m.st ++ [_] else m.st), I64 z
 by_cases d : g = 1
 ·rw [if_pos d]
  intro z hz
  rcases List.mem_append.1 hz with hz | hz
  ·exact h.st z hz
  ·simp at hz; subst hz; exact val_I64 hb h.reg ha
 ·rw [if_neg d]; exact h.st
def Told (p : Pg) (i : In) : Prop := I64 i.arg ∧ (i.op.toNat = 19 ∨ i.op.toNat = 20 → i.arg.toNat < p.names.length)
theorem one_wide {p : Pg} {l : Lt} {now : Int} {m : Mc} {k : Nat} {i : In} (hb : Base p l now) (h : WideM k m) (hi : Told p i) : WideO (k + 1) (oneI p l now m i) := by
 unfold oneI
 split
 ·trivial
 split
 ·exact act_wide hb { h with st := dropLast_I64 (dropLast_I64 h.st) } hi.1 (getLastD_I64 (dropLast_I64 h.st)) (getLastD_I64 h.st) hi.2
 split
 ·exact act_wide hb { h with st := dropLast_I64 h.st } hi.1 (getLastD_I64 h.st) I64_0 hi.2
 ·exact act_wide hb { h with } hi.1 I64_0 I64_0 hi.2
theorem WideM.start {reg : List Int} (h : ∀ z ∈ reg, I64 z) : WideM 0 (Mc.start reg) := ⟨by simp [Mc.start], h, by simp [Mc.start], by simp [Mc.start], by simp [Mc.start], by simp [Mc.start]⟩
theorem formed_named {p : Pg} (h : formedP p = true) (ho : OkP p) : (∀ i ∈ p.code, Named i) ∧ ∀ i ∈ p.code, Told p i := by
 obtain ⟨h1, h2, h3, h4⟩ := formed_parts h
 have key : ∀ i ∈ p.code, (i.op.toNat = 3 → i.arg ≤ 7) ∧ (i.op.toNat = 19 ∨ i.op.toNat = 20 → 0 ≤ i.arg ∧ i.arg ≤ (p.names.length : Int) - 1) := fun i hi => by
  have hk := h4 i hi
  unfold okI at hk
  refine ⟨fun e => ?_, fun e => ?_⟩
  ·rw [e] at hk
   simp [words, mostI] at hk
   exact hk.2.2
  ·rcases e with e | e
   ·rw [e] at hk
    simp [words, mostI] at hk
    exact hk.2
   ·rw [e] at hk
    simp [words, mostI] at hk
    exact hk.2
 refine ⟨fun i hi e => ?_, fun i hi => ⟨ho i hi, fun e => ?_⟩⟩
 ·have := (key i hi).1 e; omega
 ·have := (key i hi).2 e; omega
structure Sound (reg0 : List Int) (now : Int) (k : Nat) (m : Mc) : Prop where
 fine : Fine reg0 now m
 wide : WideM k m
 few : m.tm.length ≤ k
def TmO (n : Nat) : Ou → Prop
 | .go m => m.tm.length ≤ n
 | .halt m => m.tm.length ≤ n
 | .err e => True
theorem TmO.ite {n : Nat} {c : Prop} [Decidable c] {a b : Ou} (h1 : TmO n a) (h2 : TmO n b) : TmO n (if c then a else b) := by
 by_cases h : c
 ·rw [if_pos h]; exact h1
 ·rw [if_neg h]; exact h2
theorem act_tm {p : Pg} {l : Lt} {now : Int} {m : Mc} {op g : Nat} {arg x y : Int} : TmO (m.tm.length + 1) (actI p l now m op g arg x y) := by
 unfold actI
 repeat' (apply TmO.ite)
 all_goals (simp [TmO])
theorem one_tm {p : Pg} {l : Lt} {now : Int} {m : Mc} {i : In} : TmO (m.tm.length + 1) (oneI p l now m i) := by
 unfold oneI
 exact TmO.ite trivial (TmO.ite act_tm (TmO.ite act_tm act_tm))
def SoundO (reg0 : List Int) (now : Int) (k : Nat) : Ou → Prop
 | .go m => Sound reg0 now k m
 | .halt m => Sound reg0 now k m
 | .err e => e = 10 ∨ e = 12
theorem Sound.start {reg : List Int} {now : Int} (h : ∀ z ∈ reg, I64 z) : Sound reg now 0 (Mc.start reg) := ⟨Fine.start, WideM.start h, by simp [Mc.start]⟩
theorem Sound.step {reg0 : List Int} {p : Pg} {l : Lt} {now : Int} {k : Nat} {m : Mc} {i : In} (hb : Base p l now) (h : Sound reg0 now k m) (hn : Named i) (ht : Told p i) : SoundO reg0 now (k + 1) (oneI p l now m i) := by
 have h1 := one_fine (p := p) (l := l) h.fine hn
 have h2 := one_wide hb h.wide ht
 have h3 := one_tm (p := p) (l := l) (now := now) (m := m) (i := i)
 have hf := h.few
 cases ho : oneI p l now m i with
 | go m' => rw [ho] at h1 h2 h3; exact ⟨h1, h2, by have h3 : m'.tm.length ≤ m.tm.length + 1 := h3; omega⟩
 | halt m' => rw [ho] at h1 h2 h3; exact ⟨h1, h2, by have h3 : m'.tm.length ≤ m.tm.length + 1 := h3; omega⟩
 | err e => rw [ho] at h1; exact h1
structure Rsl where
 reg : List Int
 ev : List Ev
 sent : List Sn
 tm : List Tm
 k : Nat
def Rsl.none (k : Nat) : Rsl := ⟨z8_N, [], [], [], k⟩
def endI : Rr → Rsl × Int
 | .ok m k => (⟨m.reg, m.ev, m.sent, m.tm, k⟩, 0)
 | .err e k => (Rsl.none k, e)
def mayI (p : Pg) (l : Lt) (now : Int) : Bool := formedP p && l.formed && decide (0 ≤ now)
def resI (p : Pg) (reg : List Int) (l : Lt) (now : Int) : Rsl × Int := if mayI p l now = true then endI (runI p l now 500 0 (Mc.start reg)) else (Rsl.none 0, 1)
set_option maxRecDepth 100000
def okSnd (o : Ob) (to : List UInt8) : Bool := isKey to && decide (o.L.length ≠ 32) && (hasK o.K to || decide (o.K.length ≠ 64))
theorem okSnd_iff (o : Ob) (to : List UInt8) : okSnd o to = true ↔ isKey to = true ∧ o.L.length ≠ 32 ∧ (hasK o.K to = true ∨ o.K.length ≠ 64) := by
 simp [okSnd, and_assoc]
def sendL : Ob → List Sn → Option Ob
 | o, [] => some o
 | o, s :: r => if okSnd o s.to = true then sendL (sendO o s.to s.kind [s.arg]) r else none
theorem sendL_snoc (s : Sn) : ∀ (l : List Sn) (o : Ob), sendL o (l ++ [s]) = (sendL o l).bind fun q => if okSnd q s.to = true then some (sendO q s.to s.kind [s.arg]) else none
 | [], o => by simp [sendL]
 | x :: l, o => by
  rw [List.cons_append, sendL, sendL]
  split
  ·exact sendL_snoc s l _
  ·rfl
theorem sendL_none (B : List Sn) : ∀ (l : List Sn) (o : Ob), sendL o l = none → sendL o (l ++ B) = none
 | [], o, h => by simp [sendL] at h
 | x :: l, o, h => by
  rw [List.cons_append, sendL]
  rw [sendL] at h
  split
  ·rename_i hc
   rw [if_pos hc] at h
   exact sendL_none B l _ h
  ·rfl
theorem snd_of_ok {o : Ob} {to : List UInt8} (h : okSnd o to = true) (kind arg : Int) : sndO o to kind [arg] = sendO o to kind [arg] := by
 obtain ⟨h1, h2, h3⟩ := (okSnd_iff o to).1 h
 unfold sndO
 rw [if_pos ⟨h1, by simp, h2, h3⟩]
theorem sendL_good : ∀ (l : List Sn) (o q : Ob) (B : Nat), GoodO o → SerB o B → (∀ s ∈ l, I64 s.kind ∧ I64 s.arg) → B + l.length < 4611686018427387904 → sendL o l = some q → GoodO q ∧ SerB q (B + l.length)
 | [], o, q, B, g, hB, hs, h6, h => by simp [sendL] at h; subst h; exact ⟨g, hB⟩
 | x :: l, o, q, B, g, hB, hs, h6, h => by
  rw [sendL] at h
  split at h
  ·rename_i hc
   have hx := hs x (by simp)
   rw [List.length_cons] at h6
   have g1 := g.snd hB (by omega) (to := x.to) hx.1 (args := [x.arg]) (by simp; exact hx.2)
   have b1 := hB.snd x.to x.kind [x.arg]
   rw [snd_of_ok hc] at g1 b1
   have := sendL_good l _ q (B + 1) g1 b1 (fun s h => hs s (by simp [h])) (by omega) h
   refine ⟨this.1, ?_⟩
   have e : B + (x :: l).length = B + 1 + l.length := by simp; omega
   rw [e]
   exact this.2
  ·cases h
structure Oc where
 done : Bool
 poi : Bool
 failed : Int
 steps : Nat
 tm : List Tm
def ocN : Oc := ⟨false, false, 0, 0, []⟩
def takeR (a : Ac) (x : Lt) (t : List Lt) (R : Rsl) (e : Int) : Ac × Oc × Int :=
 if e = 0 then
  match sendL a.out R.sent with
  | none => (a, ocN, 8)
  | some o => (⟨addR a.j (R.ev.map ofE), t, o, 0, a.poi⟩, ⟨true, false, 0, R.k, R.tm⟩, 0)
 else if a.tries + 1 < 3 then (⟨a.j, a.inb, a.out, a.tries + 1, a.poi⟩, ⟨false, false, e, R.k, []⟩, 0)
 else if a.poi.length = 8 then (a, ocN, 8)
 else (⟨a.j, t, a.out, 0, a.poi ++ [x]⟩, ⟨false, true, e, R.k, []⟩, 0)
def takeA (p : Pg) (a : Ac) (now : Int) : Ac × Oc × Int :=
 if soundA a.tries a.inb.length a.poi = true ∧ formedP p = true ∧ 0 ≤ now then
  match a.inb with
  | [] => (a, ocN, 5)
  | x :: t => takeR a x t (resI p (stJ a.j) x now).1 (resI p (stJ a.j) x now).2
 else (a, ocN, 1)
structure FitR (R : Rsl) : Prop where
 ev : R.ev.length ≤ 900
 tm : R.tm.length ≤ 900
 sent : R.sent.length ≤ 4
 k : R.k ≤ 500
 evs : ∀ e ∈ R.ev, e.r ≤ 7 ∧ I64 e.v
 snd : ∀ s ∈ R.sent, s.to.length ≤ 40 ∧ I64 s.kind ∧ I64 s.arg
theorem fit_none (k : Nat) (hk : k ≤ 500) : FitR (Rsl.none k) := ⟨by simp [Rsl.none], by simp [Rsl.none], by simp [Rsl.none], hk, by simp [Rsl.none], by simp [Rsl.none]⟩
theorem ofE_64 {l : List Ev} (h : ∀ e ∈ l, e.r ≤ 7 ∧ I64 e.v) : ∀ e ∈ l.map ofE, E64 e := fun e he => by
 obtain ⟨y, hy, rfl⟩ := List.mem_map.1 he
 have := h y hy
 exact ⟨by show I64 (y.r : Int); unfold I64; omega, this.2⟩
structure Lim (a : Ac) (B V : Nat) : Prop where
 ser : SerB a.out B
 ver : a.j.ver ≤ V
theorem takeR_good {a : Ac} {x : Lt} {t : List Lt} {R : Rsl} {e : Int} {B V : Nat} (g : GoodP a) (hL : Lim a B V) (hB : B ≤ 1000000) (hV : V ≤ 1000000) (hi : a.inb = x :: t) (hR : FitR R) :
  GoodP (takeR a x t R e).1 ∧ Lim (takeR a x t R e).1 (B + 4) (V + 900) := by
 have hx := g.inb x (by rw [hi]; simp)
 have ht : t.length ≤ 8 := by have := g.i8; rw [hi, List.length_cons] at this; omega
 have hti : ∀ y ∈ t, y.ok ∧ y.formed = true := fun y hy => g.inb y (by rw [hi]; simp [hy])
 have hS : ∀ {o : Ob} {B C : Nat}, SerB o B → B ≤ C → SerB o C := fun h hc y hy => by have := h y hy; omega
 have hL' : Lim a (B + 4) (V + 900) := ⟨hS hL.ser (by omega), by have := hL.ver; omega⟩
 unfold takeR
 by_cases h0 : e = 0
 ·rw [if_pos h0]
  cases hs : sendL a.out R.sent with
  | none => exact ⟨g, hL'⟩
  | some o =>
   have h4 := hR.sent
   have hev := hR.ev
   obtain ⟨g1, b1⟩ := sendL_good R.sent a.out o B g.out hL.ser (fun s h => (hR.snd s h).2) (by omega) hs
   have hv := hL.ver
   refine ⟨⟨g.j.addR (ofE_64 hR.evs) (by rw [List.length_map]; omega), ht, hti, g1, g.poi⟩, hS b1 (by omega), ?_⟩
   have := addR_ver a.j (R.ev.map ofE)
   rw [List.length_map] at this
   show (addR a.j (R.ev.map ofE)).ver ≤ _
   omega
 ·rw [if_neg h0]
  split
  ·exact ⟨⟨g.j, g.i8, g.inb, g.out, g.poi⟩, hL'.ser, hL'.ver⟩
  ·split
   ·exact ⟨g, hL'⟩
   ·refine ⟨⟨g.j, ht, hti, g.out, fun y hy => ?_⟩, hL'.ser, hL'.ver⟩
    rcases List.mem_append.1 hy with h | h
    ·exact g.poi y h
    ·simp at h; subst h; exact hx.1
end Go.Proofs.YtngnenbidpojeaaGreatDoor
