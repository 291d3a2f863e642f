import Derived.Test.YtpodoiichpnpjaaDoorQ03
import Derived.Test.YtpodoiichpnpjaaDoorQ07
/-
  Runs of programs, without memory.
-/
namespace Go.Proofs.YtpodoiichpnpjaaDoor
set_option linter.unusedVariables false
/-- What is sent. -/
structure Sn where
  to : List UInt8
  kind : Int
  arg : Int
/-- A reminder that is asked for, or cancelled. -/
structure Tm where
  nm : List UInt8
  can : Bool
  due : Int
  per : Int
  kind : Int
/-- Where a run stands; the top of the stack is its last one. -/
structure Mc where
  at_ : Nat
  st : List Int
  reg : List Int
  ev : List Ev
  sent : List Sn
  tm : List Tm
/-- How many an operation takes, and pushes. -/
def effI (op : Nat) : Nat × Nat :=
  if op = 1 ∨ op = 2 ∨ op = 4 ∨ op = 5 ∨ op = 22 ∨ op = 23 then (0, 1)
  else if op = 3 ∨ op = 13 ∨ op = 16 then (1, 0)
  else if op = 6 ∨ op = 7 ∨ op = 8 ∨ op = 9 ∨ op = 10 then (2, 1)
  else if op = 11 then (1, 1)
  else if op = 12 then (1, 2)
  else if op = 14 then (2, 2)
  else if op = 17 ∨ op = 18 ∨ op = 19 then (2, 0)
  else (0, 0)
def w64 (z : Int) : Int := IntKind.i64.wrap z
/-- What an instruction pushes that pushes one integer. -/
def valI (l : Lt) (now : Int) (reg : List Int) (op : Nat) (arg x y : Int) : Int :=
  if op = 1 then arg
  else if op = 2 then reg.getD arg.toNat 0
  else if op = 4 then l.args.getD arg.toNat 0
  else if op = 5 then l.kind
  else if op = 6 then w64 (x + y)
  else if op = 7 then w64 (x - y)
  else if op = 8 then w64 (x * y)
  else if op = 9 then (if x < y then 1 else 0)
  else if op = 10 then (if x = y then 1 else 0)
  else if op = 11 then (if x = 0 then 1 else 0)
  else if op = 22 then now
  else if op = 23 then w64 (l.ser : Int)
  else 0
/-- What a step comes to. -/
inductive Ou where
  | go (m : Mc)
  | halt (m : Mc)
  | err (e : Int)
/-- What an operation does, x and y being taken. -/
def actI (p : Pg) (l : Lt) (now : Int) (m : Mc) (op g : Nat) (arg x y : Int) : Ou :=
  if op = 0 then .halt m
  else if op = 21 then .err 12
  else if op = 3 then .go { m with reg := m.reg.set arg.toNat x, ev := m.ev ++ [⟨arg.toNat, x⟩] }
  else if op = 12 then .go { m with st := m.st ++ [x, x] }
  else if op = 14 then .go { m with st := m.st ++ [y, x] }
  else if op = 15 then .go { m with at_ := arg.toNat }
  else if op = 16 then .go { m with at_ := if x = 0 then arg.toNat else m.at_ }
  else if op = 17 ∨ op = 18 then
    (if (if op = 17 then p.names.getD arg.toNat [] else l.fr) = [] then .go m
     else if 4 ≤ m.sent.length then .err 12
     else .go { m with sent := m.sent ++ [⟨if op = 17 then p.names.getD arg.toNat [] else l.fr, x, y⟩] })
  else if op = 19 then
    (if x < 0 ∨ 9223372036854775807 < now + x ∨ y < 1 then .err 12
     else .go { m with tm := m.tm ++ [⟨p.names.getD arg.toNat [], false, now + x, y, l.kind⟩] })
  else if op = 20 then .go { m with tm := m.tm ++ [⟨p.names.getD arg.toNat [], true, 0, 0, 0⟩] }
  else .go { m with st := if g = 1 then m.st ++ [valI l now m.reg op arg x y] else m.st }
/-- A step. -/
def oneI (p : Pg) (l : Lt) (now : Int) (m : Mc) (i : In) : Ou :=
  if m.st.length < (effI i.op.toNat).1 ∨ 16 < m.st.length - (effI i.op.toNat).1 + (effI i.op.toNat).2 then .err 10
  else if (effI i.op.toNat).1 = 2 then actI p l now { m with at_ := m.at_ + 1, st := m.st.dropLast.dropLast } i.op.toNat (effI i.op.toNat).2 i.arg (m.st.dropLast.getLastD 0) (m.st.getLastD 0)
  else if (effI i.op.toNat).1 = 1 then actI p l now { m with at_ := m.at_ + 1, st := m.st.dropLast } i.op.toNat (effI i.op.toNat).2 i.arg (m.st.getLastD 0) 0
  else actI p l now { m with at_ := m.at_ + 1 } i.op.toNat (effI i.op.toNat).2 i.arg 0 0
/-- What a run comes to: where it stands and its steps; or an error and the steps. -/
inductive Rr where
  | ok (m : Mc) (k : Nat)
  | err (e : Int) (k : Nat)
/-- A run of f steps at most, behind k. -/
def runI (p : Pg) (l : Lt) (now : Int) : Nat → Nat → Mc → Rr
  | 0, k, m => match p.code[m.at_]? with
    | none => .ok m k
    | some i => .err 11 k
  | f + 1, k, m => match p.code[m.at_]? with
    | none => .ok m k
    | some i => match oneI p l now m i with
      | .err e => .err e (k + 1)
      | .halt m' => .ok m' (k + 1)
      | .go m' => runI p l now f (k + 1) m'
def Mc.start (reg : List Int) : Mc := ⟨0, [], reg, [], [], []⟩
/-- What holds all the way. -/
structure Fine (reg0 : List Int) (now : Int) (m : Mc) : Prop where
  reg : m.reg = doA reg0 m.ev
  ev : ∀ e ∈ m.ev, e.r ≤ 7
  sent : m.sent.length ≤ 4
  tm : ∀ t ∈ m.tm, t.can = false → now ≤ t.due ∧ 1 ≤ t.per
  st : m.st.length ≤ 16
theorem Fine.start {reg0 : List Int} {now : Int} : Fine reg0 now (Mc.start reg0) := ⟨rfl, by simp [Mc.start], by simp [Mc.start], by simp [Mc.start], by simp [Mc.start]⟩
/-- The registers that an instruction of a formed program names are there. -/
def Named (i : In) : Prop := i.op.toNat = 3 → i.arg.toNat ≤ 7
/-- What a step comes to is fine; E: the errors that it may tell. -/
def FineO (reg0 : List Int) (now : Int) (E : Int → Prop) : Ou → Prop
  | .go m => Fine reg0 now m
  | .halt m => Fine reg0 now m
  | .err e => E e
theorem act_fine {reg0 : List Int} {p : Pg} {l : Lt} {now : Int} {m : Mc} {op g : Nat} {arg x y : Int} (h : Fine reg0 now m) (hn : op = 3 → arg.toNat ≤ 7) (hg : m.st.length + g ≤ 16) (h12 : op = 12 → g = 2) (h14 : op = 14 → g = 2) : FineO reg0 now (fun e => e = 12) (actI p l now m op g arg x y) := by
  unfold actI
  have hst := h.st
  by_cases c0 : op = 0
  · rw [if_pos c0]; exact h
  rw [if_neg c0]
  by_cases c1 : op = 21
  · rw [if_pos c1]; rfl
  rw [if_neg c1]
  by_cases c2 : op = 3
  · rw [if_pos c2]
    refine ⟨?_, fun z hz => ?_, h.sent, h.tm, h.st⟩
    · show m.reg.set arg.toNat x = doA reg0 (m.ev ++ [⟨arg.toNat, x⟩])
      rw [doA_append, ← h.reg]; rfl
    · rcases List.mem_append.1 hz with hz | hz
      · exact h.ev z hz
      · simp at hz; subst hz; exact hn c2
  rw [if_neg c2]
  by_cases c3 : op = 12
  · rw [if_pos c3]
    exact ⟨h.reg, h.ev, h.sent, h.tm, by show (m.st ++ [x, x]).length ≤ 16; have := h12 c3; simp; omega⟩
  rw [if_neg c3]
  by_cases c4 : op = 14
  · rw [if_pos c4]
    exact ⟨h.reg, h.ev, h.sent, h.tm, by show (m.st ++ [y, x]).length ≤ 16; have := h14 c4; simp; omega⟩
  rw [if_neg c4]
  by_cases c5 : op = 15
  · rw [if_pos c5]; exact ⟨h.reg, h.ev, h.sent, h.tm, h.st⟩
  rw [if_neg c5]
  by_cases c6 : op = 16
  · rw [if_pos c6]; exact ⟨h.reg, h.ev, h.sent, h.tm, h.st⟩
  rw [if_neg c6]
  by_cases c7 : op = 17 ∨ op = 18
  · rw [if_pos c7]
    generalize (if op = 17 then p.names.getD arg.toNat [] else l.fr) = to
    by_cases d : to = []
    · rw [if_pos d]; exact h
    rw [if_neg d]
    by_cases d4 : 4 ≤ m.sent.length
    · rw [if_pos d4]; rfl
    rw [if_neg d4]
    exact ⟨h.reg, h.ev, by show (m.sent ++ [_]).length ≤ 4; simp; omega, h.tm, h.st⟩
  rw [if_neg c7]
  by_cases c8 : op = 19
  · rw [if_pos c8]
    by_cases d : x < 0 ∨ 9223372036854775807 < now + x ∨ y < 1
    · rw [if_pos d]; rfl
    rw [if_neg d]
    refine ⟨h.reg, h.ev, h.sent, fun t ht => ?_, h.st⟩
    rcases List.mem_append.1 ht with ht | ht
    · exact h.tm t ht
    · simp at ht; subst ht; intro _; exact ⟨by show now ≤ now + x; omega, by show 1 ≤ y; omega⟩
  rw [if_neg c8]
  by_cases c9 : op = 20
  · rw [if_pos c9]
    refine ⟨h.reg, h.ev, h.sent, fun t ht => ?_, h.st⟩
    rcases List.mem_append.1 ht with ht | ht
    · exact h.tm t ht
    · simp at ht; subst ht; intro hc; cases hc
  rw [if_neg c9]
  refine ⟨h.reg, h.ev, h.sent, h.tm, ?_⟩
  show (if g = 1 then m.st ++ [_] else m.st).length ≤ 16
  by_cases d : g = 1
  · rw [if_pos d]; simp; omega
  · rw [if_neg d]; exact h.st
theorem FineO.mono {reg0 : List Int} {now : Int} {E F : Int → Prop} {o : Ou} (h : FineO reg0 now E o) (hm : ∀ e, E e → F e) : FineO reg0 now F o := by
  cases o with
  | go m => exact h
  | halt m => exact h
  | err e => exact hm e h
theorem eff_12 {op : Nat} : (op = 12 → (effI op).2 = 2) ∧ (op = 14 → (effI op).2 = 2) := ⟨fun h => by subst h; rfl, fun h => by subst h; rfl⟩
theorem one_fine {reg0 : List Int} {p : Pg} {l : Lt} {now : Int} {m : Mc} {i : In} (h : Fine reg0 now m) (hn : Named i) : FineO reg0 now (fun e => e = 10 ∨ e = 12) (oneI p l now m i) := by
  unfold oneI
  have hst := h.st
  have key : ∀ (m' : Mc) (x y : Int), m'.reg = m.reg → m'.ev = m.ev → m'.sent = m.sent → m'.tm = m.tm → m'.st.length + (effI i.op.toNat).2 ≤ 16 → FineO reg0 now (fun e => e = 10 ∨ e = 12) (actI p l now m' i.op.toNat (effI i.op.toNat).2 i.arg x y) := fun m' x y e1 e2 e3 e4 e5 =>
    (act_fine ⟨by rw [e1, e2]; exact h.reg, by rw [e2]; exact h.ev, by rw [e3]; exact h.sent, by rw [e4]; exact h.tm, by omega⟩ hn e5 eff_12.1 eff_12.2).mono fun e he => .inr he
  by_cases h1 : m.st.length < (effI i.op.toNat).1 ∨ 16 < m.st.length - (effI i.op.toNat).1 + (effI i.op.toNat).2
  · rw [if_pos h1]
    exact .inl rfl
  rw [if_neg h1]
  by_cases h2 : (effI i.op.toNat).1 = 2
  · rw [if_pos h2]
    refine key _ _ _ rfl rfl rfl rfl ?_
    show m.st.dropLast.dropLast.length + _ ≤ 16
    have hl : m.st.dropLast.dropLast.length = m.st.length - 2 := by simp; omega
    omega
  rw [if_neg h2]
  by_cases h3 : (effI i.op.toNat).1 = 1
  · rw [if_pos h3]
    refine key _ _ _ rfl rfl rfl rfl ?_
    show m.st.dropLast.length + _ ≤ 16
    have hl : m.st.dropLast.length = m.st.length - 1 := by simp
    omega
  rw [if_neg h3]
  refine key _ _ _ rfl rfl rfl rfl ?_
  show m.st.length + _ ≤ 16
  have h4 : (effI i.op.toNat).1 ≤ 2 := by
    unfold effI
    generalize i.op.toNat = o
    by_cases a1 : o = 1 ∨ o = 2 ∨ o = 4 ∨ o = 5 ∨ o = 22 ∨ o = 23
    · rw [if_pos a1]; simp
    rw [if_neg a1]
    by_cases a2 : o = 3 ∨ o = 13 ∨ o = 16
    · rw [if_pos a2]; simp
    rw [if_neg a2]
    by_cases a3 : o = 6 ∨ o = 7 ∨ o = 8 ∨ o = 9 ∨ o = 10
    · rw [if_pos a3]; simp
    rw [if_neg a3]
    by_cases a4 : o = 11
    · rw [if_pos a4]; simp
    rw [if_neg a4]
    by_cases a5 : o = 12
    · rw [if_pos a5]; simp
    rw [if_neg a5]
    by_cases a6 : o = 14
    · rw [if_pos a6]; simp
    rw [if_neg a6]
    by_cases a7 : o = 17 ∨ o = 18 ∨ o = 19
    · rw [if_pos a7]; simp
    rw [if_neg a7]; simp
  omega
/-- What a run comes to is fine. -/
def FineR (reg0 : List Int) (now : Int) (n : Nat) : Rr → Prop
  | .ok m k => Fine reg0 now m ∧ k ≤ n
  | .err e k => k ≤ n ∧ (e = 11 → k = n) ∧ (e = 10 ∨ e = 11 ∨ e = 12)
theorem run_fine {reg0 : List Int} {p : Pg} {l : Lt} {now : Int} (hp : ∀ i ∈ p.code, Named i) : ∀ (f k : Nat) (m : Mc), Fine reg0 now m → FineR reg0 now (k + f) (runI p l now f k m)
  | 0, k, m, h => by
    rw [runI]
    cases hc : p.code[m.at_]? with
    | none => exact ⟨h, Nat.le_refl _⟩
    | some i => exact ⟨Nat.le_refl _, fun _ => rfl, .inr (.inl rfl)⟩
  | f + 1, k, m, h => by
    rw [runI]
    cases hc : p.code[m.at_]? with
    | none => exact ⟨h, by omega⟩
    | some i =>
      dsimp only
      have ho := one_fine (p := p) (l := l) h (hp i (List.mem_of_getElem? hc))
      cases hq : oneI p l now m i with
      | err e =>
        rw [hq] at ho
        have ho : e = 10 ∨ e = 12 := ho
        refine ⟨by omega, fun h11 => by omega, ?_⟩
        rcases ho with h | h
        · exact .inl h
        · exact .inr (.inr h)
      | halt m1 =>
        rw [hq] at ho
        exact ⟨ho, by omega⟩
      | go m1 =>
        rw [hq] at ho
        have := run_fine (l := l) hp f (k + 1) m1 ho
        rw [show k + 1 + f = k + (f + 1) by omega] at this
        exact this
end Go.Proofs.YtpodoiichpnpjaaDoor
