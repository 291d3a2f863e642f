import Derived.Lib.AppendZeros
import Derived.Test.YtngnenbidpojeaaGreatDoorV13
import Derived.Test.YtngnenbidpojeaaGreatDoorV14
import Derived.Test.YtngnenbidpojeaaGreatDoorV21
import Derived.Test.YtngnenbidpojeaaGreatDoorV22
/-
  Runs, without memory: what is written down is of 64 bits, keys are keys; and what the program of sends comes to.
-/
namespace Go.Proofs.YtngnenbidpojeaaGreatDoor
set_option linter.unusedVariables false
theorem w64_I64 (z : Int) : I64 (w64 z) := by
  unfold w64 I64
  rw [IntKind.wrap_i64]
  omega
theorem I64_0 : I64 0 := by unfold I64; omega
theorem I64_1 : I64 1 := by unfold I64; omega
theorem getD_I64 {l : List Int} (h : ∀ z ∈ l, I64 z) (i : Nat) : I64 (l.getD i 0) := by
  rw [List.getD_eq_getElem?_getD]
  cases hh : l[i]? with
  | none => exact I64_0
  | some z => exact h z (List.mem_of_getElem? hh)
theorem getLastD_I64 {l : List Int} (h : ∀ z ∈ l, I64 z) : I64 (l.getLastD 0) := by
  rcases List.eq_nil_or_concat l with rfl | ⟨a, z, rfl⟩
  · exact I64_0
  · simp at h ⊢
    exact h z (.inr rfl)
theorem dropLast_I64 {l : List Int} (h : ∀ z ∈ l, I64 z) : ∀ z ∈ l.dropLast, I64 z := fun z hz => h z (List.dropLast_subset l hz)
/-- What is written down is of 64 bits. -/
structure WideM (k : Nat) (m : Mc) : Prop where
  st : ∀ z ∈ m.st, I64 z
  reg : ∀ z ∈ m.reg, I64 z
  ev : ∀ e ∈ m.ev, I64 e.v
  sent : ∀ s ∈ m.sent, isKey s.to = true ∧ I64 s.kind ∧ I64 s.arg
  tm : ∀ t ∈ m.tm, isKey t.nm = true ∧ I64 t.due ∧ I64 t.per ∧ I64 t.kind
  few : m.ev.length ≤ k
/-- What a run stands on. -/
structure Base (p : Pg) (l : Lt) (now : Int) : Prop where
  names : ∀ k ∈ p.names, isKey k = true
  ok : l.ok
  formed : l.formed = true
  now : 0 ≤ now ∧ I64 now
def WideO (k : Nat) : Ou → Prop
  | .go m => WideM k m
  | .halt m => WideM k m
  | .err e => True
theorem name_key {p : Pg} (h : ∀ k ∈ p.names, isKey k = true) (i : Nat) (hi : p.names.getD i [] ≠ []) : isKey (p.names.getD i []) = true := by
  rw [List.getD_eq_getElem?_getD] at hi ⊢
  cases hh : p.names[i]? with
  | none => rw [hh] at hi; exact absurd rfl hi
  | some z => exact h z (List.mem_of_getElem? hh)
theorem name_in {p : Pg} (h : ∀ k ∈ p.names, isKey k = true) {i : Nat} (hi : i < p.names.length) : isKey (p.names.getD i []) = true := by
  rw [List.getD_eq_getElem?_getD, List.getElem?_eq_getElem hi]
  exact h _ (List.getElem_mem hi)
theorem WideM.more {k : Nat} {m : Mc} (h : WideM k m) : WideM (k + 1) m := ⟨h.st, h.reg, h.ev, h.sent, h.tm, by have := h.few; omega⟩
theorem val_I64 {p : Pg} {l : Lt} {now : Int} (hb : Base p l now) {reg : List Int} (hr : ∀ z ∈ reg, I64 z) {op : Nat} {arg x y : Int} (ha : I64 arg) : I64 (valI l now reg op arg x y) := by
  unfold valI
  by_cases c1 : op = 1
  · rw [if_pos c1]; exact ha
  rw [if_neg c1]
  by_cases c2 : op = 2
  · rw [if_pos c2]; exact getD_I64 hr _
  rw [if_neg c2]
  by_cases c4 : op = 4
  · rw [if_pos c4]; exact getD_I64 hb.ok.args _
  rw [if_neg c4]
  by_cases c5 : op = 5
  · rw [if_pos c5]; exact hb.ok.kind
  rw [if_neg c5]
  by_cases c6 : op = 6
  · rw [if_pos c6]; exact w64_I64 _
  rw [if_neg c6]
  by_cases c7 : op = 7
  · rw [if_pos c7]; exact w64_I64 _
  rw [if_neg c7]
  by_cases c8 : op = 8
  · rw [if_pos c8]; exact w64_I64 _
  rw [if_neg c8]
  by_cases c9 : op = 9
  · rw [if_pos c9]; split; exact I64_1; exact I64_0
  rw [if_neg c9]
  by_cases c10 : op = 10
  · rw [if_pos c10]; split; exact I64_1; exact I64_0
  rw [if_neg c10]
  by_cases c11 : op = 11
  · rw [if_pos c11]; split; exact I64_1; exact I64_0
  rw [if_neg c11]
  by_cases c22 : op = 22
  · rw [if_pos c22]; exact hb.now.2
  rw [if_neg c22]
  by_cases c23 : op = 23
  · rw [if_pos c23]; exact w64_I64 _
  rw [if_neg c23]
  exact I64_0
theorem mem_two {l : List Int} (h : ∀ z ∈ l, I64 z) {x y : Int} (hx : I64 x) (hy : I64 y) : ∀ z ∈ l ++ [x, y], I64 z := fun z hz => by
  rcases List.mem_append.1 hz with hz | hz
  · exact h z hz
  · simp at hz
    rcases hz with rfl | rfl
    · exact hx
    · exact hy
theorem act_wide {p : Pg} {l : Lt} {now : Int} {m : Mc} {k op g : Nat} {arg x y : Int} (hb : Base p l now) (h : WideM k m) (ha : I64 arg) (hx : I64 x) (hy : I64 y) (hn : op = 19 ∨ op = 20 → arg.toNat < p.names.length) : WideO (k + 1) (actI p l now m op g arg x y) := by
  unfold actI
  by_cases c0 : op = 0
  · rw [if_pos c0]; exact h.more
  rw [if_neg c0]
  by_cases c1 : op = 21
  · rw [if_pos c1]; trivial
  rw [if_neg c1]
  by_cases c2 : op = 3
  · rw [if_pos c2]
    refine ⟨h.st, fun z hz => ?_, fun e he => ?_, h.sent, h.tm, by have := h.few; simp; omega⟩
    · rcases List.mem_or_eq_of_mem_set hz with hz | rfl
      · exact h.reg z hz
      · exact hx
    · rcases List.mem_append.1 he with he | he
      · exact h.ev e he
      · simp at he; subst he; exact hx
  rw [if_neg c2]
  by_cases c3 : op = 12
  · rw [if_pos c3]
    exact { h.more with st := mem_two h.st hx hx }
  rw [if_neg c3]
  by_cases c4 : op = 14
  · rw [if_pos c4]
    exact { h.more with st := mem_two h.st hy hx }
  rw [if_neg c4]
  by_cases c5 : op = 15
  · rw [if_pos c5]; exact { h.more with }
  rw [if_neg c5]
  by_cases c6 : op = 16
  · rw [if_pos c6]; exact { h.more with }
  rw [if_neg c6]
  by_cases c7 : op = 17 ∨ op = 18
  · rw [if_pos c7]
    by_cases d : (if op = 17 then p.names.getD arg.toNat [] else l.fr) = []
    · rw [if_pos d]; exact h.more
    rw [if_neg d]
    by_cases d4 : 4 ≤ m.sent.length
    · rw [if_pos d4]; trivial
    rw [if_neg d4]
    refine { h.more with sent := fun s hs => ?_ }
    rcases List.mem_append.1 hs with hs | hs
    · exact h.sent s hs
    · simp at hs; subst hs
      refine ⟨?_, hx, hy⟩
      by_cases e17 : op = 17
      · rw [if_pos e17] at d
        show isKey (if op = 17 then _ else _) = true
        rw [if_pos e17]
        exact name_key hb.names _ d
      · rw [if_neg e17] at d
        show isKey (if op = 17 then _ else _) = true
        rw [if_neg e17]
        have := (formed_le hb.formed).1
        exact (isKey_iff _).2 ⟨by have := List.length_pos_iff.2 d; omega, this⟩
  rw [if_neg c7]
  by_cases c8 : op = 19
  · rw [if_pos c8]
    by_cases d : x < 0 ∨ 9223372036854775807 < now + x ∨ y < 1
    · rw [if_pos d]; trivial
    rw [if_neg d]
    refine { h.more with tm := fun t ht => ?_ }
    rcases List.mem_append.1 ht with ht | ht
    · exact h.tm t ht
    · simp at ht; subst ht
      exact ⟨name_in hb.names (hn (.inl c8)), by have := hb.now; unfold I64 at this ⊢; show _ ≤ now + x ∧ now + x ≤ _; omega, hy, hb.ok.kind⟩
  rw [if_neg c8]
  by_cases c9 : op = 20
  · rw [if_pos c9]
    refine { h.more with tm := fun t ht => ?_ }
    rcases List.mem_append.1 ht with ht | ht
    · exact h.tm t ht
    · simp at ht; subst ht
      exact ⟨name_in hb.names (hn (.inr c9)), I64_0, I64_0, I64_0⟩
  rw [if_neg c9]
  refine { h.more with st := ?_ }
  show ∀ z ∈ (if g = 1 then m.st ++ [_] else m.st), I64 z
  by_cases d : g = 1
  · rw [if_pos d]
    intro z hz
    rcases List.mem_append.1 hz with hz | hz
    · exact h.st z hz
    · simp at hz; subst hz; exact val_I64 hb h.reg ha
  · rw [if_neg d]; exact h.st
/-- An instruction of a formed program: its integer is of 64 bits, its name is there. -/
def Told (p : Pg) (i : In) : Prop := I64 i.arg ∧ (i.op.toNat = 19 ∨ i.op.toNat = 20 → i.arg.toNat < p.names.length)
theorem one_wide {p : Pg} {l : Lt} {now : Int} {m : Mc} {k : Nat} {i : In} (hb : Base p l now) (h : WideM k m) (hi : Told p i) : WideO (k + 1) (oneI p l now m i) := by
  unfold oneI
  split
  · trivial
  split
  · exact act_wide hb { h with st := dropLast_I64 (dropLast_I64 h.st) } hi.1 (getLastD_I64 (dropLast_I64 h.st)) (getLastD_I64 h.st) hi.2
  split
  · exact act_wide hb { h with st := dropLast_I64 h.st } hi.1 (getLastD_I64 h.st) I64_0 hi.2
  · exact act_wide hb { h with } hi.1 I64_0 I64_0 hi.2
theorem WideM.start {reg : List Int} (h : ∀ z ∈ reg, I64 z) : WideM 0 (Mc.start reg) := ⟨by simp [Mc.start], h, by simp [Mc.start], by simp [Mc.start], by simp [Mc.start], by simp [Mc.start]⟩
/-- A formed program's instructions. -/
theorem formed_named {p : Pg} (h : formedP p = true) (ho : OkP p) : (∀ i ∈ p.code, Named i) ∧ ∀ i ∈ p.code, Told p i := by
  obtain ⟨h1, h2, h3, h4⟩ := formed_parts h
  have key : ∀ i ∈ p.code, (i.op.toNat = 3 → i.arg ≤ 7) ∧ (i.op.toNat = 19 ∨ i.op.toNat = 20 → 0 ≤ i.arg ∧ i.arg ≤ (p.names.length : Int) - 1) := fun i hi => by
    have hk := h4 i hi
    unfold okI at hk
    refine ⟨fun e => ?_, fun e => ?_⟩
    · rw [e] at hk
      simp [words, mostI] at hk
      exact hk.2.2
    · rcases e with e | e
      · rw [e] at hk
        simp [words, mostI] at hk
        exact hk.2
      · rw [e] at hk
        simp [words, mostI] at hk
        exact hk.2
  refine ⟨fun i hi e => ?_, fun i hi => ⟨ho i hi, fun e => ?_⟩⟩
  · have := (key i hi).1 e; omega
  · have := (key i hi).2 e; omega
end Go.Proofs.YtngnenbidpojeaaGreatDoor
/-
  What holds of a run all the way; what a run answers. Without memory.
-/
namespace Go.Proofs.YtngnenbidpojeaaGreatDoor
set_option linter.unusedVariables false
/-- What holds behind k steps. -/
structure Sound (reg0 : List Int) (now : Int) (k : Nat) (m : Mc) : Prop where
  fine : Fine reg0 now m
  wide : WideM k m
  few : m.tm.length ≤ k
def TmO (n : Nat) : Ou → Prop
  | .go m => m.tm.length ≤ n
  | .halt m => m.tm.length ≤ n
  | .err e => True
theorem TmO.ite {n : Nat} {c : Prop} [Decidable c] {a b : Ou} (h1 : TmO n a) (h2 : TmO n b) : TmO n (if c then a else b) := by
  by_cases h : c
  · rw [if_pos h]; exact h1
  · rw [if_neg h]; exact h2
theorem act_tm {p : Pg} {l : Lt} {now : Int} {m : Mc} {op g : Nat} {arg x y : Int} : TmO (m.tm.length + 1) (actI p l now m op g arg x y) := by
  unfold actI
  repeat' (apply TmO.ite)
  all_goals (simp [TmO])
theorem one_tm {p : Pg} {l : Lt} {now : Int} {m : Mc} {i : In} : TmO (m.tm.length + 1) (oneI p l now m i) := by
  unfold oneI
  exact TmO.ite trivial (TmO.ite act_tm (TmO.ite act_tm act_tm))
def SoundO (reg0 : List Int) (now : Int) (k : Nat) : Ou → Prop
  | .go m => Sound reg0 now k m
  | .halt m => Sound reg0 now k m
  | .err e => e = 10 ∨ e = 12
theorem Sound.start {reg : List Int} {now : Int} (h : ∀ z ∈ reg, I64 z) : Sound reg now 0 (Mc.start reg) := ⟨Fine.start, WideM.start h, by simp [Mc.start]⟩
theorem Sound.step {reg0 : List Int} {p : Pg} {l : Lt} {now : Int} {k : Nat} {m : Mc} {i : In} (hb : Base p l now) (h : Sound reg0 now k m) (hn : Named i) (ht : Told p i) : SoundO reg0 now (k + 1) (oneI p l now m i) := by
  have h1 := one_fine (p := p) (l := l) h.fine hn
  have h2 := one_wide hb h.wide ht
  have h3 := one_tm (p := p) (l := l) (now := now) (m := m) (i := i)
  have hf := h.few
  cases ho : oneI p l now m i with
  | go m' => rw [ho] at h1 h2 h3; exact ⟨h1, h2, by have h3 : m'.tm.length ≤ m.tm.length + 1 := h3; omega⟩
  | halt m' => rw [ho] at h1 h2 h3; exact ⟨h1, h2, by have h3 : m'.tm.length ≤ m.tm.length + 1 := h3; omega⟩
  | err e => rw [ho] at h1; exact h1
/-- What a run answers. -/
structure Rsl where
  reg : List Int
  ev : List Ev
  sent : List Sn
  tm : List Tm
  k : Nat
def Rsl.none (k : Nat) : Rsl := ⟨z8_N, [], [], [], k⟩
def endI : Rr → Rsl × Int
  | .ok m k => (⟨m.reg, m.ev, m.sent, m.tm, k⟩, 0)
  | .err e k => (Rsl.none k, e)
/-- May it be run at all. -/
def mayI (p : Pg) (l : Lt) (now : Int) : Bool := formedP p && l.formed && decide (0 ≤ now)
def resI (p : Pg) (reg : List Int) (l : Lt) (now : Int) : Rsl × Int := if mayI p l now = true then endI (runI p l now 500 0 (Mc.start reg)) else (Rsl.none 0, 1)
end Go.Proofs.YtngnenbidpojeaaGreatDoor
/-
  A turn, without memory: what an actor becomes, and what is told of it.
-/
namespace Go.Proofs.YtngnenbidpojeaaGreatDoor
set_option maxRecDepth 100000
set_option linter.unusedVariables false
/-- May a letter be sent there. -/
def okSnd (o : Ob) (to : List UInt8) : Bool := isKey to && decide (o.L.length ≠ 32) && (hasK o.K to || decide (o.K.length ≠ 64))
theorem okSnd_iff (o : Ob) (to : List UInt8) : okSnd o to = true ↔ isKey to = true ∧ o.L.length ≠ 32 ∧ (hasK o.K to = true ∨ o.K.length ≠ 64) := by
  simp [okSnd, and_assoc]
/-- All of them are sent, or one is refused. -/
def sendL : Ob → List Sn → Option Ob
  | o, [] => some o
  | o, s :: r => if okSnd o s.to = true then sendL (sendO o s.to s.kind [s.arg]) r else none
theorem sendL_snoc (s : Sn) : ∀ (l : List Sn) (o : Ob), sendL o (l ++ [s]) = (sendL o l).bind fun q => if okSnd q s.to = true then some (sendO q s.to s.kind [s.arg]) else none
  | [], o => by simp [sendL]
  | x :: l, o => by
    rw [List.cons_append, sendL, sendL]
    split
    · exact sendL_snoc s l _
    · rfl
theorem sendL_none (B : List Sn) : ∀ (l : List Sn) (o : Ob), sendL o l = none → sendL o (l ++ B) = none
  | [], o, h => by simp [sendL] at h
  | x :: l, o, h => by
    rw [List.cons_append, sendL]
    rw [sendL] at h
    split
    · rename_i hc
      rw [if_pos hc] at h
      exact sendL_none B l _ h
    · rfl
theorem snd_of_ok {o : Ob} {to : List UInt8} (h : okSnd o to = true) (kind arg : Int) : sndO o to kind [arg] = sendO o to kind [arg] := by
  obtain ⟨h1, h2, h3⟩ := (okSnd_iff o to).1 h
  unfold sndO
  rw [if_pos ⟨h1, by simp, h2, h3⟩]
theorem sendL_good : ∀ (l : List Sn) (o q : Ob) (B : Nat), GoodO o → SerB o B → (∀ s ∈ l, I64 s.kind ∧ I64 s.arg) → B + l.length < 4611686018427387904 → sendL o l = some q → GoodO q ∧ SerB q (B + l.length)
  | [], o, q, B, g, hB, hs, h6, h => by simp [sendL] at h; subst h; exact ⟨g, hB⟩
  | x :: l, o, q, B, g, hB, hs, h6, h => by
    rw [sendL] at h
    split at h
    · rename_i hc
      have hx := hs x (by simp)
      rw [List.length_cons] at h6
      have g1 := g.snd hB (by omega) (to := x.to) hx.1 (args := [x.arg]) (by simp; exact hx.2)
      have b1 := hB.snd x.to x.kind [x.arg]
      rw [snd_of_ok hc] at g1 b1
      have := sendL_good l _ q (B + 1) g1 b1 (fun s h => hs s (by simp [h])) (by omega) h
      refine ⟨this.1, ?_⟩
      have e : B + (x :: l).length = B + 1 + l.length := by simp; omega
      rw [e]
      exact this.2
    · cases h
/-- What is told of a turn. -/
structure Oc where
  done : Bool
  poi : Bool
  failed : Int
  steps : Nat
  tm : List Tm
def ocN : Oc := ⟨false, false, 0, 0, []⟩
/-- What an actor is behind a run of its first letter, what is told, and the error. -/
def takeR (a : Ac) (x : Lt) (t : List Lt) (R : Rsl) (e : Int) : Ac × Oc × Int :=
  if e = 0 then
    match sendL a.out R.sent with
    | none => (a, ocN, 8)
    | some o => (⟨addR a.j (R.ev.map ofE), t, o, 0, a.poi⟩, ⟨true, false, 0, R.k, R.tm⟩, 0)
  else if a.tries + 1 < 3 then (⟨a.j, a.inb, a.out, a.tries + 1, a.poi⟩, ⟨false, false, e, R.k, []⟩, 0)
  else if a.poi.length = 8 then (a, ocN, 8)
  else (⟨a.j, t, a.out, 0, a.poi ++ [x]⟩, ⟨false, true, e, R.k, []⟩, 0)
/-- A turn. -/
def takeA (p : Pg) (a : Ac) (now : Int) : Ac × Oc × Int :=
  if soundA a.tries a.inb.length a.poi = true ∧ formedP p = true ∧ 0 ≤ now then
    match a.inb with
    | [] => (a, ocN, 5)
    | x :: t => takeR a x t (resI p (stJ a.j) x now).1 (resI p (stJ a.j) x now).2
  else (a, ocN, 1)
/-- What comes of any run. -/
structure FitR (R : Rsl) : Prop where
  ev : R.ev.length ≤ 900
  tm : R.tm.length ≤ 900
  sent : R.sent.length ≤ 4
  k : R.k ≤ 500
  evs : ∀ e ∈ R.ev, e.r ≤ 7 ∧ I64 e.v
  snd : ∀ s ∈ R.sent, s.to.length ≤ 40 ∧ I64 s.kind ∧ I64 s.arg
theorem fit_none (k : Nat) (hk : k ≤ 500) : FitR (Rsl.none k) := ⟨by simp [Rsl.none], by simp [Rsl.none], by simp [Rsl.none], hk, by simp [Rsl.none], by simp [Rsl.none]⟩
theorem ofE_64 {l : List Ev} (h : ∀ e ∈ l, e.r ≤ 7 ∧ I64 e.v) : ∀ e ∈ l.map ofE, E64 e := fun e he => by
  obtain ⟨y, hy, rfl⟩ := List.mem_map.1 he
  have := h y hy
  exact ⟨by show I64 (y.r : Int); unfold I64; omega, this.2⟩
/-- How far an actor has come: its serials, its version. -/
structure Lim (a : Ac) (B V : Nat) : Prop where
  ser : SerB a.out B
  ver : a.j.ver ≤ V
end Go.Proofs.YtngnenbidpojeaaGreatDoor
/-
  slices.Concat, of letters.
-/
namespace Go.Proofs.YtngnenbidpojeaaGreatDoor
set_option maxRecDepth 100000
open Go.RowKit
set_option linter.unusedVariables false
/-- Slices that read as lists of letters. -/
def Lsts (w : World) (Ls : List (Value × List Lq)) : Prop := ∀ x ∈ Ls, RowQ w x.1 x.2 ∧ x.1.oneCell' = true
def lens (Ls : List (Value × List Lq)) : Nat := (Ls.map fun x => x.2.length).sum
def cats (Ls : List (Value × List Lq)) : List Lq := Ls.flatMap fun x => x.2
theorem lens_cats (Ls : List (Value × List Lq)) : (cats Ls).length = lens Ls := by simp [cats, lens, List.length_flatMap]
theorem lens_take_succ {Ls : List (Value × List Lq)} {j : Nat} {x : Value × List Lq} (hx : Ls[j]? = some x) : lens (Ls.take (j + 1)) = lens (Ls.take j) + x.2.length := by
  unfold lens
  rw [List.take_add_one, hx]
  simp
theorem cats_take_succ {Ls : List (Value × List Lq)} {j : Nat} {x : Value × List Lq} (hx : Ls[j]? = some x) : cats (Ls.take (j + 1)) = cats (Ls.take j) ++ x.2 := by
  unfold cats
  rw [List.take_add_one, hx]
  simp
theorem lens_take_le (Ls : List (Value × List Lq)) (j : Nat) : lens (Ls.take j) ≤ lens Ls := by
  have : lens Ls = lens (Ls.take j) + lens (Ls.drop j) := by
    unfold lens
    rw [← List.sum_append, ← List.map_append, List.take_append_drop]
  omega
theorem CQ_app (A B : List Lq) : CQ (A ++ B) = CQ A ++ CQ B := by simp [CQ]
set_option maxHeartbeats 1000000 in
theorem grow128 (w : World) (n : Nat) (hn : n ≤ 1000000) : Calls Tryz.prog 128 #[.slice none 0 0, .int .i64 (n : Int)] w fun e w' => ∃ v, e = .returned v ∧ OwnsR 81 4 w' v (CQ []) ∧ Fresh w v ∧ Kept [] w w' := by
  by_cases h0 : n = 0
  · subst h0
    go_enter Tryz.func128, Tryz.ntmps128
    go_wp2
    go_ret
    exact ⟨_, rfl, OwnsR.nil _ _ _, fun g hg => by simp [Value.ownBlock] at hg, Kept.refl [] w⟩
  · obtain ⟨i0, hi, hz0, hz1, hz2⟩ := info_parts rt28.info
    have hrun := Lib.run_append_nil_zeros (P := Tryz.prog) w 26 3 26 81 i0 (.agg #[.string ⟨#[]⟩, .int .u64 0, .int .i64 0, .slice none 0 0]) .i64 .i64 rt28.under Tryz.underlying3 hi hz0 n (by omega) (by rw [hz1]; omega) (by omega) (by rw [hz2]; omega)
    have hge := grownCap_ge w n 0 81
    have hle := grownCap_le_maxLen w n 0 81 (by unfold maxLen; omega)
    generalize grownCap w n 0 81 = cp at hrun hge hle
    have hpos : 0 < n := by omega
    obtain ⟨w1, hw1⟩ : ∃ w1, w1 = w.drew.alloc (.cells (Builtin.zeroCells (Value.agg #[.string ⟨#[]⟩, .int .u64 0, .int .i64 0, .slice none 0 0]).cells n ++ Builtin.zeroCells (Value.agg #[.string ⟨#[]⟩, .int .u64 0, .int .i64 0, .slice none 0 0]).cells (cp - n)) 81) := ⟨_, rfl⟩
    have ho : OwnsR 81 4 w1 (.slice (some ⟨w.heap.size, 0, none⟩) 0 cp) [] := by
      rw [hw1]
      refine World.ownsRow_made (base := 0) (e := 81) (size := 4) w.drew _ cp (Nat.zero_le _) hle ?_
      simp [Builtin.zeroCells, Value.cells]
      omega
    have kk : Kept [] w w1 := by rw [hw1]; exact (Kept.refl [] w).drew.alloc _
    rw [← hw1] at hrun
    have Hf := Hid.mk (And.intro ho (And.intro (fun g hg => by simp [Value.ownBlock] at hg; omega : Fresh w (.slice (some ⟨w.heap.size, 0, none⟩) 0 cp)) kk))
    unfold maxLen at hle
    clear hw1 ho kk h0
    have hs1 := fun W => run_cutH rt28 W none 0 0 0 (Nat.le_refl 0)
    have hs2 := fun W => run_cutH rt28 W (some ⟨w.heap.size, 0, none⟩) n cp 0 (Nat.zero_le _)
    have e1 : cutA none 0 0 4 = none := rfl
    have e2 : cutA (some ⟨w.heap.size, 0, none⟩) cp 0 4 = some ⟨w.heap.size, 0, none⟩ := by unfold cutA; split <;> rfl
    rw [e1] at hs1
    rw [e2] at hs2
    clear e1 e2
    go_enter Tryz.func128, Tryz.ntmps128
    go_wp2_with (at_builtin; refine Lib.wpList_append_run _ rfl _ _ 26 3 rfl _ _ rfl rfl _ _ hrun ?_)
    go_ret
    exact ⟨_, rfl, Hf.out⟩
section
variable {w : World}
set_option maxHeartbeats 2000000 in
theorem concat96 (a : Option Addr) (m c : Nat) (Ls : List (Value × List Lq)) (hm : Hid (m = Ls.length)) (hrow : ReadsR 1 w (.slice a m c) (Ls.map fun x => [x.1])) (hL : Hid (Lsts w Ls)) (hml : m ≤ 100000) (hb : Hid (lens Ls ≤ 900000)) :
    Calls Tryz.prog 96 #[.slice a m c] w fun e w' => ∃ v, e = .returned v ∧ OwnsR 81 4 w' v (CQ (cats Ls)) ∧ Fresh w v ∧ Kept [] w w' := by
  obtain ⟨S, hS⟩ : ∃ S : Nat → Nat, Hid (∀ j, S j = lens (Ls.take j)) := ⟨fun j => lens (Ls.take j), Hid.mk fun _ => rfl⟩
  have HS0 : Hid (S 0 = 0) := Hid.mk (by rw [hS.out]; rfl)
  have HSb : Hid (∀ j, S j ≤ 900000) := Hid.mk fun j => by rw [hS.out]; exact Nat.le_trans (lens_take_le _ _) hb.out
  have HSs : Hid (∀ j x, Ls[j]? = some x → S (j + 1) = S j + x.2.length) := Hid.mk fun j x hx => by rw [hS.out, hS.out]; exact lens_take_succ hx
  go_enter Tryz.func96, Tryz.ntmps96
  go_wp2_with fail
  go_loopw [3, 11] (fun v i wr => ∃ j : Nat, i = .int .i64 (j : Int) ∧ j ≤ m ∧ v = .int .i64 (S j : Int) ∧ w = wr) (fun _ i _ => m - (intOf i).toNat)
  case atStart => exact ⟨0, rfl, by omega, by rw [HS0.out]; rfl, rfl⟩
  case round =>
    obtain ⟨j, rfl, hj, rfl, rfl⟩ := hrel
    have hbj := HSb.out j
    by_cases hlt : j < m
    · obtain ⟨x, hx⟩ : ∃ x, Ls[j]? = some x := ⟨_, List.getElem?_eq_getElem (by have := hm.out; omega)⟩
      obtain ⟨b, o, c', e, hcc⟩ := hrow.at j [x.1] (by rw [List.getElem?_map, hx]; rfl)
      rw [List.length_map, ← hm.out] at e
      injection e with e _ e2
      subst e e2
      have hcell := hcc 0 x.1 rfl
      rw [Nat.mul_one, Nat.add_zero] at hcell
      obtain ⟨ax, cx, hfx, -⟩ := (hL.out x (List.mem_of_getElem? hx)).1.form
      rw [hfx] at hcell
      have HN := Hid.mk (HSs.out j x hx)
      have hbn := HSb.out (j + 1)
      generalize x.2.length = xl at HN hcell
      have hxb : S j + xl ≤ 900000 := by rw [← HN.out]; exact hbn
      clear hx hcc hfx hrow hbn
      go_wp2
      go_roundw
      case rel => exact ⟨j + 1, by go_num, by omega, by rw [HN.out]; go_num, trivial⟩
      case measure => simp [intOf]; omega
    · obtain rfl : j = m := by omega
      have hg := grow128 w (S j) (by omega)
      generalize S j = tot at hg hbj
      clear HS0 HSb HSs hlt
      go_wp2_with fail
      refine hg.mono ?_
      rintro e w1 ⟨v1, rfl, ho1, hf1, k1⟩
      clear hg
      go_wp2_with fail
      go_loopw [6, 27] (fun u i wr => ∃ p : Nat, i = .int .i64 (p : Int) ∧ p ≤ j ∧ OwnsR 81 4 wr u (CQ (cats (Ls.take p))) ∧ Fresh w u ∧ Kept [] w wr) (fun _ i _ => j - (intOf i).toNat)
      case atStart => exact ⟨0, rfl, by omega, ho1, hf1, k1⟩
      case round =>
        clear ho1 hf1 k1
        obtain ⟨p, rfl, hp, ho, hf, k⟩ := hrel
        by_cases hlt : p < j
        · obtain ⟨x, hx⟩ : ∃ x, Ls[p]? = some x := ⟨_, List.getElem?_eq_getElem (by have := hm.out; omega)⟩
          obtain ⟨b, o, c', e, hcc⟩ := (hrow.kept k (by simp)).at p [x.1] (by rw [List.getElem?_map, hx]; rfl)
          rw [List.length_map, ← hm.out] at e
          injection e with e _ e2
          subst e e2
          have hcell := hcc 0 x.1 rfl
          rw [Nat.mul_one, Nat.add_zero] at hcell
          have hxr := (hL.out x (List.mem_of_getElem? hx)).1
          have hl1 : (cats (Ls.take p)).length + x.2.length ≤ 900000 := by
            rw [lens_cats, ← lens_take_succ hx]
            exact Nat.le_trans (lens_take_le _ _) hb.out
          obtain ⟨ad, c4, w4, hrun, ho4, k4, hN4⟩ := run_appendR rt28 wr 26 u6 (CQ (cats (Ls.take p))) ho x.1 (CQ x.2) (CQ_wide _) (hxr.kept k (by simp)) (by rw [CQ_length, CQ_length]; omega)
          rw [← CQ_app, ← cats_take_succ hx] at ho4
          rw [CQ_length, CQ_length] at hrun ho4 hN4
          have Hall := Hid.mk (And.intro ho4 (And.intro (fun g hg => by
            rcases hN4 g hg with h | h
            · exact hf g h
            · exact Nat.le_trans k.size h : Fresh w (.slice ad ((cats (Ls.take p)).length + x.2.length) c4)) (k.grown k4 (fun y hy => .inr (hf y hy)) : Kept [] w w4)))
          generalize (cats (Ls.take p)).length + x.2.length = tl at *
          obtain ⟨ax, cx, hfx, -⟩ := hxr.form
          rw [hfx] at hcell hrun
          clear ho4 k4 hN4 ho hf k hx hcc hxr hrow hfx
          generalize x.2.length = xl at *
          go_wp2_with (at_builtin; refine wpList_append_run 26 26 _ _ rfl rfl _ _ rfl rfl _ _ hrun ?_)
          go_roundw
          case rel => exact ⟨p + 1, by go_num, by omega, Hall.out⟩
          case measure => simp [intOf]; omega
        · obtain rfl : p = j := by omega
          rw [List.take_of_length_le (by have := hm.out; omega)] at ho
          have Hall := Hid.mk (And.intro ho (And.intro hf k))
          clear ho hf k
          go_wp2
          go_ret
          exact ⟨_, rfl, Hall.out⟩
end
end Go.Proofs.YtngnenbidpojeaaGreatDoor
