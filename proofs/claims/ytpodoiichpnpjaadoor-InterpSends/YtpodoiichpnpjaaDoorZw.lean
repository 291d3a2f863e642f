/-
  Runs, without memory: what is written down is of 64 bits, keys are keys; and what the program of sends comes to.
-/
import Derived.Test.YtpodoiichpnpjaaDoorZk
namespace Go.Proofs.YtpodoiichpnpjaaDoor
set_option linter.unusedVariables false
theorem w64_I64 (z : Int) : I64 (w64 z) := by
  unfold w64 I64
  rw [IntKind.wrap_i64]
  omega
theorem I64_0 : I64 0 := by unfold I64; omega
theorem I64_1 : I64 1 := by unfold I64; omega
theorem getD_I64 {l : List Int} (h : ∀ z ∈ l, I64 z) (i : Nat) : I64 (l.getD i 0) := by
  rw [List.getD_eq_getElem?_getD]
  cases hh : l[i]? with
  | none => exact I64_0
  | some z => exact h z (List.mem_of_getElem? hh)
theorem getLastD_I64 {l : List Int} (h : ∀ z ∈ l, I64 z) : I64 (l.getLastD 0) := by
  rcases List.eq_nil_or_concat l with rfl | ⟨a, z, rfl⟩
  · exact I64_0
  · simp at h ⊢
    exact h z (.inr rfl)
theorem dropLast_I64 {l : List Int} (h : ∀ z ∈ l, I64 z) : ∀ z ∈ l.dropLast, I64 z := fun z hz => h z (List.dropLast_subset l hz)
/-- What is written down is of 64 bits. -/
structure WideM (k : Nat) (m : Mc) : Prop where
  st : ∀ z ∈ m.st, I64 z
  reg : ∀ z ∈ m.reg, I64 z
  ev : ∀ e ∈ m.ev, I64 e.v
  sent : ∀ s ∈ m.sent, isKey s.to = true ∧ I64 s.kind ∧ I64 s.arg
  tm : ∀ t ∈ m.tm, isKey t.nm = true ∧ I64 t.due ∧ I64 t.per ∧ I64 t.kind
  few : m.ev.length ≤ k
/-- What a run stands on. -/
structure Base (p : Pg) (l : Lt) (now : Int) : Prop where
  names : ∀ k ∈ p.names, isKey k = true
  ok : l.ok
  formed : l.formed = true
  now : 0 ≤ now ∧ I64 now
def WideO (k : Nat) : Ou → Prop
  | .go m => WideM k m
  | .halt m => WideM k m
  | .err e => True
theorem name_key {p : Pg} (h : ∀ k ∈ p.names, isKey k = true) (i : Nat) (hi : p.names.getD i [] ≠ []) : isKey (p.names.getD i []) = true := by
  rw [List.getD_eq_getElem?_getD] at hi ⊢
  cases hh : p.names[i]? with
  | none => rw [hh] at hi; exact absurd rfl hi
  | some z => exact h z (List.mem_of_getElem? hh)
theorem name_in {p : Pg} (h : ∀ k ∈ p.names, isKey k = true) {i : Nat} (hi : i < p.names.length) : isKey (p.names.getD i []) = true := by
  rw [List.getD_eq_getElem?_getD, List.getElem?_eq_getElem hi]
  exact h _ (List.getElem_mem hi)
theorem WideM.more {k : Nat} {m : Mc} (h : WideM k m) : WideM (k + 1) m := ⟨h.st, h.reg, h.ev, h.sent, h.tm, by have := h.few; omega⟩
theorem val_I64 {p : Pg} {l : Lt} {now : Int} (hb : Base p l now) {reg : List Int} (hr : ∀ z ∈ reg, I64 z) {op : Nat} {arg x y : Int} (ha : I64 arg) : I64 (valI l now reg op arg x y) := by
  unfold valI
  by_cases c1 : op = 1
  · rw [if_pos c1]; exact ha
  rw [if_neg c1]
  by_cases c2 : op = 2
  · rw [if_pos c2]; exact getD_I64 hr _
  rw [if_neg c2]
  by_cases c4 : op = 4
  · rw [if_pos c4]; exact getD_I64 hb.ok.args _
  rw [if_neg c4]
  by_cases c5 : op = 5
  · rw [if_pos c5]; exact hb.ok.kind
  rw [if_neg c5]
  by_cases c6 : op = 6
  · rw [if_pos c6]; exact w64_I64 _
  rw [if_neg c6]
  by_cases c7 : op = 7
  · rw [if_pos c7]; exact w64_I64 _
  rw [if_neg c7]
  by_cases c8 : op = 8
  · rw [if_pos c8]; exact w64_I64 _
  rw [if_neg c8]
  by_cases c9 : op = 9
  · rw [if_pos c9]; split; exact I64_1; exact I64_0
  rw [if_neg c9]
  by_cases c10 : op = 10
  · rw [if_pos c10]; split; exact I64_1; exact I64_0
  rw [if_neg c10]
  by_cases c11 : op = 11
  · rw [if_pos c11]; split; exact I64_1; exact I64_0
  rw [if_neg c11]
  by_cases c22 : op = 22
  · rw [if_pos c22]; exact hb.now.2
  rw [if_neg c22]
  by_cases c23 : op = 23
  · rw [if_pos c23]; exact w64_I64 _
  rw [if_neg c23]
  exact I64_0
theorem mem_two {l : List Int} (h : ∀ z ∈ l, I64 z) {x y : Int} (hx : I64 x) (hy : I64 y) : ∀ z ∈ l ++ [x, y], I64 z := fun z hz => by
  rcases List.mem_append.1 hz with hz | hz
  · exact h z hz
  · simp at hz
    rcases hz with rfl | rfl
    · exact hx
    · exact hy
theorem act_wide {p : Pg} {l : Lt} {now : Int} {m : Mc} {k op g : Nat} {arg x y : Int} (hb : Base p l now) (h : WideM k m) (ha : I64 arg) (hx : I64 x) (hy : I64 y) (hn : op = 19 ∨ op = 20 → arg.toNat < p.names.length) : WideO (k + 1) (actI p l now m op g arg x y) := by
  unfold actI
  by_cases c0 : op = 0
  · rw [if_pos c0]; exact h.more
  rw [if_neg c0]
  by_cases c1 : op = 21
  · rw [if_pos c1]; trivial
  rw [if_neg c1]
  by_cases c2 : op = 3
  · rw [if_pos c2]
    refine ⟨h.st, fun z hz => ?_, fun e he => ?_, h.sent, h.tm, by have := h.few; simp; omega⟩
    · rcases List.mem_or_eq_of_mem_set hz with hz | rfl
      · exact h.reg z hz
      · exact hx
    · rcases List.mem_append.1 he with he | he
      · exact h.ev e he
      · simp at he; subst he; exact hx
  rw [if_neg c2]
  by_cases c3 : op = 12
  · rw [if_pos c3]
    exact { h.more with st := mem_two h.st hx hx }
  rw [if_neg c3]
  by_cases c4 : op = 14
  · rw [if_pos c4]
    exact { h.more with st := mem_two h.st hy hx }
  rw [if_neg c4]
  by_cases c5 : op = 15
  · rw [if_pos c5]; exact { h.more with }
  rw [if_neg c5]
  by_cases c6 : op = 16
  · rw [if_pos c6]; exact { h.more with }
  rw [if_neg c6]
  by_cases c7 : op = 17 ∨ op = 18
  · rw [if_pos c7]
    by_cases d : (if op = 17 then p.names.getD arg.toNat [] else l.fr) = []
    · rw [if_pos d]; exact h.more
    rw [if_neg d]
    by_cases d4 : 4 ≤ m.sent.length
    · rw [if_pos d4]; trivial
    rw [if_neg d4]
    refine { h.more with sent := fun s hs => ?_ }
    rcases List.mem_append.1 hs with hs | hs
    · exact h.sent s hs
    · simp at hs; subst hs
      refine ⟨?_, hx, hy⟩
      by_cases e17 : op = 17
      · rw [if_pos e17] at d
        show isKey (if op = 17 then _ else _) = true
        rw [if_pos e17]
        exact name_key hb.names _ d
      · rw [if_neg e17] at d
        show isKey (if op = 17 then _ else _) = true
        rw [if_neg e17]
        have := (formed_le hb.formed).1
        exact (isKey_iff _).2 ⟨by have := List.length_pos_iff.2 d; omega, this⟩
  rw [if_neg c7]
  by_cases c8 : op = 19
  · rw [if_pos c8]
    by_cases d : x < 0 ∨ 9223372036854775807 < now + x ∨ y < 1
    · rw [if_pos d]; trivial
    rw [if_neg d]
    refine { h.more with tm := fun t ht => ?_ }
    rcases List.mem_append.1 ht with ht | ht
    · exact h.tm t ht
    · simp at ht; subst ht
      exact ⟨name_in hb.names (hn (.inl c8)), by have := hb.now; unfold I64 at this ⊢; show _ ≤ now + x ∧ now + x ≤ _; omega, hy, hb.ok.kind⟩
  rw [if_neg c8]
  by_cases c9 : op = 20
  · rw [if_pos c9]
    refine { h.more with tm := fun t ht => ?_ }
    rcases List.mem_append.1 ht with ht | ht
    · exact h.tm t ht
    · simp at ht; subst ht
      exact ⟨name_in hb.names (hn (.inr c9)), I64_0, I64_0, I64_0⟩
  rw [if_neg c9]
  refine { h.more with st := ?_ }
  show ∀ z ∈ (if g = 1 then m.st ++ [_] else m.st), I64 z
  by_cases d : g = 1
  · rw [if_pos d]
    intro z hz
    rcases List.mem_append.1 hz with hz | hz
    · exact h.st z hz
    · simp at hz; subst hz; exact val_I64 hb h.reg ha
  · rw [if_neg d]; exact h.st
/-- An instruction of a formed program: its integer is of 64 bits, its name is there. -/
def Told (p : Pg) (i : In) : Prop := I64 i.arg ∧ (i.op.toNat = 19 ∨ i.op.toNat = 20 → i.arg.toNat < p.names.length)
theorem one_wide {p : Pg} {l : Lt} {now : Int} {m : Mc} {k : Nat} {i : In} (hb : Base p l now) (h : WideM k m) (hi : Told p i) : WideO (k + 1) (oneI p l now m i) := by
  unfold oneI
  split
  · trivial
  split
  · exact act_wide hb { h with st := dropLast_I64 (dropLast_I64 h.st) } hi.1 (getLastD_I64 (dropLast_I64 h.st)) (getLastD_I64 h.st) hi.2
  split
  · exact act_wide hb { h with st := dropLast_I64 h.st } hi.1 (getLastD_I64 h.st) I64_0 hi.2
  · exact act_wide hb { h with } hi.1 I64_0 I64_0 hi.2
theorem run_wide {p : Pg} {l : Lt} {now : Int} (hb : Base p l now) (hp : ∀ i ∈ p.code, Told p i) : ∀ (f k j : Nat) (m m' : Mc) (k' : Nat), WideM j m → runI p l now f k m = .ok m' k' → WideM (j + f) m'
  | 0, k, j, m, m', k', h, e => by
    rw [runI] at e
    cases hc : p.code[m.at_]? with
    | none => rw [hc] at e; cases e; exact h
    | some i => rw [hc] at e; cases e
  | f + 1, k, j, m, m', k', h, e => by
    rw [runI] at e
    cases hc : p.code[m.at_]? with
    | none => rw [hc] at e; cases e; exact { h with few := by have := h.few; omega }
    | some i =>
      rw [hc] at e
      dsimp only at e
      have ho := one_wide hb h (hp i (List.mem_of_getElem? hc))
      cases hq : oneI p l now m i with
      | err e' => rw [hq] at e; cases e
      | halt m1 =>
        rw [hq] at e ho
        cases e
        have ho : WideM (j + 1) m' := ho
        exact { ho with few := by have := ho.few; omega }
      | go m1 =>
        rw [hq] at e ho
        have := run_wide hb hp f (k + 1) (j + 1) m1 m' k' ho e
        exact { this with few := by have := this.few; omega }
theorem WideM.start {reg : List Int} (h : ∀ z ∈ reg, I64 z) : WideM 0 (Mc.start reg) := ⟨by simp [Mc.start], h, by simp [Mc.start], by simp [Mc.start], by simp [Mc.start], by simp [Mc.start]⟩
/-- A formed program's instructions. -/
theorem formed_named {p : Pg} (h : formedP p = true) (ho : OkP p) : (∀ i ∈ p.code, Named i) ∧ ∀ i ∈ p.code, Told p i := by
  obtain ⟨h1, h2, h3, h4⟩ := formed_parts h
  have key : ∀ i ∈ p.code, (i.op.toNat = 3 → i.arg ≤ 7) ∧ (i.op.toNat = 19 ∨ i.op.toNat = 20 → 0 ≤ i.arg ∧ i.arg ≤ (p.names.length : Int) - 1) := fun i hi => by
    have hk := h4 i hi
    unfold okI at hk
    refine ⟨fun e => ?_, fun e => ?_⟩
    · rw [e] at hk
      simp [words, mostI] at hk
      exact hk.2.2
    · rcases e with e | e
      · rw [e] at hk
        simp [words, mostI] at hk
        exact hk.2
      · rw [e] at hk
        simp [words, mostI] at hk
        exact hk.2
  refine ⟨fun i hi e => ?_, fun i hi => ⟨ho i hi, fun e => ?_⟩⟩
  · have := (key i hi).1 e; omega
  · have := (key i hi).2 e; omega
end Go.Proofs.YtpodoiichpnpjaaDoor
