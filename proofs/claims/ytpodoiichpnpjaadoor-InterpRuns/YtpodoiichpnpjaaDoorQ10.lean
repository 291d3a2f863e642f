import Derived.Test.YtpodoiichpnpjaaDoorQ08
/-
  Runs of programs that the laws of layer 18 write down.
-/
namespace Go.Proofs.YtpodoiichpnpjaaDoor
set_option linter.unusedVariables false
section
variable {p : Pg} {l : Lt} {now : Int} {f k : Nat} {m m' : Mc} {i : In}
theorem run_step (hc : p.code[m.at_]? = some i) (ho : oneI p l now m i = .go m') : runI p l now (f + 1) k m = runI p l now f (k + 1) m' := by
  rw [runI, hc]
  dsimp only
  rw [ho]
theorem run_halt (hc : p.code[m.at_]? = some i) (ho : oneI p l now m i = .halt m') : runI p l now (f + 1) k m = .ok m' (k + 1) := by
  rw [runI, hc]
  dsimp only
  rw [ho]
theorem run_err {e : Int} (hc : p.code[m.at_]? = some i) (ho : oneI p l now m i = .err e) : runI p l now (f + 1) k m = .err e (k + 1) := by
  rw [runI, hc]
  dsimp only
  rw [ho]
theorem run_end (hc : p.code[m.at_]? = none) : runI p l now f k m = .ok m k := by
  cases f with
  | zero => rw [runI, hc]
  | succ f => rw [runI, hc]
theorem run_out (hc : p.code[m.at_]? = some i) : runI p l now 0 k m = .err 11 k := by rw [runI, hc]
end
/-- Eight noughts. -/
def z8 : List Int := [0, 0, 0, 0, 0, 0, 0, 0]
/-- push x, push y, an operation, store 7. -/
def reckP (x y : Int) (op : Nat) : Pg := ⟨[], [⟨1, x⟩, ⟨1, y⟩, ⟨(op : Int), 0⟩, ⟨3, 7⟩]⟩
theorem reck_run (x y : Int) (op : Nat) (h : op = 6 ∨ op = 7 ∨ op = 8 ∨ op = 9 ∨ op = 10) (l : Lt) (now : Int) (f : Nat) : runI (reckP x y op) l now (f + 4) 0 (Mc.start z8) = .ok ⟨4, [], z8.set 7 (valI l now z8 op 0 x y), [⟨7, valI l now z8 op 0 x y⟩], [], []⟩ 4 := by
  have e1 : runI (reckP x y op) l now (f + 4) 0 (Mc.start z8) = runI (reckP x y op) l now (f + 3) 1 ⟨1, [x], z8, [], [], []⟩ := run_step (i := ⟨1, x⟩) rfl rfl
  have e2 : runI (reckP x y op) l now (f + 3) 1 ⟨1, [x], z8, [], [], []⟩ = runI (reckP x y op) l now (f + 2) 2 ⟨2, [x, y], z8, [], [], []⟩ := run_step (i := ⟨1, y⟩) rfl rfl
  have e3 : runI (reckP x y op) l now (f + 2) 2 ⟨2, [x, y], z8, [], [], []⟩ = runI (reckP x y op) l now (f + 1) 3 ⟨3, [valI l now z8 op 0 x y], z8, [], [], []⟩ := by
    refine run_step (i := ⟨(op : Int), 0⟩) rfl ?_
    rcases h with rfl | rfl | rfl | rfl | rfl <;> rfl
  have e4 : runI (reckP x y op) l now (f + 1) 3 ⟨3, [valI l now z8 op 0 x y], z8, [], [], []⟩ = runI (reckP x y op) l now f 4 ⟨4, [], z8.set 7 (valI l now z8 op 0 x y), [⟨7, valI l now z8 op 0 x y⟩], [], []⟩ := run_step (i := ⟨3, 7⟩) rfl rfl
  rw [e1, e2, e3, e4]
  exact run_end rfl
/-- push x, dup, not, swap, store 0, store 1. -/
def notP (x : Int) : Pg := ⟨[], [⟨1, x⟩, ⟨12, 0⟩, ⟨11, 0⟩, ⟨14, 0⟩, ⟨3, 0⟩, ⟨3, 1⟩]⟩
theorem not_run (x : Int) (l : Lt) (now : Int) (f : Nat) : runI (notP x) l now (f + 6) 0 (Mc.start z8) = .ok ⟨6, [], (z8.set 0 x).set 1 (if x = 0 then 1 else 0), [⟨0, x⟩, ⟨1, if x = 0 then 1 else 0⟩], [], []⟩ 6 := by
  have e1 : runI (notP x) l now (f + 6) 0 (Mc.start z8) = runI (notP x) l now (f + 5) 1 ⟨1, [x], z8, [], [], []⟩ := run_step (i := ⟨1, x⟩) rfl rfl
  have e2 : runI (notP x) l now (f + 5) 1 ⟨1, [x], z8, [], [], []⟩ = runI (notP x) l now (f + 4) 2 ⟨2, [x, x], z8, [], [], []⟩ := run_step (i := ⟨12, 0⟩) rfl rfl
  have e3 : runI (notP x) l now (f + 4) 2 ⟨2, [x, x], z8, [], [], []⟩ = runI (notP x) l now (f + 3) 3 ⟨3, [x, if x = 0 then 1 else 0], z8, [], [], []⟩ := run_step (i := ⟨11, 0⟩) rfl rfl
  have e4 : runI (notP x) l now (f + 3) 3 ⟨3, [x, if x = 0 then 1 else 0], z8, [], [], []⟩ = runI (notP x) l now (f + 2) 4 ⟨4, [if x = 0 then 1 else 0, x], z8, [], [], []⟩ := run_step (i := ⟨14, 0⟩) rfl rfl
  have e5 : runI (notP x) l now (f + 2) 4 ⟨4, [if x = 0 then 1 else 0, x], z8, [], [], []⟩ = runI (notP x) l now (f + 1) 5 ⟨5, [if x = 0 then 1 else 0], z8.set 0 x, [⟨0, x⟩], [], []⟩ := run_step (i := ⟨3, 0⟩) rfl rfl
  have e6 : runI (notP x) l now (f + 1) 5 ⟨5, [if x = 0 then 1 else 0], z8.set 0 x, [⟨0, x⟩], [], []⟩ = runI (notP x) l now f 6 ⟨6, [], (z8.set 0 x).set 1 (if x = 0 then 1 else 0), [⟨0, x⟩, ⟨1, if x = 0 then 1 else 0⟩], [], []⟩ := run_step (i := ⟨3, 1⟩) rfl rfl
  rw [e1, e2, e3, e4, e5, e6]
  exact run_end rfl
/-- A loop that counts down. -/
def loopP (n : Int) : Pg := ⟨[], [⟨1, n⟩, ⟨3, 0⟩, ⟨2, 0⟩, ⟨16, 9⟩, ⟨2, 0⟩, ⟨1, 1⟩, ⟨7, 0⟩, ⟨3, 0⟩, ⟨15, 2⟩]⟩
def loopM (v : Int) (E : List Ev) : Mc := ⟨2, [], z8.set 0 v, E, [], []⟩
section
variable {n : Int} {l : Lt} {now : Int}
theorem loop_a (f k : Nat) (v : Int) (E : List Ev) : runI (loopP n) l now (f + 1) k (loopM v E) = runI (loopP n) l now f (k + 1) ⟨3, [v], z8.set 0 v, E, [], []⟩ := run_step (i := ⟨2, 0⟩) rfl rfl
theorem loop_b0 (f k : Nat) (E : List Ev) : runI (loopP n) l now (f + 1) k ⟨3, [0], z8.set 0 0, E, [], []⟩ = .ok ⟨9, [], z8.set 0 0, E, [], []⟩ (k + 1) := by
  have e : runI (loopP n) l now (f + 1) k ⟨3, [0], z8.set 0 0, E, [], []⟩ = runI (loopP n) l now f (k + 1) ⟨9, [], z8.set 0 0, E, [], []⟩ := run_step (i := ⟨16, 9⟩) rfl rfl
  rw [e]
  exact run_end rfl
theorem loop_b (f k : Nat) (v : Int) (hv : v ≠ 0) (E : List Ev) : runI (loopP n) l now (f + 1) k ⟨3, [v], z8.set 0 v, E, [], []⟩ = runI (loopP n) l now f (k + 1) ⟨4, [], z8.set 0 v, E, [], []⟩ := by
  refine run_step (i := ⟨16, 9⟩) rfl ?_
  show Ou.go ⟨if v = 0 then 9 else 4, [], z8.set 0 v, E, [], []⟩ = _
  rw [if_neg hv]
theorem loop_c (f k : Nat) (v : Int) (E : List Ev) : runI (loopP n) l now (f + 1) k ⟨4, [], z8.set 0 v, E, [], []⟩ = runI (loopP n) l now f (k + 1) ⟨5, [v], z8.set 0 v, E, [], []⟩ := run_step (i := ⟨2, 0⟩) rfl rfl
theorem loop_d (f k : Nat) (v : Int) (E : List Ev) : runI (loopP n) l now (f + 1) k ⟨5, [v], z8.set 0 v, E, [], []⟩ = runI (loopP n) l now f (k + 1) ⟨6, [v, 1], z8.set 0 v, E, [], []⟩ := run_step (i := ⟨1, 1⟩) rfl rfl
theorem loop_e (f k : Nat) (v : Int) (E : List Ev) : runI (loopP n) l now (f + 1) k ⟨6, [v, 1], z8.set 0 v, E, [], []⟩ = runI (loopP n) l now f (k + 1) ⟨7, [w64 (v - 1)], z8.set 0 v, E, [], []⟩ := run_step (i := ⟨7, 0⟩) rfl rfl
theorem loop_f (f k : Nat) (v u : Int) (E : List Ev) : runI (loopP n) l now (f + 1) k ⟨7, [u], z8.set 0 v, E, [], []⟩ = runI (loopP n) l now f (k + 1) ⟨8, [], z8.set 0 u, E ++ [⟨0, u⟩], [], []⟩ := run_step (i := ⟨3, 0⟩) rfl rfl
theorem loop_g (f k : Nat) (u : Int) (E : List Ev) : runI (loopP n) l now (f + 1) k ⟨8, [], z8.set 0 u, E, [], []⟩ = runI (loopP n) l now f (k + 1) (loopM u E) := run_step (i := ⟨15, 2⟩) rfl rfl
theorem w64_small (z : Int) (h : -9223372036854775808 ≤ z ∧ z ≤ 9223372036854775807) : w64 z = z := by
  unfold w64
  rw [IntKind.wrap_i64]
  omega
theorem loop_run : ∀ (v : Nat) (hv : v < 256) (f k : Nat) (E : List Ev), (7 * v + 2 ≤ f → ∃ E', runI (loopP n) l now f k (loopM (v : Int) E) = .ok ⟨9, [], z8.set 0 0, E', [], []⟩ (k + (7 * v + 2)) ∧ E'.length = E.length + v) ∧ (f < 7 * v + 2 → runI (loopP n) l now f k (loopM (v : Int) E) = .err 11 (k + f))
  | 0, hv, f, k, E => by
    constructor
    · intro h
      obtain ⟨f, rfl⟩ : ∃ g, f = g + 2 := ⟨f - 2, by omega⟩
      exact ⟨E, by rw [loop_a]; exact loop_b0 _ _ _, rfl⟩
    · intro h
      match f, h with
      | 0, _ => exact run_out (i := ⟨2, 0⟩) rfl
      | 1, _ => rw [loop_a]; exact run_out (i := ⟨16, 9⟩) rfl
      | f + 2, h => omega
  | v + 1, hv, f, k, E => by
    have hv0 : ((v + 1 : Nat) : Int) ≠ 0 := by omega
    have hw : w64 (((v + 1 : Nat) : Int) - 1) = (v : Int) := by rw [w64_small _ (by omega)]; omega
    by_cases hf : 7 ≤ f
    · obtain ⟨f, rfl⟩ : ∃ g, f = g + 7 := ⟨f - 7, by omega⟩
      have e : runI (loopP n) l now (f + 7) k (loopM ((v + 1 : Nat) : Int) E) = runI (loopP n) l now f (k + 7) (loopM (v : Int) (E ++ [⟨0, (v : Int)⟩])) := by
        rw [loop_a, loop_b _ _ _ hv0, loop_c, loop_d, loop_e, hw, loop_f, loop_g]
      rw [e]
      obtain ⟨i1, i2⟩ := loop_run v (by omega) f (k + 7) (E ++ [⟨0, (v : Int)⟩])
      constructor
      · intro h
        obtain ⟨E', j1, j2⟩ := i1 (by omega)
        refine ⟨E', ?_, by rw [j2]; simp; omega⟩
        rw [j1]
        congr 1
        omega
      · intro h
        rw [i2 (by omega)]
        congr 1
        omega
    · refine ⟨fun h => by omega, fun _ => ?_⟩
      match f, hf with
      | 0, _ => exact run_out (i := ⟨2, 0⟩) rfl
      | 1, _ => rw [loop_a]; exact run_out (i := ⟨16, 9⟩) rfl
      | 2, _ => rw [loop_a, loop_b _ _ _ hv0]; exact run_out (i := ⟨2, 0⟩) rfl
      | 3, _ => rw [loop_a, loop_b _ _ _ hv0, loop_c]; exact run_out (i := ⟨1, 1⟩) rfl
      | 4, _ => rw [loop_a, loop_b _ _ _ hv0, loop_c, loop_d]; exact run_out (i := ⟨7, 0⟩) rfl
      | 5, _ => rw [loop_a, loop_b _ _ _ hv0, loop_c, loop_d, loop_e]; exact run_out (i := ⟨3, 0⟩) rfl
      | 6, _ => rw [loop_a, loop_b _ _ _ hv0, loop_c, loop_d, loop_e, loop_f]; exact run_out (i := ⟨15, 2⟩) rfl
      | f + 7, h => omega
end
/-- It ends behind just its steps, or by the budget. -/
theorem loop_whole (v : Nat) (hv : v < 256) (l : Lt) (now : Int) : (4 + 7 * v ≤ 500 → ∃ E', runI (loopP (v : Int)) l now 500 0 (Mc.start z8) = .ok ⟨9, [], z8, E', [], []⟩ (4 + 7 * v) ∧ E'.length = v + 1) ∧ (500 < 4 + 7 * v → runI (loopP (v : Int)) l now 500 0 (Mc.start z8) = .err 11 500) := by
  have e1 : runI (loopP (v : Int)) l now 500 0 (Mc.start z8) = runI (loopP (v : Int)) l now 499 1 ⟨1, [(v : Int)], z8, [], [], []⟩ := run_step (i := ⟨1, (v : Int)⟩) rfl rfl
  have e2 : runI (loopP (v : Int)) l now 499 1 ⟨1, [(v : Int)], z8, [], [], []⟩ = runI (loopP (v : Int)) l now 498 2 (loopM (v : Int) [⟨0, (v : Int)⟩]) := run_step (i := ⟨3, 0⟩) rfl rfl
  rw [e1, e2]
  obtain ⟨i1, i2⟩ := loop_run (n := (v : Int)) (l := l) (now := now) v hv 498 2 [⟨0, (v : Int)⟩]
  constructor
  · intro h
    obtain ⟨E', j1, j2⟩ := i1 (by omega)
    refine ⟨E', ?_, by rw [j2]; simp; omega⟩
    rw [j1]
    congr 1
    omega
  · intro h
    rw [i2 (by omega)]
/-- a pushes, and b drops. -/
def stackP (a b : Nat) : Pg := ⟨[], (List.range a).map (fun i : Nat => (⟨1, (i : Int)⟩ : In)) ++ List.replicate b ⟨13, 0⟩⟩
section
variable {a b : Nat} {l : Lt} {now : Int}
theorem stack_push {i : Nat} (h : i < a) : (stackP a b).code[i]? = some ⟨1, (i : Int)⟩ := by
  unfold stackP
  rw [List.getElem?_append_left (by simpa using h), List.getElem?_map, List.getElem?_range h]
  rfl
theorem stack_drop {i : Nat} (h : i < b) : (stackP a b).code[a + i]? = some ⟨13, 0⟩ := by
  unfold stackP
  rw [List.getElem?_append_right (by simp), List.length_map, List.length_range, Nat.add_sub_cancel_left, List.getElem?_replicate, if_pos h]
theorem stack_none : (stackP a b).code[a + b]? = none := by
  unfold stackP
  rw [List.getElem?_eq_none]
  simp
theorem one_push {p : Pg} (m : Mc) (x : Int) (h : m.st.length < 16) : oneI p l now m ⟨1, x⟩ = .go { m with at_ := m.at_ + 1, st := m.st ++ [x] } := by
  unfold oneI
  rw [if_neg (by show ¬ (m.st.length < 0 ∨ 16 < m.st.length - 0 + 1); omega)]
  rfl
theorem one_push_full {p : Pg} (m : Mc) (x : Int) (h : m.st.length = 16) : oneI p l now m ⟨1, x⟩ = .err 10 := by
  unfold oneI
  rw [if_pos (by show m.st.length < 0 ∨ 16 < m.st.length - 0 + 1; omega)]
theorem one_drop {p : Pg} (m : Mc) (h : 1 ≤ m.st.length) (h16 : m.st.length ≤ 16) : oneI p l now m ⟨13, 0⟩ = .go { m with at_ := m.at_ + 1, st := m.st.dropLast } := by
  unfold oneI
  rw [if_neg (by show ¬ (m.st.length < 1 ∨ 16 < m.st.length - 1 + 0); omega)]
  rfl
theorem one_drop_none {p : Pg} (m : Mc) (h : m.st = []) : oneI p l now m ⟨13, 0⟩ = .err 10 := by
  unfold oneI
  rw [if_pos (by show m.st.length < 1 ∨ 16 < m.st.length - 1 + 0; rw [h]; simp)]
/-- Behind j pushes. -/
theorem stack_pushes (reg : List Int) : ∀ (j : Nat), j ≤ a → j ≤ 16 → ∀ f, ∃ s : List Int, s.length = j ∧ runI (stackP a b) l now (f + j) 0 (Mc.start reg) = runI (stackP a b) l now f j ⟨j, s, reg, [], [], []⟩
  | 0, _, _, f => ⟨[], rfl, rfl⟩
  | j + 1, h1, h2, f => by
    obtain ⟨s, e1, e2⟩ := stack_pushes reg j (by omega) (by omega) (f + 1)
    refine ⟨s ++ [(j : Int)], by simp [e1], ?_⟩
    rw [show f + (j + 1) = f + 1 + j by omega, e2]
    exact run_step (i := ⟨1, (j : Int)⟩) (m := ⟨j, s, reg, [], [], []⟩) (stack_push (show j < a by omega)) (one_push _ _ (by show s.length < 16; omega))
/-- Behind d drops. -/
theorem stack_drops (reg : List Int) : ∀ (d : Nat) (s : List Int), d ≤ b → d ≤ s.length → s.length ≤ 16 → ∀ i f k, i + d ≤ b → ∃ s' : List Int, s'.length = s.length - d ∧ runI (stackP a b) l now (f + d) k ⟨a + i, s, reg, [], [], []⟩ = runI (stackP a b) l now f (k + d) ⟨a + (i + d), s', reg, [], [], []⟩
  | 0, s, _, _, _, i, f, k, _ => ⟨s, rfl, rfl⟩
  | d + 1, s, h1, h2, h3, i, f, k, h4 => by
    have e : runI (stackP a b) l now (f + (d + 1)) k ⟨a + i, s, reg, [], [], []⟩ = runI (stackP a b) l now (f + d) (k + 1) ⟨a + (i + 1), s.dropLast, reg, [], [], []⟩ := by
      rw [show f + (d + 1) = f + d + 1 by omega]
      exact run_step (i := ⟨13, 0⟩) (stack_drop (by omega)) (one_drop _ (by show 1 ≤ s.length; omega) h3)
    have hl : s.dropLast.length = s.length - 1 := by simp
    obtain ⟨s', j1, j2⟩ := stack_drops reg d s.dropLast (by omega) (by omega) (by omega) (i + 1) f (k + 1) (by omega)
    refine ⟨s', by omega, ?_⟩
    rw [show k + 1 + d = k + (d + 1) by omega, show i + 1 + d = i + (d + 1) by omega] at j2
    rw [e, j2]
/-- Just sixteen integers fit, and none is taken that isn't there. -/
theorem stack_whole (ha : a < 20) (hb : b < 20) (reg : List Int) : (16 < a → runI (stackP a b) l now 500 0 (Mc.start reg) = .err 10 17) ∧ (a ≤ 16 → a < b → runI (stackP a b) l now 500 0 (Mc.start reg) = .err 10 (2 * a + 1)) ∧ (a ≤ 16 → b ≤ a → ∃ m, runI (stackP a b) l now 500 0 (Mc.start reg) = .ok m (a + b)) := by
  refine ⟨fun h => ?_, fun h1 h2 => ?_, fun h1 h2 => ?_⟩
  · obtain ⟨s, e1, e2⟩ := stack_pushes (a := a) (b := b) (l := l) (now := now) reg 16 (by omega) (by omega) 484
    rw [show 500 = 484 + 16 from rfl, e2]
    exact run_err (i := ⟨1, ((16 : Nat) : Int)⟩) (f := 483) (stack_push h) (one_push_full _ _ e1)
  · obtain ⟨s, e1, e2⟩ := stack_pushes (a := a) (b := b) (l := l) (now := now) reg a (Nat.le_refl _) h1 (500 - a)
    rw [show 500 - a + a = 500 by omega] at e2
    obtain ⟨s', j1, j2⟩ := stack_drops (a := a) (b := b) (l := l) (now := now) reg a s (by omega) (by omega) (by omega) 0 (500 - a - a) a (by omega)
    rw [show 500 - a - a + a = 500 - a by omega] at j2
    rw [e2, show (⟨a, s, reg, [], [], []⟩ : Mc) = ⟨a + 0, s, reg, [], [], []⟩ from rfl, j2, show 500 - a - a = (499 - a - a) + 1 by omega]
    rw [run_err (i := ⟨13, 0⟩) (e := 10) (by show (stackP a b).code[a + (0 + a)]? = _; exact stack_drop (by omega)) (one_drop_none _ (List.eq_nil_of_length_eq_zero (by show s'.length = 0; omega)))]
    congr 1
    omega
  · obtain ⟨s, e1, e2⟩ := stack_pushes (a := a) (b := b) (l := l) (now := now) reg a (Nat.le_refl _) h1 (500 - a)
    rw [show 500 - a + a = 500 by omega] at e2
    obtain ⟨s', j1, j2⟩ := stack_drops (a := a) (b := b) (l := l) (now := now) reg b s (Nat.le_refl _) (by omega) (by omega) 0 (500 - a - b) a (by omega)
    rw [show 500 - a - b + b = 500 - a by omega] at j2
    refine ⟨⟨a + (0 + b), s', reg, [], [], []⟩, ?_⟩
    rw [e2, show (⟨a, s, reg, [], [], []⟩ : Mc) = ⟨a + 0, s, reg, [], [], []⟩ from rfl, j2]
    exact run_end (by show (stackP a b).code[a + (0 + b)]? = none; rw [Nat.zero_add]; exact stack_none)
end
/-- push delay, push period, remind, cancel. -/
def timeP (d q : Int) : Pg := ⟨[[120]], [⟨1, d⟩, ⟨1, q⟩, ⟨19, 0⟩, ⟨20, 0⟩]⟩
theorem time_run (d q : Int) (l : Lt) (now : Int) (reg : List Int) (f : Nat) : (d < 0 ∨ 9223372036854775807 < now + d ∨ q < 1 → runI (timeP d q) l now (f + 4) 0 (Mc.start reg) = .err 12 3) ∧ (¬ (d < 0 ∨ 9223372036854775807 < now + d ∨ q < 1) → runI (timeP d q) l now (f + 4) 0 (Mc.start reg) = .ok ⟨4, [], reg, [], [], [⟨[120], false, now + d, q, l.kind⟩, ⟨[120], true, 0, 0, 0⟩]⟩ 4) := by
  have e1 : runI (timeP d q) l now (f + 4) 0 (Mc.start reg) = runI (timeP d q) l now (f + 3) 1 ⟨1, [d], reg, [], [], []⟩ := run_step (i := ⟨1, d⟩) rfl rfl
  have e2 : runI (timeP d q) l now (f + 3) 1 ⟨1, [d], reg, [], [], []⟩ = runI (timeP d q) l now (f + 2) 2 ⟨2, [d, q], reg, [], [], []⟩ := run_step (i := ⟨1, q⟩) rfl rfl
  have e3 : oneI (timeP d q) l now ⟨2, [d, q], reg, [], [], []⟩ ⟨19, 0⟩ = if d < 0 ∨ 9223372036854775807 < now + d ∨ q < 1 then .err 12 else .go ⟨3, [], reg, [], [], [⟨[120], false, now + d, q, l.kind⟩]⟩ := rfl
  rw [e1, e2]
  constructor
  · intro h
    rw [if_pos h] at e3
    exact run_err (i := ⟨19, 0⟩) rfl e3
  · intro h
    rw [if_neg h] at e3
    rw [run_step (i := ⟨19, 0⟩) rfl e3, run_step (i := ⟨20, 0⟩) (m' := ⟨4, [], reg, [], [], [⟨[120], false, now + d, q, l.kind⟩, ⟨[120], true, 0, 0, 0⟩]⟩) rfl rfl]
    exact run_end rfl
end Go.Proofs.YtpodoiichpnpjaaDoor
