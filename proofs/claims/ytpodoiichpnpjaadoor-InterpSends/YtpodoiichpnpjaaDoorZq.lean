/-
  What holds of a run all the way; what a run answers. Without memory.
-/
import Derived.Test.YtpodoiichpnpjaaDoorZw
import Derived.Test.YtpodoiichpnpjaaDoorZk
namespace Go.Proofs.YtpodoiichpnpjaaDoor
set_option linter.unusedVariables false
/-- What holds behind k steps. -/
structure Sound (reg0 : List Int) (now : Int) (k : Nat) (m : Mc) : Prop where
  fine : Fine reg0 now m
  wide : WideM k m
  few : m.tm.length ≤ k
def TmO (n : Nat) : Ou → Prop
  | .go m => m.tm.length ≤ n
  | .halt m => m.tm.length ≤ n
  | .err e => True
theorem TmO.ite {n : Nat} {c : Prop} [Decidable c] {a b : Ou} (h1 : TmO n a) (h2 : TmO n b) : TmO n (if c then a else b) := by
  by_cases h : c
  · rw [if_pos h]; exact h1
  · rw [if_neg h]; exact h2
theorem act_tm {p : Pg} {l : Lt} {now : Int} {m : Mc} {op g : Nat} {arg x y : Int} : TmO (m.tm.length + 1) (actI p l now m op g arg x y) := by
  unfold actI
  repeat' (apply TmO.ite)
  all_goals (simp [TmO])
theorem one_tm {p : Pg} {l : Lt} {now : Int} {m : Mc} {i : In} : TmO (m.tm.length + 1) (oneI p l now m i) := by
  unfold oneI
  exact TmO.ite trivial (TmO.ite act_tm (TmO.ite act_tm act_tm))
def SoundO (reg0 : List Int) (now : Int) (k : Nat) : Ou → Prop
  | .go m => Sound reg0 now k m
  | .halt m => Sound reg0 now k m
  | .err e => e = 10 ∨ e = 12
theorem Sound.start {reg : List Int} {now : Int} (h : ∀ z ∈ reg, I64 z) : Sound reg now 0 (Mc.start reg) := ⟨Fine.start, WideM.start h, by simp [Mc.start]⟩
theorem Sound.step {reg0 : List Int} {p : Pg} {l : Lt} {now : Int} {k : Nat} {m : Mc} {i : In} (hb : Base p l now) (h : Sound reg0 now k m) (hn : Named i) (ht : Told p i) : SoundO reg0 now (k + 1) (oneI p l now m i) := by
  have h1 := one_fine (p := p) (l := l) h.fine hn
  have h2 := one_wide hb h.wide ht
  have h3 := one_tm (p := p) (l := l) (now := now) (m := m) (i := i)
  have hf := h.few
  cases ho : oneI p l now m i with
  | go m' => rw [ho] at h1 h2 h3; exact ⟨h1, h2, by have h3 : m'.tm.length ≤ m.tm.length + 1 := h3; omega⟩
  | halt m' => rw [ho] at h1 h2 h3; exact ⟨h1, h2, by have h3 : m'.tm.length ≤ m.tm.length + 1 := h3; omega⟩
  | err e => rw [ho] at h1; exact h1
/-- What a run answers. -/
structure Rsl where
  reg : List Int
  ev : List Ev
  sent : List Sn
  tm : List Tm
  k : Nat
def Rsl.none (k : Nat) : Rsl := ⟨z8, [], [], [], k⟩
def endI : Rr → Rsl × Int
  | .ok m k => (⟨m.reg, m.ev, m.sent, m.tm, k⟩, 0)
  | .err e k => (Rsl.none k, e)
/-- May it be run at all. -/
def mayI (p : Pg) (l : Lt) (now : Int) : Bool := formedP p && l.formed && decide (0 ≤ now)
def resI (p : Pg) (reg : List Int) (l : Lt) (now : Int) : Rsl × Int := if mayI p l now = true then endI (runI p l now 500 0 (Mc.start reg)) else (Rsl.none 0, 1)
end Go.Proofs.YtpodoiichpnpjaaDoor
