/-
  The run of the program that sends: what goes out, and the fifth letter.
-/
import Derived.Test.YtpodoiichpnpjaaDoorZk
namespace Go.Proofs.YtpodoiichpnpjaaDoor
set_option linter.unusedVariables false
/-- The operation of the i-th letter. -/
def sOp (reply : Bool) (i : Nat) : Int := if reply = true ∧ i % 2 = 1 then 18 else 17
def sTo (reply : Bool) (i : Nat) : List UInt8 := if reply = true ∧ i % 2 = 1 then [109, 101] else [98]
/-- Three instructions a letter. -/
def sCode (kind : Nat → Int) (reply : Bool) (n : Nat) : List In := (List.range n).flatMap fun i => [⟨1, kind i⟩, ⟨4, ((i % 4 : Nat) : Int)⟩, ⟨sOp reply i, 0⟩]
def sendsP (kind : Nat → Int) (reply : Bool) (n : Nat) : Pg := ⟨[[98]], sCode kind reply n⟩
def sSent (kind : Nat → Int) (reply : Bool) (args : List Int) (n : Nat) : List Sn := (List.range n).map fun i => ⟨sTo reply i, kind i, args.getD (i % 4) 0⟩
theorem sCode_length (kind : Nat → Int) (reply : Bool) (n : Nat) : (sCode kind reply n).length = 3 * n := by
  induction n with
  | zero => rfl
  | succ n ih =>
    have e : sCode kind reply (n + 1) = sCode kind reply n ++ [⟨1, kind n⟩, ⟨4, ((n % 4 : Nat) : Int)⟩, ⟨sOp reply n, 0⟩] := by simp [sCode, List.range_succ]
    rw [e, List.length_append, ih]
    simp
    omega
theorem sCode_at (kind : Nat → Int) (reply : Bool) (n i : Nat) (h : i < n) : (sCode kind reply n)[3 * i]? = some ⟨1, kind i⟩ ∧ (sCode kind reply n)[3 * i + 1]? = some ⟨4, ((i % 4 : Nat) : Int)⟩ ∧ (sCode kind reply n)[3 * i + 2]? = some ⟨sOp reply i, 0⟩ := by
  induction n with
  | zero => omega
  | succ n ih =>
    have e : sCode kind reply (n + 1) = sCode kind reply n ++ [⟨1, kind n⟩, ⟨4, ((n % 4 : Nat) : Int)⟩, ⟨sOp reply n, 0⟩] := by simp [sCode, List.range_succ]
    have hl := sCode_length kind reply n
    rcases Nat.lt_or_ge i n with h1 | h1
    · obtain ⟨a, b, c⟩ := ih h1
      rw [e, List.getElem?_append_left (by omega), List.getElem?_append_left (by omega), List.getElem?_append_left (by omega)]
      exact ⟨a, b, c⟩
    · have : i = n := by omega
      subst this
      rw [e, List.getElem?_append_right (by omega), List.getElem?_append_right (by omega), List.getElem?_append_right (by omega), hl]
      rw [show 3 * i - 3 * i = 0 by omega, show 3 * i + 1 - 3 * i = 1 by omega, show 3 * i + 2 - 3 * i = 2 by omega]
      exact ⟨rfl, rfl, rfl⟩
section
variable {kind : Nat → Int} {reply : Bool} {n : Nat} {ser : Nat} {k0 now : Int} {args reg : List Int}
theorem one_send (i : Nat) (x y : Int) (a : Nat) (S : List Sn) (E : List Ev) (T : List Tm) : oneI (sendsP kind reply n) ⟨[109, 101], ser, k0, args⟩ now ⟨a, [x, y], reg, E, S, T⟩ ⟨sOp reply i, 0⟩ = if 4 ≤ S.length then .err 12 else .go ⟨a + 1, [], reg, E, S ++ [⟨sTo reply i, x, y⟩], T⟩ := by
  unfold sOp sTo
  by_cases h : reply = true ∧ i % 2 = 1
  · rw [if_pos h, if_pos h]; rfl
  · rw [if_neg h, if_neg h]; rfl
/-- Behind j letters. -/
theorem sends_run : ∀ (j : Nat), j ≤ n → j ≤ 4 → ∀ f, runI (sendsP kind reply n) ⟨[109, 101], ser, k0, args⟩ now (f + 3 * j) 0 (Mc.start reg) = runI (sendsP kind reply n) ⟨[109, 101], ser, k0, args⟩ now f (3 * j) ⟨3 * j, [], reg, [], sSent kind reply args j, []⟩
  | 0, _, _, f => rfl
  | j + 1, h1, h2, f => by
    obtain ⟨c1, c2, c3⟩ := sCode_at kind reply n j (by omega)
    have e := sends_run j (by omega) (by omega) (f + 3)
    rw [show f + 3 * (j + 1) = f + 3 + 3 * j by omega, e]
    have hS : (sSent kind reply args j).length = j := by simp [sSent]
    have e3 := one_send (kind := kind) (reply := reply) (n := n) (ser := ser) (k0 := k0) (now := now) (args := args) (reg := reg) j (kind j) (args.getD (j % 4) 0) (3 * j + 2) (sSent kind reply args j) [] []
    rw [if_neg (by omega)] at e3
    rw [run_step (i := ⟨1, kind j⟩) (m' := ⟨3 * j + 1, [kind j], reg, [], sSent kind reply args j, []⟩) c1 rfl]
    rw [run_step (i := ⟨4, ((j % 4 : Nat) : Int)⟩) (m' := ⟨3 * j + 2, [kind j, args.getD (j % 4) 0], reg, [], sSent kind reply args j, []⟩) c2 rfl]
    rw [run_step (i := ⟨sOp reply j, 0⟩) c3 e3]
    have eS : sSent kind reply args (j + 1) = sSent kind reply args j ++ [⟨sTo reply j, kind j, args.getD (j % 4) 0⟩] := by simp [sSent, List.range_succ]
    rw [eS]
    rfl
/-- What is sent goes out in order; the fifth letter is refused. -/
theorem sends_whole (hn : n ≤ 6) : (n ≤ 4 → runI (sendsP kind reply n) ⟨[109, 101], ser, k0, args⟩ now 500 0 (Mc.start reg) = .ok ⟨3 * n, [], reg, [], sSent kind reply args n, []⟩ (3 * n)) ∧ (4 < n → runI (sendsP kind reply n) ⟨[109, 101], ser, k0, args⟩ now 500 0 (Mc.start reg) = .err 12 15) := by
  constructor
  · intro h
    have e := sends_run (kind := kind) (reply := reply) (n := n) (ser := ser) (k0 := k0) (now := now) (args := args) (reg := reg) n (Nat.le_refl _) h (500 - 3 * n)
    rw [show 500 - 3 * n + 3 * n = 500 by omega] at e
    rw [e]
    exact run_end (by
      show (sCode kind reply n)[3 * n]? = none
      rw [List.getElem?_eq_none]
      rw [sCode_length]
      omega)
  · intro h
    have e := sends_run (kind := kind) (reply := reply) (n := n) (ser := ser) (k0 := k0) (now := now) (args := args) (reg := reg) 4 (by omega) (Nat.le_refl _) 488
    obtain ⟨c1, c2, c3⟩ := sCode_at kind reply n 4 (by omega)
    have e3 := one_send (kind := kind) (reply := reply) (n := n) (ser := ser) (k0 := k0) (now := now) (args := args) (reg := reg) 4 (kind 4) (args.getD (4 % 4) 0) 14 (sSent kind reply args 4) [] []
    rw [if_pos (by simp [sSent])] at e3
    rw [show 488 + 3 * 4 = 500 from rfl] at e
    rw [e]
    rw [run_step (i := ⟨1, kind 4⟩) (f := 487) (m' := ⟨13, [kind 4], reg, [], sSent kind reply args 4, []⟩) c1 rfl]
    rw [run_step (i := ⟨4, ((4 % 4 : Nat) : Int)⟩) (f := 486) (m' := ⟨14, [kind 4, args.getD (4 % 4) 0], reg, [], sSent kind reply args 4, []⟩) c2 rfl]
    exact run_err (f := 485) c3 e3
end
end Go.Proofs.YtpodoiichpnpjaaDoor
