/-
  strings.Clone, copyOf, isKey, Key; cmp.Compare, strings.Compare, cmp.Or, inOrder.
-/
import Derived.Shelf.Pu.Clone
import Derived.Ground.MpProg
import Derived.Lib.Bytealg
import Derived.Deep.QuietTactic
import Derived.BigQuiet
import Derived.Test.YtmjbkhcfdojpeaaQm
namespace Go.Proofs.Ytmjbkhcfdojpeaa
set_option maxRecDepth 100000
open Go.RowKit Go.Shelf
set_option linter.unusedVariables false
def cloneS_ren : Go.Shelf.Ren := ⟨fun | 25 => 72 | n => n, fun | 9 => 9 | 3 => 3 | 4 => 4 | 37 => 37 | 0 => 0 | 47 => 111 | 5 => 5 | n => n, fun | n => n⟩
theorem cloneS : Go.Proofs.LaysPu.n25 Try.prog cloneS_ren := {
  mixed := by kernel_rfl
  f25 := Try.func72.trans (congrArg some (by kernel_rfl))
  t0 := Try.underlying0
  a0 := Try.isAgg0
  z0 := Try.sizeOf0
  v0 := Try.zeroValue0
  i0 := by kernel_rfl
  t3 := Try.underlying3
  a3 := Try.isAgg3
  z3 := Try.sizeOf3
  v3 := Try.zeroValue3
  i3 := by kernel_rfl
  t4 := Try.underlying4
  a4 := Try.isAgg4
  z4 := Try.sizeOf4
  v4 := Try.zeroValue4
  i4 := by kernel_rfl
  t5 := Try.underlying5
  a5 := Try.isAgg5
  z5 := Try.sizeOf5
  v5 := Try.zeroValue5
  i5 := by kernel_rfl
  t9 := Try.underlying9
  a9 := Try.isAgg9
  z9 := Try.sizeOf9
  v9 := Try.zeroValue9
  i9 := by kernel_rfl
  t37 := Try.underlying37
  a37 := Try.isAgg37
  z37 := Try.sizeOf37
  v37 := Try.zeroValue37
  i37 := by kernel_rfl
  t47 := Try.underlying111
  a47 := Try.isAgg111
  z47 := Try.sizeOf111
  v47 := Try.zeroValue111
  i47 := by kernel_rfl }
section
variable {w : World} {b : Nat} {t : TypeId} {v0 v1 v2 v3 v4 x : Value}
theorem cells5 (h : w.heap[b]? = some (.cells #[v0, v1, v2, v3, v4] t (0, 0))) : w.cell? ⟨b, 0, none⟩ = some v0 ∧ w.cell? ⟨b, 1, none⟩ = some v1 ∧ w.cell? ⟨b, 2, none⟩ = some v2 ∧ w.cell? ⟨b, 3, none⟩ = some v3 ∧ w.cell? ⟨b, 4, none⟩ = some v4 := by simp [World.cell?, h]
theorem free5 (h : w.heap[b]? = some (.cells #[v0, v1, v2, v3, v4] t (0, 0))) : w.frozen? ⟨b, 0, none⟩ = false ∧ w.frozen? ⟨b, 1, none⟩ = false ∧ w.frozen? ⟨b, 2, none⟩ = false ∧ w.frozen? ⟨b, 3, none⟩ = false ∧ w.frozen? ⟨b, 4, none⟩ = false := by simp [World.frozen?, h]
theorem put5 (h : w.heap[b]? = some (.cells #[v0, v1, v2, v3, v4] t (0, 0))) (x0 x1 x2 x3 x4 : Value) : ∃ W, ((((w.setCell ⟨b, 0, none⟩ x0).setCell ⟨b, 1, none⟩ x1).setCell ⟨b, 2, none⟩ x2).setCell ⟨b, 3, none⟩ x3).setCell ⟨b, 4, none⟩ x4 = W ∧ Kept [b] w W ∧ W.heap[b]? = some (.cells #[x0, x1, x2, x3, x4] t (0, 0)) ∧ W.heap.size = w.heap.size :=
  ⟨_, rfl, (((((Kept.refl [b] w).setCell (p := ⟨b, 0, none⟩) (.inl (by simp)) x0).setCell (p := ⟨b, 1, none⟩) (.inl (by simp)) x1).setCell (p := ⟨b, 2, none⟩) (.inl (by simp)) x2).setCell (p := ⟨b, 3, none⟩) (.inl (by simp)) x3).setCell (p := ⟨b, 4, none⟩) (.inl (by simp)) x4, set_at (set_at (set_at (set_at (set_at h)))), by simp⟩
theorem set5_0 (h : w.heap[b]? = some (.cells #[v0, v1, v2, v3, v4] t (0, 0))) : (w.setCell ⟨b, 0, none⟩ x).heap[b]? = some (.cells #[x, v1, v2, v3, v4] t (0, 0)) := set_at h
theorem set5_1 (h : w.heap[b]? = some (.cells #[v0, v1, v2, v3, v4] t (0, 0))) : (w.setCell ⟨b, 1, none⟩ x).heap[b]? = some (.cells #[v0, x, v2, v3, v4] t (0, 0)) := set_at h
theorem set5_2 (h : w.heap[b]? = some (.cells #[v0, v1, v2, v3, v4] t (0, 0))) : (w.setCell ⟨b, 2, none⟩ x).heap[b]? = some (.cells #[v0, v1, x, v3, v4] t (0, 0)) := set_at h
/-- The cells of a reminder at a block's begin. -/
def cells0 (r : Rm) : Array Value := #[Sv r.ac, Sv r.nm, Iv r.due, Iv r.per, Iv r.kind]
/-- A boxed reminder. -/
def BoxR (W : World) (b : Nat) (r : Rm) : Prop := W.cell? ⟨b, 0, none⟩ = some (Sv r.ac) ∧ W.cell? ⟨b, 1, none⟩ = some (Sv r.nm) ∧ W.cell? ⟨b, 2, none⟩ = some (Iv r.due) ∧ W.cell? ⟨b, 3, none⟩ = some (Iv r.per) ∧ W.cell? ⟨b, 4, none⟩ = some (Iv r.kind)
end
section
variable {w : World}
set_option maxHeartbeats 1000000 in
theorem clone67 (s : List UInt8) (hs : s.length ≤ 281474976710656) : Calls Try.prog 67 #[Sv s] w fun e w' => e = .returned (Sv s) ∧ Kept [] w w' := by
  have h : Calls Try.prog 72 #[Sv s] w fun e w' => e = .returned (Sv s) ∧ Below w.heap.size w w' := AnyPu.stringslite_Clone cloneS ⟨s.toArray⟩ w (by simpa [ByteArray.size] using hs)
  go_enter Try.func67, Try.ntmps67
  go_wp2_with (go_at_call 72; refine h.mono ?_; rintro e w1 ⟨rfl, hb⟩)
  go_ret
  exact ⟨rfl, ⟨hb.os, hb.tape, hb.output, hb.size, fun k hk _ => hb.block k hk⟩⟩
theorem isKey48 (s : List UInt8) (hs : s.length ≤ 281474976710656) : Calls Try.prog 48 #[Sv s] w fun e w' => e = .returned (.bool (isKey s)) ∧ w = w' := by
  have e : isKey s = (decide ((1 : Int) ≤ (s.length : Int)) && decide ((s.length : Int) ≤ 40)) := by
    unfold isKey
    rw [Bool.eq_iff_iff]
    simp
    omega
  rw [e]
  by_cases h1 : (1 : Int) ≤ (s.length : Int)
  · rw [decide_eq_true h1, Bool.true_and]
    go_enter Try.func48, Try.ntmps48
    go_wp2_with fail
    all_goals go_ret
    all_goals exact ⟨rfl, rfl⟩
  · rw [decide_eq_false h1, Bool.false_and]
    go_enter Try.func48, Try.ntmps48
    go_wp2_with fail
    go_ret
    exact ⟨rfl, rfl⟩
theorem key63 (s : List UInt8) (hs : s.length ≤ 281474976710656) : Calls Try.prog 63 #[Sv s] w fun e w' => e = .returned (.bool (isKey s)) ∧ w = w' := by
  have e : isKey s = (decide ((1 : Int) ≤ (s.length : Int)) && decide ((s.length : Int) ≤ 40)) := by
    unfold isKey
    rw [Bool.eq_iff_iff]
    simp
    omega
  rw [e]
  by_cases h1 : (1 : Int) ≤ (s.length : Int)
  · rw [decide_eq_true h1, Bool.true_and]
    go_enter Try.func63, Try.ntmps63
    go_wp2_with fail
    all_goals go_ret
    all_goals exact ⟨rfl, rfl⟩
  · rw [decide_eq_false h1, Bool.false_and]
    go_enter Try.func63, Try.ntmps63
    go_wp2_with fail
    go_ret
    exact ⟨rfl, rfl⟩
theorem cmp71 (a b : List UInt8) (w : World) : Calls Try.prog 71 #[Sv a, Sv b] w fun e w' => e = .returned (.int .i64 (Lib.compareBytes a b)) ∧ w = w' := by
  have h74 : Calls Try.prog 74 #[Sv a, Sv b] w fun e w' => e = .returned (.int .i64 (Lib.compareBytes a b)) ∧ w = w' := by
    go_enter Try.func74, Try.ntmps74
    go_wp2
    rw [run_callFunc_extern Try.func75 (by kernel_rfl) (by kernel_rfl) (by kernel_rfl) (e := Extern.BytealgCompare.compare) (by kernel_rfl), Lib.run_compareString]
    simp only [Result.andThen]
    rw [Oper.upon_value]
    go_wp2
    go_ret
    exact ⟨rfl, rfl⟩
  generalize Lib.compareBytes a b = r at h74 ⊢
  go_enter Try.func71, Try.ntmps71
  go_wp2_with fail
  refine h74.mono ?_
  rintro e w' ⟨rfl, rfl⟩
  go_wp2
  go_ret
  exact ⟨rfl, rfl⟩
/-- What cmp.Compare answers. -/
def cmpI (a b : Int) : Int := if a < b then -1 else if b < a then 1 else 0
theorem cmp70 (a b : Int) (w : World) : Calls Try.prog 70 #[Iv a, Iv b] w fun e w' => e = .returned (.int .i64 (cmpI a b)) ∧ w = w' := by
  have hn : ∀ (x : Int) (W : World), Calls Try.prog 73 #[Iv x] W fun e w' => e = .returned (.bool false) ∧ W = w' := by
    intro x W
    go_enter Try.func73, Try.ntmps73
    go_wp2_with fail
    go_ret
    exact ⟨by simp, rfl⟩
  unfold cmpI
  rcases Int.lt_trichotomy a b with h | h | h
  · have h2 : ¬ b < a := by omega
    simp only [if_pos h]
    go_enter Try.func70, Try.ntmps70
    go_wp2_with fail
    refine (hn _ _).mono ?_
    rintro e w' ⟨rfl, rfl⟩
    go_wp2_with fail
    refine (hn _ _).mono ?_
    rintro e w' ⟨rfl, rfl⟩
    go_wp2_with fail
    go_ret
    exact ⟨rfl, rfl⟩
  · subst h
    simp only [if_neg (Int.lt_irrefl a)]
    go_enter Try.func70, Try.ntmps70
    go_wp2_with fail
    refine (hn _ _).mono ?_
    rintro e w' ⟨rfl, rfl⟩
    go_wp2_with fail
    refine (hn _ _).mono ?_
    rintro e w' ⟨rfl, rfl⟩
    go_wp2_with fail
    go_ret
    exact ⟨rfl, rfl⟩
  · have h2 : ¬ a < b := by omega
    simp only [if_neg h2, if_pos h]
    go_enter Try.func70, Try.ntmps70
    go_wp2_with fail
    refine (hn _ _).mono ?_
    rintro e w' ⟨rfl, rfl⟩
    go_wp2_with fail
    refine (hn _ _).mono ?_
    rintro e w' ⟨rfl, rfl⟩
    go_wp2_with fail
    go_ret
    exact ⟨rfl, rfl⟩
end
end Go.Proofs.Ytmjbkhcfdojpeaa
