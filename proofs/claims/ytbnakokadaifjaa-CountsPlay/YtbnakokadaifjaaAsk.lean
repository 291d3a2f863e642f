/-
  Counts in one goroutine: Get, Take, New, All; the document's same; awake.
-/
import Derived.Test.YtbnakokadaifjaaCell
import Derived.BigQuiet
namespace Go.Proofs.Ytbnakokadaifjaa
open Go.RowKit
set_option linter.unusedVariables false

theorem get_nil (i : Int) (w : World) : Calls Try.prog 9 #[.pointer none, .int .i64 i] w fun e w' => e = .returned (.int .u64 0) ∧ w = w' := by
  go_enter Try.func9, Try.ntmps9
  go_wp2_with (go_at_call 15; refine (has_nil _ _).mono ?_; rintro e w' ⟨rfl, rfl⟩)
  go_ret
  exact ⟨rfl, rfl⟩

theorem get_no (a : Addr) (i : Int) (h : i < 0 ∨ 8 ≤ i) (w : World) : Calls Try.prog 9 #[.pointer (some a), .int .i64 i] w fun e w' => e = .returned (.int .u64 0) ∧ w = w' := by
  go_enter Try.func9, Try.ntmps9
  go_wp2_with (go_at_call 15; refine (has_no _ _ h _).mono ?_; rintro e w' ⟨rfl, rfl⟩)
  go_ret
  exact ⟨rfl, rfl⟩

theorem get_yes (p : Nat) (l : List Nat) (i : Nat) (hi : i < 8) (w : World) (hC : IsC w p l) :
    Calls Try.prog 9 #[.pointer (some ⟨p, 0, none⟩), .int .i64 (i : Int)] w fun e w' => e = .returned (.int .u64 ((l.getD i 0 : Nat) : Int)) ∧ w = w' := by
  have hc := hC.row.cell (hC.get hi)
  have h1 : (i : Int) < 8 := by omega
  generalize l.getD i 0 = x at hc
  go_enter Try.func9, Try.ntmps9
  go_wp2_with (first | (go_at_call 15; refine (has_yes _ i hi _).mono ?_; rintro e w' ⟨rfl, rfl⟩) | (go_at_call 17; refine (at_load ⟨p, i, none⟩ x _ hc).mono ?_; rintro e w' ⟨rfl, rfl⟩))
  go_ret
  exact ⟨rfl, rfl⟩

theorem take_nil (i : Int) (w : World) : Calls Try.prog 10 #[.pointer none, .int .i64 i] w fun e w' => e = .returned (.int .u64 0) ∧ w = w' := by
  go_enter Try.func10, Try.ntmps10
  go_wp2_with (go_at_call 15; refine (has_nil _ _).mono ?_; rintro e w' ⟨rfl, rfl⟩)
  go_ret
  exact ⟨rfl, rfl⟩

theorem take_no (a : Addr) (i : Int) (h : i < 0 ∨ 8 ≤ i) (w : World) : Calls Try.prog 10 #[.pointer (some a), .int .i64 i] w fun e w' => e = .returned (.int .u64 0) ∧ w = w' := by
  go_enter Try.func10, Try.ntmps10
  go_wp2_with (go_at_call 15; refine (has_no _ _ h _).mono ?_; rintro e w' ⟨rfl, rfl⟩)
  go_ret
  exact ⟨rfl, rfl⟩

theorem take_yes (p : Nat) (l : List Nat) (i : Nat) (hi : i < 8) (w : World) (hC : IsC w p l) :
    Calls Try.prog 10 #[.pointer (some ⟨p, 0, none⟩), .int .i64 (i : Int)] w fun e w' => e = .returned (.int .u64 ((l.getD i 0 : Nat) : Int)) ∧ IsC w' p (l.set i 0) ∧ Kept [p] w w' := by
  have hc := hC.row.cell (hC.get hi)
  have hz := hC.row.free i
  have h1 : (i : Int) < 8 := by omega
  have hfin := hC.set i 0
  generalize l.getD i 0 = x at hc hfin
  go_enter Try.func10, Try.ntmps10
  go_wp2_with (first | (go_at_call 15; refine (has_yes _ i hi _).mono ?_; rintro e w' ⟨rfl, rfl⟩) | (go_at_call 18; refine (at_swap ⟨p, i, none⟩ x _ hc hz).mono ?_; rintro e w' ⟨rfl, rfl⟩))
  go_ret
  exact ⟨rfl, hfin, kept_own _ _ _ _⟩

/-- Eight noughts. -/
def zeros : List Nat := List.replicate 8 0

theorem new_isC (w : World) (o : Obj) (ho : o = .cells (C64 zeros).toArray 34 (0, 0)) : IsC (w.alloc o) w.heap.size zeros := ⟨by subst ho; exact heap_alloc_new w _, rfl⟩

theorem new_any (w : World) : Calls Try.prog 7 #[] w fun e w' => e = .returned (.pointer (some ⟨w.heap.size, 0, none⟩)) ∧ IsC w' w.heap.size zeros ∧ Kept [] w w' := by
  go_enter Try.func7, Try.ntmps7
  go_wp2
  go_ret
  exact ⟨rfl, new_isC w _ rfl, (Kept.refl [] w).alloc _⟩

theorem all_nil (w : World) : Calls Try.prog 12 #[.pointer none] w fun e w' => e = .returned (.slice none 0 0) ∧ w = w' := by
  go_enter Try.func12, Try.ntmps12
  go_wp2
  go_ret
  exact ⟨rfl, rfl⟩

theorem awake_any (w : World) : Calls Try.prog 6 #[] w fun e w' => e = .returned (.bool true) ∧ Kept [] w w' := by
  go_enter Try.func6, Try.ntmps6
  go_wp2_with fail
  refine (new_any w).mono ?_
  rintro e w1 ⟨rfl, hC, k1⟩
  go_wp2_with fail
  refine (add_yes _ _ 2 (by omega) 5 _ hC).mono ?_
  rintro e w2 ⟨rfl, hC2, k2⟩
  have k2' := k1.trans k2 (by simp)
  go_wp2_with fail
  refine (take_yes _ _ 2 (by omega) _ hC2).mono ?_
  rintro e w3 ⟨rfl, hC3, k3⟩
  have k3' := k2'.trans k3 (by simp)
  go_wp2
  go_ret
  exact ⟨rfl, k3'⟩

end Go.Proofs.Ytbnakokadaifjaa
