/-
  One counter, in one goroutine: Add, Load, Swap; has, Add, Get, Take of Counts.
-/
import Derived.Test.YtbnakokadaifjaaRows
import Derived.Test.YtbnakokadaifjaaMem
import Derived.WalkKit
import Derived.Tactics2
import Derived.Laws.Pointers
import Derived.Laws.LoneSync
import Derived.RegionTactic
import Derived.RegionCalls
import Derived.Deep.RegionWith
import Derived.Laws.NewBlocks
import Derived.Outline
namespace Go.Proofs.Ytbnakokadaifjaa
open Go.RowKit
set_option linter.unusedVariables false

/-- The sum of two numbers. -/
def sum64 (a b : Nat) : Nat := (a + b) % 18446744073709551616

theorem add64 {P : Program} (a b : Nat) (w : World) : (Op.intArith .add .u64 (a : Int) (b : Int)).run P w = .ok (.int .u64 ((sum64 a b : Nat) : Int)) w := by
  simp [go_sem, sum64, IntKind.wrap_u64]

theorem at_add (a : Addr) (x n : Nat) (w : World) (hc : w.cell? a = some (.int .u64 (x : Int))) (hz : w.frozen? a = false) :
    Calls Try.prog 16 #[.pointer (some a), .int .u64 (n : Int)] w fun e w' => e = .returned (.int .u64 ((sum64 x n : Nat) : Int)) ∧ w.setCell a (.int .u64 ((sum64 x n : Nat) : Int)) = w' := by
  have hadd := run_call_add (P := Try.prog) Try.func25 (by kernel_rfl) (by kernel_rfl) (by kernel_rfl) .u64 (by kernel_rfl) hc hz (add64 x n w)
  go_enter Try.func16, Try.ntmps16
  go_wp2
  go_ret
  exact ⟨rfl, rfl⟩

/-- sync/atomic.SwapUint64: the new number is stored, the old one handed back. -/
theorem run_call_swap {P : Program} {f : FuncId} {fn : Func} (hf : P.funcs[f]? = some fn) (hname : (fn.name == "runtime.NumGoroutine") = false) (hb : fn.body.isNone = true) (hn : Extern.findNext fn = none) (k : IntKind)
    (he : Extern.find fn = some (Extern.Atomic.swapT (.int k))) {a : Addr} {x y : Int} {w : World} (hc : w.cell? a = some (.int k x)) (hz : w.frozen? a = false) :
    (callFunc f #[.pointer (some a), .int k y]).run P w = .ok (.value (.int k x)) (w.setCell a (.int k y)) := by
  rw [run_callFunc_extern hf hname hb hn he]
  change (Sem.run P (do
    let a' ← asAddr (.pointer (some a))
    let old ← Extern.Atomic.read (.int k) a'
    store a' (.int k y) .atomic
    pure old) w).andThen _ = _
  simp [Extern.Atomic.read, asAddr, hc, hz, run_store P w a (.int k y) .atomic rfl, Result.andThen]

theorem at_swap (a : Addr) (x : Nat) (w : World) (hc : w.cell? a = some (.int .u64 (x : Int))) (hz : w.frozen? a = false) :
    Calls Try.prog 18 #[.pointer (some a), .int .u64 0] w fun e w' => e = .returned (.int .u64 (x : Int)) ∧ w.setCell a (.int .u64 0) = w' := by
  have hsw := run_call_swap (P := Try.prog) Try.func27 (by kernel_rfl) (by kernel_rfl) (by kernel_rfl) .u64 (by kernel_rfl) (y := 0) hc hz
  go_enter Try.func18, Try.ntmps18
  go_wp2
  go_ret
  exact ⟨rfl, rfl⟩

theorem at_load (a : Addr) (x : Nat) (w : World) (hc : w.cell? a = some (.int .u64 (x : Int))) :
    Calls Try.prog 17 #[.pointer (some a)] w fun e w' => e = .returned (.int .u64 (x : Int)) ∧ w = w' := by
  have hl := run_call_load (P := Try.prog) Try.func26 (by kernel_rfl) (by kernel_rfl) (by kernel_rfl) .u64 (by kernel_rfl) hc
  go_enter Try.func17, Try.ntmps17
  go_wp2
  go_ret
  exact ⟨rfl, rfl⟩

theorem has_nil (i : Int) (w : World) : Calls Try.prog 15 #[.pointer none, .int .i64 i] w fun e w' => e = .returned (.bool false) ∧ w = w' := by
  go_enter Try.func15, Try.ntmps15
  go_wp2
  go_ret
  exact ⟨rfl, rfl⟩

theorem has_no (a : Addr) (i : Int) (h : i < 0 ∨ 8 ≤ i) (w : World) : Calls Try.prog 15 #[.pointer (some a), .int .i64 i] w fun e w' => e = .returned (.bool false) ∧ w = w' := by
  by_cases h0 : 0 ≤ i
  · have h1 : ¬ i < 8 := by omega
    go_enter Try.func15, Try.ntmps15
    go_wp2
    go_ret
    exact ⟨rfl, rfl⟩
  · go_enter Try.func15, Try.ntmps15
    go_wp2
    go_ret
    exact ⟨rfl, rfl⟩

theorem has_yes (a : Addr) (i : Nat) (h : i < 8) (w : World) : Calls Try.prog 15 #[.pointer (some a), .int .i64 (i : Int)] w fun e w' => e = .returned (.bool true) ∧ w = w' := by
  have h0 : (0 : Int) ≤ (i : Int) := by omega
  have h1 : (i : Int) < 8 := by omega
  go_enter Try.func15, Try.ntmps15
  go_wp2
  go_ret
  exact ⟨rfl, rfl⟩

/-- The eight counters at block p are l. -/
structure IsC (w : World) (p : Nat) (l : List Nat) : Prop where
  row : Row64 34 w p l
  eight : l.length = 8

theorem IsC.kept {S : List Nat} {w w' : World} {p : Nat} {l : List Nat} (h : IsC w p l) (k : Kept S w w') (hn : p ∉ S) : IsC w' p l := ⟨h.row.kept k hn, h.eight⟩
theorem IsC.get {w : World} {p : Nat} {l : List Nat} (h : IsC w p l) {i : Nat} (hi : i < 8) : l[i]? = some (l.getD i 0) := by
  have := h.eight
  rw [List.getD_eq_getElem?_getD, List.getElem?_eq_getElem (by omega)]
  rfl
theorem IsC.set {w : World} {p : Nat} {l : List Nat} (h : IsC w p l) (i n : Nat) : IsC (w.setCell ⟨p, i, none⟩ (.int .u64 (n : Int))) p (l.set i n) := ⟨h.row.set i n, by simp [h.eight]⟩
theorem kept_own (w : World) (p i : Nat) (u : Value) : Kept [p] w (w.setCell ⟨p, i, none⟩ u) := (Kept.refl [p] w).setCell (.inl (by simp)) _

theorem add_nil (i : Int) (n : Value) (w : World) : Calls Try.prog 8 #[.pointer none, .int .i64 i, n] w fun e w' => e = .returned (.int .u64 0) ∧ w = w' := by
  go_enter Try.func8, Try.ntmps8
  go_wp2_with (go_at_call 15; refine (has_nil _ _).mono ?_; rintro e w' ⟨rfl, rfl⟩)
  go_ret
  exact ⟨rfl, rfl⟩

theorem add_no (a : Addr) (i : Int) (h : i < 0 ∨ 8 ≤ i) (n : Value) (w : World) : Calls Try.prog 8 #[.pointer (some a), .int .i64 i, n] w fun e w' => e = .returned (.int .u64 0) ∧ w = w' := by
  go_enter Try.func8, Try.ntmps8
  go_wp2_with (go_at_call 15; refine (has_no _ _ h _).mono ?_; rintro e w' ⟨rfl, rfl⟩)
  go_ret
  exact ⟨rfl, rfl⟩

theorem add_yes (p : Nat) (l : List Nat) (i : Nat) (hi : i < 8) (n : Nat) (w : World) (hC : IsC w p l) :
    Calls Try.prog 8 #[.pointer (some ⟨p, 0, none⟩), .int .i64 (i : Int), .int .u64 (n : Int)] w fun e w' => e = .returned (.int .u64 ((sum64 (l.getD i 0) n : Nat) : Int)) ∧ IsC w' p (l.set i (sum64 (l.getD i 0) n)) ∧ Kept [p] w w' := by
  have hc := hC.row.cell (hC.get hi)
  have hz := hC.row.free i
  have h1 : (i : Int) < 8 := by omega
  have hfin := hC.set i (sum64 (l.getD i 0) n)
  generalize l.getD i 0 = x at hc hfin
  go_enter Try.func8, Try.ntmps8
  go_wp2_with (first | (go_at_call 15; refine (has_yes _ i hi _).mono ?_; rintro e w' ⟨rfl, rfl⟩) | (go_at_call 16; refine (at_add ⟨p, i, none⟩ x n _ hc hz).mono ?_; rintro e w' ⟨rfl, rfl⟩))
  go_ret
  exact ⟨rfl, hfin, kept_own _ _ _ _⟩

end Go.Proofs.Ytbnakokadaifjaa
