/-
  A Super in memory; what its calls answer that write nothing: place, Generation, Payload.
-/
import Derived.Test.YthjdlbejfaejkaaRec
namespace Go.Proofs.Ythjdlbejfaejkaa
open Go.RowKit
set_option linter.unusedVariables false

/-- The Super of the disk at q lies at block p: its record is r, its payload the slice v. -/
structure IsS (w : World) (p : Nat) (v : Value) (r : Rc) (q : Nat) (over : Bool) : Prop where
  box : w.heap[p]? = some (.cells #[.int .u64 (r.1 : Int), v, .pointer (some ⟨q, 0, none⟩), .bool over] 50 (0, 0))
  reads : Reads w v r.2
  apart : v.ownBlock ≠ some p
  gen : r.1 < 18446744073709551616
  len : r.2.length ≤ 200
  vlt : ∀ g, v.ownBlock = some g → g < w.heap.size

theorem IsS.lt {w : World} {p : Nat} {v : Value} {r : Rc} {q : Nat} {over : Bool} (h : IsS w p v r q over) : p < w.heap.size := lt_of_block h.box
theorem IsS.kept {S : List Nat} {w w' : World} {p : Nat} {v : Value} {r : Rc} {q : Nat} {over : Bool} (h : IsS w p v r q over) (k : Kept S w w') (hp : p ∉ S) (hn : ∀ g, v.ownBlock = some g → g ∉ S) : IsS w' p v r q over :=
  ⟨k.keeps h.box hp, h.reads.kept k hn, h.apart, h.gen, h.len, fun g hg => Nat.lt_of_lt_of_le (h.vlt g hg) k.size⟩

theorem plc_wrap (g : Nat) (hg : g < 18446744073709551616) : wrap64 ((IntKind.u64.wrap ((g : Int) - 1)).tmod 2) = (plc g : Int) := by
  have e : IntKind.u64.wrap ((g : Int) - 1) = ((g : Int) - 1) % 18446744073709551616 := by simp [IntKind.wrap, IntKind.bits, IntKind.signed]
  rw [e, Int.tmod_eq_emod_of_nonneg (by omega)]
  unfold wrap64 plc
  omega
theorem place_any (g : Nat) (v : Value) (w : World) (hg : g < 18446744073709551616) : Calls Try.prog 23 #[.agg #[.int .u64 (g : Int), v]] w fun e w' => e = .returned (.int .i64 (plc g : Int)) ∧ Kept [] w w' := by
  go_enter Try.func23, Try.ntmps23
  go_wp2
  go_ret
  refine ⟨?_, (Kept.refl [] w).alloc _⟩
  exact ret_int (plc_wrap g hg)

theorem gen_nil (w : World) : Calls Try.prog 10 #[.pointer none] w fun e w' => e = .returned (.int .u64 0) ∧ w = w' := by
  go_enter Try.func10, Try.ntmps10
  go_wp2
  go_ret
  exact ⟨rfl, rfl⟩
theorem pay_nil (w : World) : Calls Try.prog 11 #[.pointer none] w fun e w' => e = .returned (.slice none 0 0) ∧ w = w' := by
  go_enter Try.func11, Try.ntmps11
  go_wp2
  go_ret
  exact ⟨rfl, rfl⟩
theorem save_nil (v : Value) (w : World) : Calls Try.prog 12 #[.pointer none, v] w fun e w' => e = .returned (.int .i64 1) ∧ w = w' := by
  go_enter Try.func12, Try.ntmps12
  go_wp2
  go_ret
  exact ⟨rfl, rfl⟩
theorem gen_any {w : World} {p : Nat} {v : Value} {r : Rc} {q : Nat} {over : Bool} (h : IsS w p v r q over) : Calls Try.prog 10 #[.pointer (some ⟨p, 0, none⟩)] w fun e w' => e = .returned (.int .u64 (r.1 : Int)) ∧ w = w' := by
  obtain ⟨c0, c1, c2, c3⟩ := cells4 h.box
  generalize r.1 = g at c0
  clear h c1 c2 c3
  go_enter Try.func10, Try.ntmps10
  go_wp2
  go_ret
  exact ⟨rfl, rfl⟩
theorem pay_any {w : World} {p : Nat} {v : Value} {r : Rc} {q : Nat} {over : Bool} (h : IsS w p v r q over) : Calls Try.prog 11 #[.pointer (some ⟨p, 0, none⟩)] w fun e w' => ∃ v', e = .returned v' ∧ Owns 5 w' v' r.2 ∧ Kept [] w w' ∧ Fresh w v' := by
  obtain ⟨c0, c1, c2, c3⟩ := cells4 h.box
  have hl := h.len
  have hcl := clone_any v r.2 w h.reads (by omega)
  clear h c0 c2 c3
  go_enter Try.func11, Try.ntmps11
  go_wp2_with (go_at_call 21; refine hcl.mono ?_; rintro e w1 ⟨v1, rfl, h1⟩)
  go_ret
  exact ⟨_, rfl, h1⟩

end Go.Proofs.Ythjdlbejfaejkaa
