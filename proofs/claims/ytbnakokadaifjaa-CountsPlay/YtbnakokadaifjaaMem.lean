/-
  What the walks of this seat say of memory: which old blocks are kept; eight counters in a block. Nothing here speaks of the program.
-/
import Derived.WalkKit
import Derived.Deep.AppendLies
import Derived.Lib.AppendStr
import Derived.Laws.IdiomStrings
import Derived.OneCell
import Derived.Laws.CopyRow
namespace Go.Proofs.Ytbnakokadaifjaa
open Go.RowKit

/-- All old blocks but those that S names are as they were. -/
structure Kept (S : List Nat) (w w' : World) : Prop where
  os : w'.os = w.os
  tape : w'.tape = w.tape
  output : w'.output = w.output
  size : w.heap.size ≤ w'.heap.size
  block : ∀ k, k < w.heap.size → k ∉ S → w'.heap[k]? = w.heap[k]?

theorem Kept.refl (S : List Nat) (w : World) : Kept S w w := ⟨rfl, rfl, rfl, Nat.le_refl _, fun _ _ _ => rfl⟩

/-- Two steps: what the second may turn is named by the first's list, or is new. -/
theorem Kept.trans {S T : List Nat} {a b c : World} (h : Kept S a b) (k : Kept T b c) (hT : ∀ x ∈ T, x ∈ S ∨ a.heap.size ≤ x) : Kept S a c :=
  ⟨k.os.trans h.os, k.tape.trans h.tape, k.output.trans h.output, Nat.le_trans h.size k.size, fun i hi hn => by
    rw [k.block i (Nat.lt_of_lt_of_le hi h.size) (fun hm => by rcases hT i hm with h1 | h1; exact hn h1; omega)]
    exact h.block i hi hn⟩

theorem Kept.mono {S T : List Nat} {a b : World} (h : Kept S a b) (hT : ∀ x ∈ S, x ∈ T ∨ a.heap.size ≤ x) : Kept T a b :=
  ⟨h.os, h.tape, h.output, h.size, fun i hi hn => h.block i hi (fun hm => by rcases hT i hm with h1 | h1; exact hn h1; omega)⟩

theorem Kept.drew {S : List Nat} {a w : World} (h : Kept S a w) : Kept S a w.drew := ⟨h.os, h.tape, h.output, h.size, h.block⟩

theorem Kept.alloc {S : List Nat} {a w : World} (h : Kept S a w) (o : Obj) : Kept S a (w.alloc o) :=
  ⟨h.os, h.tape, h.output, by have := h.size; simp; omega, fun k hk hn => by
    rw [Below.heap_alloc _ _ _ (Nat.lt_of_lt_of_le hk h.size)]; exact h.block k hk hn⟩

theorem Kept.setCell {S : List Nat} {a w : World} (h : Kept S a w) {p : Addr} (hp : p.block ∈ S ∨ a.heap.size ≤ p.block) (u : Value) : Kept S a (w.setCell p u) :=
  ⟨h.os, h.tape, h.output, by simpa using h.size, fun k hk hn => by
    rw [Below.heap_setCell _ _ _ _ (fun e => by subst e; rcases hp with h1 | h1; exact hn h1; omega)]; exact h.block k hk hn⟩

theorem Kept.grown {S : List Nat} {a w w' : World} {row : Option Nat} (h : Kept S a w) (hg : w.grownBy w' row) (hr : ∀ k, row = some k → k ∈ S ∨ a.heap.size ≤ k) : Kept S a w' :=
  ⟨hg.os.trans h.os, hg.tape.trans h.tape, hg.output.trans h.output, Nat.le_trans h.size hg.size, fun i hi hn => by
    rw [hg.block i (Nat.lt_of_lt_of_le hi h.size) (fun e => by rcases hr i e.symm with h1 | h1; exact hn h1; omega)]
    exact h.block i hi hn⟩

theorem Kept.below {w w' : World} (h : Kept [] w w') : Below w.heap.size w w' := ⟨h.os, h.tape, h.output, h.size, fun k hk => h.block k hk (by simp)⟩

theorem Kept.cell {S : List Nat} {w w' : World} (h : Kept S w w') {p : Addr} (hp : p.block < w.heap.size) (hn : p.block ∉ S) : w'.cell? p = w.cell? p := World.cell?_of_block (w := w) (h.block p.block hp hn)

theorem Kept.keeps {S : List Nat} {w w' : World} (h : Kept S w w') {g : Nat} {o : Obj} (hg : w.heap[g]? = some o) (hn : g ∉ S) : w'.heap[g]? = some o := by
  rw [h.block g (lt_of_block hg) hn]; exact hg

/-- Numbers as cells. -/
def N64 (n : Nat) : Value := .int .u64 (n : Int)
def C64 (l : List Nat) : List Value := l.map N64
theorem C64_length (l : List Nat) : (C64 l).length = l.length := by simp [C64]

/-- A block of numbers, of type t, that may be stored into. -/
def Row64 (t : TypeId) (w : World) (p : Nat) (l : List Nat) : Prop := w.heap[p]? = some (.cells (C64 l).toArray t (0, 0))

theorem Row64.lt {t : TypeId} {w : World} {p : Nat} {l : List Nat} (h : Row64 t w p l) : p < w.heap.size := lt_of_block h
theorem Row64.kept {t : TypeId} {S : List Nat} {w w' : World} {p : Nat} {l : List Nat} (h : Row64 t w p l) (k : Kept S w w') (hn : p ∉ S) : Row64 t w' p l := k.keeps h hn
theorem Row64.drew {t : TypeId} {w : World} {p : Nat} {l : List Nat} (h : Row64 t w p l) : Row64 t w.drew p l := h

theorem Row64.cell {t : TypeId} {w : World} {p : Nat} {l : List Nat} (h : Row64 t w p l) {i n : Nat} (hi : l[i]? = some n) : w.cell? ⟨p, i, none⟩ = some (.int .u64 (n : Int)) := by
  unfold Row64 at h
  simp [World.cell?, h, C64, hi, N64]

theorem Row64.free {t : TypeId} {w : World} {p : Nat} {l : List Nat} (h : Row64 t w p l) (i : Nat) : w.frozen? ⟨p, i, none⟩ = false := by
  unfold Row64 at h
  simp [World.frozen?, h]

theorem C64_set (l : List Nat) (i n : Nat) : C64 (l.set i n) = (C64 l).set i (N64 n) := by simp [C64, List.map_set]

theorem Row64.set {t : TypeId} {w : World} {p : Nat} {l : List Nat} (h : Row64 t w p l) (i n : Nat) : Row64 t (w.setCell ⟨p, i, none⟩ (.int .u64 (n : Int))) p (l.set i n) := by
  unfold Row64 at h ⊢
  rw [setCell_eq_setRow w p i _ t (0, 0) _ h, setRow_heap w p _ _ t _ h]
  simp [C64, List.map_set, N64]

end Go.Proofs.Ytbnakokadaifjaa
