/-
  What the walks of this seat say of memory: which old blocks are kept, which bytes a slice reads as, what a Writer and a Reader hold. Nothing here speaks of the program.
-/
import Derived.WalkKit
import Derived.Deep.AppendLies
import Derived.Lib.AppendStr
import Derived.Laws.IdiomStrings
import Derived.OneCell
namespace Go.Proofs.Ytmihpgejaobdbaa
set_option maxRecDepth 100000
open Go.RowKit
/-- All old blocks but those that S names are as they were. -/
structure Kept (S : List Nat) (w w' : World) : Prop where
  os : w'.os = w.os
  tape : w'.tape = w.tape
  output : w'.output = w.output
  size : w.heap.size ≤ w'.heap.size
  block : ∀ k, k < w.heap.size → k ∉ S → w'.heap[k]? = w.heap[k]?
theorem Kept.refl (S : List Nat) (w : World) : Kept S w w := ⟨rfl, rfl, rfl, Nat.le_refl _, fun _ _ _ => rfl⟩
/-- Two steps: what the second may turn is named by the first's list, or is new. -/
theorem Kept.trans {S T : List Nat} {a b c : World} (h : Kept S a b) (k : Kept T b c) (hT : ∀ x ∈ T, x ∈ S ∨ a.heap.size ≤ x) : Kept S a c :=
  ⟨k.os.trans h.os, k.tape.trans h.tape, k.output.trans h.output, Nat.le_trans h.size k.size, fun i hi hn => by
    rw [k.block i (Nat.lt_of_lt_of_le hi h.size) (fun hm => by rcases hT i hm with h1 | h1; exact hn h1; omega)]
    exact h.block i hi hn⟩
theorem Kept.mono {S T : List Nat} {a b : World} (h : Kept S a b) (hT : ∀ x ∈ S, x ∈ T ∨ a.heap.size ≤ x) : Kept T a b :=
  ⟨h.os, h.tape, h.output, h.size, fun i hi hn => h.block i hi (fun hm => by rcases hT i hm with h1 | h1; exact hn h1; omega)⟩
theorem Kept.drew {S : List Nat} {a w : World} (h : Kept S a w) : Kept S a w.drew := ⟨h.os, h.tape, h.output, h.size, h.block⟩
theorem Kept.alloc {S : List Nat} {a w : World} (h : Kept S a w) (o : Obj) : Kept S a (w.alloc o) :=
  ⟨h.os, h.tape, h.output, by have := h.size; simp; omega, fun k hk hn => by
    rw [Below.heap_alloc _ _ _ (Nat.lt_of_lt_of_le hk h.size)]; exact h.block k hk hn⟩
theorem Kept.setCell {S : List Nat} {a w : World} (h : Kept S a w) {p : Addr} (hp : p.block ∈ S ∨ a.heap.size ≤ p.block) (u : Value) : Kept S a (w.setCell p u) :=
  ⟨h.os, h.tape, h.output, by simpa using h.size, fun k hk hn => by
    rw [Below.heap_setCell _ _ _ _ (fun e => by subst e; rcases hp with h1 | h1; exact hn h1; omega)]; exact h.block k hk hn⟩
theorem Kept.grown {S : List Nat} {a w w' : World} {row : Option Nat} (h : Kept S a w) (hg : w.grownBy w' row) (hr : ∀ k, row = some k → k ∈ S ∨ a.heap.size ≤ k) : Kept S a w' :=
  ⟨hg.os.trans h.os, hg.tape.trans h.tape, hg.output.trans h.output, Nat.le_trans h.size hg.size, fun i hi hn => by
    rw [hg.block i (Nat.lt_of_lt_of_le hi h.size) (fun e => by rcases hr i e.symm with h1 | h1; exact hn h1; omega)]
    exact h.block i hi hn⟩
theorem Kept.below {w w' : World} (h : Kept [] w w') : Below w.heap.size w w' := ⟨h.os, h.tape, h.output, h.size, fun k hk => h.block k hk (by simp)⟩
theorem Kept.cell {S : List Nat} {w w' : World} (h : Kept S w w') {p : Addr} (hp : p.block < w.heap.size) (hn : p.block ∉ S) : w'.cell? p = w.cell? p := World.cell?_of_block (w := w) (h.block p.block hp hn)
theorem Kept.keeps {S : List Nat} {w w' : World} (h : Kept S w w') {g : Nat} {o : Obj} (hg : w.heap[g]? = some o) (hn : g ∉ S) : w'.heap[g]? = some o := by
  rw [h.block g (lt_of_block hg) hn]; exact hg
/-- A byte as a cell. -/
def B8 (u : UInt8) : Value := .int .u8 u.toNat
/-- Bytes as cells. -/
def C8 (l : List UInt8) : List Value := l.map B8
theorem C8_length (l : List UInt8) : (C8 l).length = l.length := by simp [C8]
theorem C8_one (l : List UInt8) : ∀ u ∈ C8 l, u.oneCell' = true := by
  intro u hu
  simp only [C8, List.mem_map] at hu
  obtain ⟨b, _, rfl⟩ := hu
  rfl
theorem C8_append (a b : List UInt8) : C8 (a ++ b) = C8 a ++ C8 b := by simp [C8]
/-- The slice v reads as the bytes l. -/
def Reads (w : World) (v : Value) (l : List UInt8) : Prop :=
  ∃ a cap, v = .slice a l.length cap ∧ l.length ≤ cap ∧ cap ≤ maxLen ∧ (a = none → cap = 0) ∧ (l ≠ [] → ∃ b o, a = some ⟨b, o, none⟩ ∧ ∀ j u, l[j]? = some u → w.cell? ⟨b, o + j, none⟩ = some (B8 u))
theorem Reads.nil (w : World) : Reads w (.slice none 0 0) [] := ⟨none, 0, rfl, by simp, by simp, by simp, by simp⟩
theorem Reads.lt {w : World} {v : Value} {l : List UInt8} (h : Reads w v l) (hl : l ≠ []) : ∃ k, v.ownBlock = some k ∧ k < w.heap.size := by
  obtain ⟨a, cap, rfl, _, _, _, h5⟩ := h
  obtain ⟨b, o, rfl, hc⟩ := h5 hl
  match l, hl with
  | x :: t, _ => exact ⟨b, rfl, World.block_lt_of_cell? w _ (hc 0 x rfl)⟩
theorem Reads.kept {S : List Nat} {w w' : World} {v : Value} {l : List UInt8} (h : Reads w v l) (k : Kept S w w') (hn : ∀ g, v.ownBlock = some g → g ∉ S) : Reads w' v l := by
  obtain ⟨a, cap, rfl, h2, h3, h4, h5⟩ := h
  refine ⟨a, cap, rfl, h2, h3, h4, fun hl => ?_⟩
  obtain ⟨b, o, rfl, hc⟩ := h5 hl
  refine ⟨b, o, rfl, fun j u hu => ?_⟩
  have := hc j u hu
  rw [k.cell (World.block_lt_of_cell? w _ this) (hn b rfl)]
  exact this
/-- The slice v owns the bytes l, in a row of its own. -/
def Owns (e : TypeId) (w : World) (v : Value) (l : List UInt8) : Prop := w.ownsRow 0 e 1 v l.length (C8 l)
theorem Owns.nil (e : TypeId) (w : World) : Owns e w (.slice none 0 0) [] := World.ownsRow_nil w 0 e 1
theorem Owns.reads {e : TypeId} {w : World} {v : Value} {l : List UInt8} (h : Owns e w v l) : Reads w v l := by
  have hcells := fun g hg => World.ownsRow.cells h (g := g) hg
  rcases h.2 with ⟨rfl, h0⟩ | ⟨g, cap, cur, rfl, _, hg, h1, h2, h3, h4⟩
  · have : l = [] := List.eq_nil_of_length_eq_zero h0
    subst this
    exact Reads.nil w
  · refine ⟨some ⟨g, 0, none⟩, cap, rfl, h1, h2, by simp, fun hl => ⟨g, 0, rfl, fun j u hu => ?_⟩⟩
    have := hcells g rfl j (B8 u) (by simp [C8, hu])
    have hadd : (⟨g, 0, Option.none⟩ : Addr).add j = ⟨g, 0 + j, Option.none⟩ := by unfold Addr.add; split <;> simp_all
    rw [hadd] at this
    exact this
theorem Owns.kept {e : TypeId} {S : List Nat} {w w' : World} {v : Value} {l : List UInt8} (h : Owns e w v l) (k : Kept S w w') (hn : ∀ g, v.ownBlock = some g → g ∉ S) : Owns e w' v l := by
  refine ⟨h.1, ?_⟩
  rcases h.2 with h0 | ⟨g, cap, cur, rfl, hb, hg, r⟩
  · exact .inl h0
  · exact .inr ⟨g, cap, cur, rfl, hb, k.keeps hg (hn g rfl), r⟩
theorem Owns.lt {e : TypeId} {w : World} {v : Value} {l : List UInt8} (h : Owns e w v l) {k : Nat} (hk : v.ownBlock = some k) : k < w.heap.size := (World.ownsRow.lt h k hk).2
/-- A Writer (type t, a block of one cell) at block p, whose slice is v, has laid the bytes l. -/
structure IsW (t e : TypeId) (w : World) (p : Nat) (v : Value) (l : List UInt8) : Prop where
  box : w.heap[p]? = some (.cells #[v] t (0, 0))
  own : Owns e w v l
  apart : v.ownBlock ≠ some p
theorem IsW.lt {t e : TypeId} {w : World} {p : Nat} {v : Value} {l : List UInt8} (h : IsW t e w p v l) : p < w.heap.size := lt_of_block h.box
theorem IsW.kept {t e : TypeId} {S : List Nat} {w w' : World} {p : Nat} {v : Value} {l : List UInt8} (h : IsW t e w p v l) (k : Kept S w w') (hp : p ∉ S) (hn : ∀ g, v.ownBlock = some g → g ∉ S) : IsW t e w' p v l :=
  ⟨k.keeps h.box hp, h.own.kept k hn, h.apart⟩
/-- What a Writer may turn: its block, and its row. -/
def foot (p : Nat) (v : Value) : List Nat := p :: v.ownBlock.toList
theorem mem_foot {p k : Nat} {v : Value} : k ∈ foot p v ↔ k = p ∨ v.ownBlock = some k := by simp [foot, Option.mem_toList]
/-- A Reader (type t, a block of two cells) at block p, whose slice is v, has the bytes l left. -/
structure IsR (t : TypeId) (w : World) (p : Nat) (v : Value) (l : List UInt8) (bad : Bool) : Prop where
  box : w.heap[p]? = some (.cells #[v, .bool bad] t (0, 0))
  reads : Reads w v l
  apart : v.ownBlock ≠ some p
  none : bad = true → l = []
theorem IsR.lt {t : TypeId} {w : World} {p : Nat} {v : Value} {l : List UInt8} {bad : Bool} (h : IsR t w p v l bad) : p < w.heap.size := lt_of_block h.box
theorem IsR.kept {t : TypeId} {S : List Nat} {w w' : World} {p : Nat} {v : Value} {l : List UInt8} {bad : Bool} (h : IsR t w p v l bad) (k : Kept S w w') (hp : p ∉ S) (hn : ∀ g, v.ownBlock = some g → g ∉ S) : IsR t w' p v l bad :=
  ⟨k.keeps h.box hp, h.reads.kept k hn, h.apart, h.none⟩
theorem cell_of_two {w : World} {b : Nat} {v u : Value} {t : TypeId} (h : w.heap[b]? = some (.cells #[v, u] t (0, 0))) : w.cell? ⟨b, 0, none⟩ = some v ∧ w.cell? ⟨b, 1, none⟩ = some u := by simp [World.cell?, h]
theorem free_of_two {w : World} {b : Nat} {v u : Value} {t : TypeId} (h : w.heap[b]? = some (.cells #[v, u] t (0, 0))) : w.frozen? ⟨b, 0, none⟩ = false ∧ w.frozen? ⟨b, 1, none⟩ = false := by simp [World.frozen?, h]
theorem oneC8 (b : UInt8) : C8 [b] = [B8 b] := rfl
theorem B8_of (n : Nat) (z : Int) (h : z = ((n % 256 : Nat) : Int)) : Value.int .u8 z = B8 (UInt8.ofNat n) := by
  unfold B8; rw [h]; simp
/-- The slice v1 lies where v lay, or in memory that is new since w. -/
def New (w : World) (v v1 : Value) : Prop := ∀ g, v1.ownBlock = some g → v.ownBlock = some g ∨ w.heap.size ≤ g
theorem New.refl (w : World) (v : Value) : New w v v := fun _ h => .inl h
theorem New.trans {w w1 : World} {v v1 v2 : Value} (h : New w v v1) (k : New w1 v1 v2) (hs : w.heap.size ≤ w1.heap.size) : New w v v2 := fun g hg => by
  rcases k g hg with h1 | h1
  · exact h g h1
  · exact .inr (by omega)
/-- What a call leaves of a Writer: it has laid l, in its old row or in a new one; nothing else that was there has turned. -/
def Laid (t e : TypeId) (w : World) (p : Nat) (v : Value) (l : List UInt8) (w' : World) : Prop :=
  ∃ v', IsW t e w' p v' l ∧ Kept (foot p v) w w' ∧ New w v v'
theorem Laid.trans {t e : TypeId} {w w1 w2 : World} {p : Nat} {v v1 : Value} {l2 : List UInt8} (k : Kept (foot p v) w w1) (hn : New w v v1) (h2 : Laid t e w1 p v1 l2 w2) : Laid t e w p v l2 w2 := by
  obtain ⟨v2, hw2, k2, n2⟩ := h2
  refine ⟨v2, hw2, k.trans k2 ?_, hn.trans n2 k.size⟩
  intro x hx
  rcases mem_foot.1 hx with rfl | hx
  · exact .inl (mem_foot.2 (.inl rfl))
  · rcases hn x hx with h | h
    · exact .inl (mem_foot.2 (.inr h))
    · exact .inr h
/-- One step of a Writer: its slice is appended to (whatever new blocks were laid before), and stored. -/
theorem laid_step {t e : TypeId} {w w0 w1 : World} {p : Nat} {v v1 : Value} {l l1 : List UInt8} (hW : IsW t e w p v l) (k0 : Kept [] w w0) (hown : Owns e w1 v1 l1) (hg : w0.grownBy w1 v.ownBlock) (hat : New w v v1) :
    Laid t e w p v l1 (w1.setCell ⟨p, 0, none⟩ v1) := by
  have hp := hW.lt
  have hne : v1.ownBlock ≠ some p := fun h => by
    rcases hat p h with h1 | h1
    · exact hW.apart h1
    · omega
  have kf : Kept (foot p v) w w1 := (k0.mono (by simp)).grown hg (fun k hk => .inl (mem_foot.2 (.inr hk)))
  have hbox1 : w1.heap[p]? = some (.cells #[v] t (0, 0)) := by
    rw [hg.block p (Nat.lt_of_lt_of_le hp k0.size) (fun h => hW.apart h.symm)]
    exact k0.keeps hW.box (by simp)
  refine ⟨v1, ⟨one_setCell hbox1, ownsRow_setCell_other hown hne _, hne⟩, kf.setCell (.inl (mem_foot.2 (.inl rfl))) _, hat⟩
/-- Behind an append to its row a Writer's own cell is as it was: it may be stored into. -/
theorem ready_store {t e : TypeId} {w w0 w1 : World} {p : Nat} {v : Value} {l : List UInt8} (hW : IsW t e w p v l) (k0 : Kept [] w w0) (hg : w0.grownBy w1 v.ownBlock) :
    w1.cell? ⟨p, 0, none⟩ = some v ∧ w1.frozen? ⟨p, 0, none⟩ = false := by
  have hbox1 : w1.heap[p]? = some (.cells #[v] t (0, 0)) := by
    rw [hg.block p (Nat.lt_of_lt_of_le hW.lt k0.size) (fun h => hW.apart h.symm)]
    exact k0.keeps hW.box (by simp)
  exact ⟨cell_of_one hbox1, free_of_one hbox1⟩
/-- What 'append(v, byte)' leaves, in this seat's words. -/
theorem own_of {e : TypeId} {w1 : World} {v1 : Value} {l : List UInt8} {z : Int} {n : Nat} (hz : z = ((n % 256 : Nat) : Int)) (h : w1.ownsRow 0 e 1 v1 (l.length + 1) (C8 l ++ [.int .u8 z])) : Owns e w1 v1 (l ++ [UInt8.ofNat n]) := by
  unfold Owns
  rw [C8_append, oneC8, ← B8_of n z hz, List.length_append]
  exact h
theorem new_of {w : World} {v : Value} {g n cap k : Nat} (hat : v.ownBlock = some g ∨ g = w.heap.size + k) : New w v (.slice (some ⟨g, 0, none⟩) n cap) := by
  intro x hx
  simp [Value.ownBlock] at hx
  subst hx
  rcases hat with h | h
  · exact .inl h
  · exact .inr (by omega)
/-- 'n >> (8 * i)'. -/
theorem run_shr8 {P : Program} (n i : Nat) (k : IntKind) (hi : i ≤ 7) (w : World) : (Op.shift .shr .u64 (n : Int) k (8 * (i : Int))).run P w = .ok (.int .u64 ((n / 256 ^ i : Nat) : Int)) w := by
  have e1 : ¬ (8 * (i : Int) < 0) := by omega
  have e2 : min (8 * (i : Int)).toNat IntKind.u64.bits = 8 * i := by
    have : IntKind.u64.bits = 64 := rfl
    rw [this]; omega
  have e3 : (256 : Nat) ^ i = 2 ^ (8 * i) := by rw [show (256 : Nat) = 2 ^ 8 from rfl, ← Nat.pow_mul]
  unfold Op.shift
  rw [if_neg e1]
  simp only [e2, Sem.run_pure]
  rw [e3, Int.fdiv_eq_ediv_of_nonneg _ (by exact Int.pow_nonneg (by decide))]
  simp
/-- The byte of 'byte(n >> (8 * i))', as the walk spells it. -/
theorem byte_shr (n i : Nat) : IntKind.u8.wrap ((n : Int) / 2 ^ (8 * (i : Int)).toNat) = ((n / 256 ^ i % 256 : Nat) : Int) := by
  have e3 : (256 : Nat) ^ i = 2 ^ (8 * i) := by rw [show (256 : Nat) = 2 ^ 8 from rfl, ← Nat.pow_mul]
  have e4 : (8 * (i : Int)).toNat = 8 * i := by omega
  have e5 : ((n : Int) / 2 ^ (8 * i)) = ((n / 2 ^ (8 * i) : Nat) : Int) := by simp
  rw [e4, e5, e3, IntKind.wrap_u8]
  omega
end Go.Proofs.Ytmihpgejaobdbaa
