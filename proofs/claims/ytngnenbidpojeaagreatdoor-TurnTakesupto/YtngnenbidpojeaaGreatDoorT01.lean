import Derived.WalkKit
import Derived.Deep.AppendLies
import Derived.Lib.AppendStr
import Derived.Laws.IdiomStrings
import Derived.OneCell
import Derived.KernelRfl
import Derived.Test.YtngnenbidpojeaaGreatDoorRows
import Derived.WalkLawsBesides
import Derived.WalkSpells
import Derived.Lib.Zigzag
import Derived.Lib.BitFns
/-
 What the walks of this seat say of memory: which old blocks are kept, which bytes a slice reads as, what a Writer and a Reader hold. Nothing here speaks of the program.
-/
namespace Go.Proofs.YtngnenbidpojeaaGreatDoor
set_option maxRecDepth 100000
open Go.RowKit
structure Kept (S : List Nat) (w w' : World) : Prop where
 os : w'.os = w.os
 tape : w'.tape = w.tape
 output : w'.output = w.output
 size : w.heap.size ≤ w'.heap.size
 block : ∀ k, k < w.heap.size → k ∉ S → w'.heap[k]? = w.heap[k]?
theorem Kept.refl (S : List Nat) (w : World) : Kept S w w := ⟨rfl, rfl, rfl, Nat.le_refl _, fun _ _ _ => rfl⟩
theorem Kept.trans {S T : List Nat} {a b c : World} (h : Kept S a b) (k : Kept T b c) (hT : ∀ x ∈ T, x ∈ S ∨ a.heap.size ≤ x) : Kept S a c :=
 ⟨k.os.trans h.os, k.tape.trans h.tape, k.output.trans h.output, Nat.le_trans h.size k.size, fun i hi hn => by
  rw [k.block i (Nat.lt_of_lt_of_le hi h.size) (fun hm => by rcases hT i hm with h1 | h1; exact hn h1; omega)]
  exact h.block i hi hn⟩
theorem Kept.mono {S T : List Nat} {a b : World} (h : Kept S a b) (hT : ∀ x ∈ S, x ∈ T ∨ a.heap.size ≤ x) : Kept T a b :=
 ⟨h.os, h.tape, h.output, h.size, fun i hi hn => h.block i hi (fun hm => by rcases hT i hm with h1 | h1; exact hn h1; omega)⟩
theorem Kept.drew {S : List Nat} {a w : World} (h : Kept S a w) : Kept S a w.drew := ⟨h.os, h.tape, h.output, h.size, h.block⟩
theorem Kept.alloc {S : List Nat} {a w : World} (h : Kept S a w) (o : Obj) : Kept S a (w.alloc o) :=
 ⟨h.os, h.tape, h.output, by have := h.size; simp; omega, fun k hk hn => by
  rw [Below.heap_alloc _ _ _ (Nat.lt_of_lt_of_le hk h.size)]; exact h.block k hk hn⟩
theorem Kept.setCell {S : List Nat} {a w : World} (h : Kept S a w) {p : Addr} (hp : p.block ∈ S ∨ a.heap.size ≤ p.block) (u : Value) : Kept S a (w.setCell p u) :=
 ⟨h.os, h.tape, h.output, by simpa using h.size, fun k hk hn => by
  rw [Below.heap_setCell _ _ _ _ (fun e => by subst e; rcases hp with h1 | h1; exact hn h1; omega)]; exact h.block k hk hn⟩
theorem Kept.grown {S : List Nat} {a w w' : World} {row : Option Nat} (h : Kept S a w) (hg : w.grownBy w' row) (hr : ∀ k, row = some k → k ∈ S ∨ a.heap.size ≤ k) : Kept S a w' :=
 ⟨hg.os.trans h.os, hg.tape.trans h.tape, hg.output.trans h.output, Nat.le_trans h.size hg.size, fun i hi hn => by
  rw [hg.block i (Nat.lt_of_lt_of_le hi h.size) (fun e => by rcases hr i e.symm with h1 | h1; exact hn h1; omega)]
  exact h.block i hi hn⟩
theorem Kept.below {w w' : World} (h : Kept [] w w') : Below w.heap.size w w' := ⟨h.os, h.tape, h.output, h.size, fun k hk => h.block k hk (by simp)⟩
theorem Kept.cell {S : List Nat} {w w' : World} (h : Kept S w w') {p : Addr} (hp : p.block < w.heap.size) (hn : p.block ∉ S) : w'.cell? p = w.cell? p := World.cell?_of_block (w := w) (h.block p.block hp hn)
theorem Kept.keeps {S : List Nat} {w w' : World} (h : Kept S w w') {g : Nat} {o : Obj} (hg : w.heap[g]? = some o) (hn : g ∉ S) : w'.heap[g]? = some o := by
 rw [h.block g (lt_of_block hg) hn]; exact hg
def B8 (u : UInt8) : Value := .int .u8 u.toNat
def C8 (l : List UInt8) : List Value := l.map B8
theorem C8_length (l : List UInt8) : (C8 l).length = l.length := by simp [C8]
theorem C8_one (l : List UInt8) : ∀ u ∈ C8 l, u.oneCell' = true := by
 intro u hu
 simp only [C8, List.mem_map] at hu
 obtain ⟨b, _, rfl⟩ := hu
 rfl
theorem C8_append (a b : List UInt8) : C8 (a ++ b) = C8 a ++ C8 b := by simp [C8]
def Reads (w : World) (v : Value) (l : List UInt8) : Prop :=
 ∃ a cap, v = .slice a l.length cap ∧ l.length ≤ cap ∧ cap ≤ maxLen ∧ (a = none → cap = 0) ∧ (l ≠ [] → ∃ b o, a = some ⟨b, o, none⟩ ∧ ∀ j u, l[j]? = some u → w.cell? ⟨b, o + j, none⟩ = some (B8 u))
theorem Reads.nil (w : World) : Reads w (.slice none 0 0) [] := ⟨none, 0, rfl, by simp, by simp, by simp, by simp⟩
theorem Reads.kept {S : List Nat} {w w' : World} {v : Value} {l : List UInt8} (h : Reads w v l) (k : Kept S w w') (hn : ∀ g, v.ownBlock = some g → g ∉ S) : Reads w' v l := by
 obtain ⟨a, cap, rfl, h2, h3, h4, h5⟩ := h
 refine ⟨a, cap, rfl, h2, h3, h4, fun hl => ?_⟩
 obtain ⟨b, o, rfl, hc⟩ := h5 hl
 refine ⟨b, o, rfl, fun j u hu => ?_⟩
 have := hc j u hu
 rw [k.cell (World.block_lt_of_cell? w _ this) (hn b rfl)]
 exact this
def Owns (e : TypeId) (w : World) (v : Value) (l : List UInt8) : Prop := w.ownsRow 0 e 1 v l.length (C8 l)
theorem Owns.nil (e : TypeId) (w : World) : Owns e w (.slice none 0 0) [] := World.ownsRow_nil w 0 e 1
theorem Owns.reads {e : TypeId} {w : World} {v : Value} {l : List UInt8} (h : Owns e w v l) : Reads w v l := by
 have hcells := fun g hg => World.ownsRow.cells h (g := g) hg
 rcases h.2 with ⟨rfl, h0⟩ | ⟨g, cap, cur, rfl, _, hg, h1, h2, h3, h4⟩
 ·have : l = [] := List.eq_nil_of_length_eq_zero h0
  subst this
  exact Reads.nil w
 ·refine ⟨some ⟨g, 0, none⟩, cap, rfl, h1, h2, by simp, fun hl => ⟨g, 0, rfl, fun j u hu => ?_⟩⟩
  have := hcells g rfl j (B8 u) (by simp [C8, hu])
  have hadd : (⟨g, 0, Option.none⟩ : Addr).add j = ⟨g, 0 + j, Option.none⟩ := by unfold Addr.add; split <;> simp_all
  rw [hadd] at this
  exact this
theorem Owns.kept {e : TypeId} {S : List Nat} {w w' : World} {v : Value} {l : List UInt8} (h : Owns e w v l) (k : Kept S w w') (hn : ∀ g, v.ownBlock = some g → g ∉ S) : Owns e w' v l := by
 refine ⟨h.1, ?_⟩
 rcases h.2 with h0 | ⟨g, cap, cur, rfl, hb, hg, r⟩
 ·exact .inl h0
 ·exact .inr ⟨g, cap, cur, rfl, hb, k.keeps hg (hn g rfl), r⟩
theorem Owns.lt {e : TypeId} {w : World} {v : Value} {l : List UInt8} (h : Owns e w v l) {k : Nat} (hk : v.ownBlock = some k) : k < w.heap.size := (World.ownsRow.lt h k hk).2
structure IsW (t e : TypeId) (w : World) (p : Nat) (v : Value) (l : List UInt8) : Prop where
 box : w.heap[p]? = some (.cells #[v] t (0, 0))
 own : Owns e w v l
 apart : v.ownBlock ≠ some p
theorem IsW.lt {t e : TypeId} {w : World} {p : Nat} {v : Value} {l : List UInt8} (h : IsW t e w p v l) : p < w.heap.size := lt_of_block h.box
theorem IsW.kept {t e : TypeId} {S : List Nat} {w w' : World} {p : Nat} {v : Value} {l : List UInt8} (h : IsW t e w p v l) (k : Kept S w w') (hp : p ∉ S) (hn : ∀ g, v.ownBlock = some g → g ∉ S) : IsW t e w' p v l :=
 ⟨k.keeps h.box hp, h.own.kept k hn, h.apart⟩
def foot (p : Nat) (v : Value) : List Nat := p :: v.ownBlock.toList
theorem mem_foot {p k : Nat} {v : Value} : k ∈ foot p v ↔ k = p ∨ v.ownBlock = some k := by simp [foot, Option.mem_toList]
structure IsR (t : TypeId) (w : World) (p : Nat) (v : Value) (l : List UInt8) (bad : Bool) : Prop where
 box : w.heap[p]? = some (.cells #[v, .bool bad] t (0, 0))
 reads : Reads w v l
 apart : v.ownBlock ≠ some p
 none : bad = true → l = []
theorem IsR.lt {t : TypeId} {w : World} {p : Nat} {v : Value} {l : List UInt8} {bad : Bool} (h : IsR t w p v l bad) : p < w.heap.size := lt_of_block h.box
theorem IsR.kept {t : TypeId} {S : List Nat} {w w' : World} {p : Nat} {v : Value} {l : List UInt8} {bad : Bool} (h : IsR t w p v l bad) (k : Kept S w w') (hp : p ∉ S) (hn : ∀ g, v.ownBlock = some g → g ∉ S) : IsR t w' p v l bad :=
 ⟨k.keeps h.box hp, h.reads.kept k hn, h.apart, h.none⟩
theorem cell_of_two {w : World} {b : Nat} {v u : Value} {t : TypeId} (h : w.heap[b]? = some (.cells #[v, u] t (0, 0))) : w.cell? ⟨b, 0, none⟩ = some v ∧ w.cell? ⟨b, 1, none⟩ = some u := by simp [World.cell?, h]
theorem free_of_two {w : World} {b : Nat} {v u : Value} {t : TypeId} (h : w.heap[b]? = some (.cells #[v, u] t (0, 0))) : w.frozen? ⟨b, 0, none⟩ = false ∧ w.frozen? ⟨b, 1, none⟩ = false := by simp [World.frozen?, h]
theorem oneC8 (b : UInt8) : C8 [b] = [B8 b] := rfl
theorem B8_of (n : Nat) (z : Int) (h : z = ((n % 256 : Nat) : Int)) : Value.int .u8 z = B8 (UInt8.ofNat n) := by
 unfold B8; rw [h]; simp
def New (w : World) (v v1 : Value) : Prop := ∀ g, v1.ownBlock = some g → v.ownBlock = some g ∨ w.heap.size ≤ g
theorem New.refl (w : World) (v : Value) : New w v v := fun _ h => .inl h
theorem New.trans {w w1 : World} {v v1 v2 : Value} (h : New w v v1) (k : New w1 v1 v2) (hs : w.heap.size ≤ w1.heap.size) : New w v v2 := fun g hg => by
 rcases k g hg with h1 | h1
 ·exact h g h1
 ·exact .inr (by omega)
def Laid (t e : TypeId) (w : World) (p : Nat) (v : Value) (l : List UInt8) (w' : World) : Prop :=
 ∃ v', IsW t e w' p v' l ∧ Kept (foot p v) w w' ∧ New w v v'
theorem Laid.trans {t e : TypeId} {w w1 w2 : World} {p : Nat} {v v1 : Value} {l2 : List UInt8} (k : Kept (foot p v) w w1) (hn : New w v v1) (h2 : Laid t e w1 p v1 l2 w2) : Laid t e w p v l2 w2 := by
 obtain ⟨v2, hw2, k2, n2⟩ := h2
 refine ⟨v2, hw2, k.trans k2 ?_, hn.trans n2 k.size⟩
 intro x hx
 rcases mem_foot.1 hx with rfl | hx
 ·exact .inl (mem_foot.2 (.inl rfl))
 ·rcases hn x hx with h | h
  ·exact .inl (mem_foot.2 (.inr h))
  ·exact .inr h
theorem laid_step {t e : TypeId} {w w0 w1 : World} {p : Nat} {v v1 : Value} {l l1 : List UInt8} (hW : IsW t e w p v l) (k0 : Kept [] w w0) (hown : Owns e w1 v1 l1) (hg : w0.grownBy w1 v.ownBlock) (hat : New w v v1) :
  Laid t e w p v l1 (w1.setCell ⟨p, 0, none⟩ v1) := by
 have hp := hW.lt
 have hne : v1.ownBlock ≠ some p := fun h => by
  rcases hat p h with h1 | h1
  ·exact hW.apart h1
  ·omega
 have kf : Kept (foot p v) w w1 := (k0.mono (by simp)).grown hg (fun k hk => .inl (mem_foot.2 (.inr hk)))
 have hbox1 : w1.heap[p]? = some (.cells #[v] t (0, 0)) := by
  rw [hg.block p (Nat.lt_of_lt_of_le hp k0.size) (fun h => hW.apart h.symm)]
  exact k0.keeps hW.box (by simp)
 refine ⟨v1, ⟨one_setCell hbox1, ownsRow_setCell_other hown hne _, hne⟩, kf.setCell (.inl (mem_foot.2 (.inl rfl))) _, hat⟩
theorem ready_store {t e : TypeId} {w w0 w1 : World} {p : Nat} {v : Value} {l : List UInt8} (hW : IsW t e w p v l) (k0 : Kept [] w w0) (hg : w0.grownBy w1 v.ownBlock) :
  w1.cell? ⟨p, 0, none⟩ = some v ∧ w1.frozen? ⟨p, 0, none⟩ = false := by
 have hbox1 : w1.heap[p]? = some (.cells #[v] t (0, 0)) := by
  rw [hg.block p (Nat.lt_of_lt_of_le hW.lt k0.size) (fun h => hW.apart h.symm)]
  exact k0.keeps hW.box (by simp)
 exact ⟨cell_of_one hbox1, free_of_one hbox1⟩
theorem own_of {e : TypeId} {w1 : World} {v1 : Value} {l : List UInt8} {z : Int} {n : Nat} (hz : z = ((n % 256 : Nat) : Int)) (h : w1.ownsRow 0 e 1 v1 (l.length + 1) (C8 l ++ [.int .u8 z])) : Owns e w1 v1 (l ++ [UInt8.ofNat n]) := by
 unfold Owns
 rw [C8_append, oneC8, ← B8_of n z hz, List.length_append]
 exact h
theorem new_of {w : World} {v : Value} {g n cap k : Nat} (hat : v.ownBlock = some g ∨ g = w.heap.size + k) : New w v (.slice (some ⟨g, 0, none⟩) n cap) := by
 intro x hx
 simp [Value.ownBlock] at hx
 subst hx
 rcases hat with h | h
 ·exact .inl h
 ·exact .inr (by omega)
theorem byte_shr (n i : Nat) : IntKind.u8.wrap ((n : Int) / 2 ^ (8 * (i : Int)).toNat) = ((n / 256 ^ i % 256 : Nat) : Int) := by
 have e3 : (256 : Nat) ^ i = 2 ^ (8 * i) := by rw [show (256 : Nat) = 2 ^ 8 from rfl, ← Nat.pow_mul]
 have e4 : (8 * (i : Int)).toNat = 8 * i := by omega
 have e5 : ((n : Int) / 2 ^ (8 * i)) = ((n / 2 ^ (8 * i) : Nat) : Int) := by simp
 rw [e4, e5, e3, IntKind.wrap_u8]
 omega
end Go.Proofs.YtngnenbidpojeaaGreatDoor
namespace Go.Proofs.YtngnenbidpojeaaGreatDoor
set_option maxRecDepth 100000
def width (n : Nat) : Nat :=
 if n < 256 then 1 else if n < 65536 then 2 else if n < 16777216 then 3 else if n < 4294967296 then 4 else if n < 1099511627776 then 5 else if n < 281474976710656 then 6 else if n < 72057594037927936 then 7 else 8
theorem width_pos (n : Nat) : 1 ≤ width n ∧ width n ≤ 8 := by unfold width; (repeat' split) <;> omega
def digits : Nat → Nat → List UInt8
 | 0, _ => []
 | k + 1, n => UInt8.ofNat (n / 256 ^ k) :: digits k n
theorem digits_length (k n : Nat) : (digits k n).length = k := by induction k <;> simp_all [digits]
theorem digits_get (k n : Nat) : ∀ i, i < k → (digits k n)[i]? = some (UInt8.ofNat (n / 256 ^ (k - 1 - i))) := by
 induction k with
 | zero => intro i hi; omega
 | succ k ih =>
  intro i hi
  cases i with
  | zero => simp [digits]
  | succ i =>
   simp only [digits, List.getElem?_cons_succ]
   rw [ih i (by omega), show k + 1 - 1 - (i + 1) = k - 1 - i by omega]
theorem digits_take (k n j : Nat) (h1 : 1 ≤ j) (hj : j ≤ k) : (digits k n).take (k - (j - 1)) = (digits k n).take (k - j) ++ [UInt8.ofNat (n / 256 ^ (j - 1))] := by
 rw [show k - (j - 1) = (k - j) + 1 by omega, List.take_add_one, digits_get k n (k - j) (by omega), show k - 1 - (k - j) = j - 1 by omega]
 rfl
def enc (n : Nat) : List UInt8 := if n ≤ 247 then [UInt8.ofNat n] else UInt8.ofNat (247 + width n) :: digits (width n) n
theorem enc_length (n : Nat) : 1 ≤ (enc n).length ∧ (enc n).length ≤ 9 := by
 have := width_pos n
 unfold enc; split <;> simp [digits_length]; omega
def worth (l : List UInt8) : Nat := l.foldl (fun a b => a * 256 + b.toNat) 0
theorem worth_snoc (l : List UInt8) (b : UInt8) : worth (l ++ [b]) = worth l * 256 + b.toNat := by simp [worth, List.foldl_append]
theorem foldl_worth (l : List UInt8) : ∀ a, l.foldl (fun a b => a * 256 + b.toNat) a = a * 256 ^ l.length + worth l := by
 unfold worth
 induction l with
 | nil => intro a; simp
 | cons b l ih =>
  intro a
  simp only [List.foldl_cons, List.length_cons]
  rw [ih (a * 256 + b.toNat), ih (0 * 256 + b.toNat), Nat.pow_succ, Nat.zero_mul, Nat.zero_add, Nat.add_mul, Nat.mul_assoc, Nat.mul_comm 256]
  omega
theorem worth_cons (b : UInt8) (l : List UInt8) : worth (b :: l) = b.toNat * 256 ^ l.length + worth l := by
 show l.foldl (fun a b => a * 256 + b.toNat) (0 * 256 + b.toNat) = _
 rw [foldl_worth, Nat.zero_mul, Nat.zero_add]
theorem worth_lt (l : List UInt8) : worth l < 256 ^ l.length := by
 induction l with
 | nil => simp [worth]
 | cons b l ih =>
  rw [worth_cons, List.length_cons, Nat.pow_succ]
  have hb := b.toNat_lt
  have : b.toNat * 256 ^ l.length ≤ 255 * 256 ^ l.length := Nat.mul_le_mul_right _ (by omega)
  omega
theorem worth_digits (k n : Nat) : worth (digits k n) = n % 256 ^ k := by
 induction k with
 | zero => simp [digits, worth, Nat.mod_one]
 | succ k ih =>
  rw [digits, worth_cons, digits_length, ih]
  simp only [UInt8.toNat_ofNat', Nat.reducePow]
  rw [Nat.pow_succ, Nat.mod_mul, Nat.mul_comm (n / 256 ^ k % 256)]
  omega
theorem digits_worth (l : List UInt8) (m : Nat) : digits l.length (m * 256 ^ l.length + worth l) = l := by
 induction l generalizing m with
 | nil => rfl
 | cons b l ih =>
  rw [List.length_cons, digits, worth_cons]
  have hw := worth_lt l
  have hp : 0 < 256 ^ l.length := Nat.pos_of_ne_zero (by simp)
  have e : m * 256 ^ (l.length + 1) + (b.toNat * 256 ^ l.length + worth l) = (m * 256 + b.toNat) * 256 ^ l.length + worth l := by
   rw [Nat.pow_succ, Nat.add_mul, Nat.mul_assoc, Nat.mul_comm 256]; omega
  rw [e, ih (m * 256 + b.toNat)]
  congr 1
  rw [Nat.mul_comm (m * 256 + b.toNat), Nat.mul_add_div hp, Nat.div_eq_of_lt hw, Nat.add_zero]
  apply UInt8.toNat_inj.1
  have hb := b.toNat_lt
  simp only [UInt8.toNat_ofNat', Nat.reducePow]
  omega
def dec (l : List UInt8) : Nat × Nat :=
 match l with
 | [] => (0, 0)
 | x :: t =>
  if x.toNat ≤ 247 then (x.toNat, 1)
  else if t.length < x.toNat - 247 ∨ (t.head?.map UInt8.toNat).getD 0 = 0 then (0, 0)
  else if worth (t.take (x.toNat - 247)) ≤ 247 then (0, 0)
  else (worth (t.take (x.toNat - 247)), x.toNat - 247 + 1)
theorem dec_le (l : List UInt8) : (dec l).2 ≤ l.length := by
 unfold dec
 split
 ·simp
 ·repeat' split
  all_goals simp
  all_goals omega
theorem dec_bound (l : List UInt8) : (dec l).1 < 18446744073709551616 := by
 unfold dec
 split
 ·simp
 ·rename_i x t
  have hx := x.toNat_lt
  repeat' split
  ·simp; omega
  ·simp
  ·simp
  ·rename_i h1 h2 h3
   have hw := worth_lt (t.take (x.toNat - 247))
   have hk : (t.take (x.toNat - 247)).length ≤ 8 := by simp; omega
   have := Nat.pow_le_pow_right (n := 256) (by omega) hk
   simp only at hw ⊢
   omega
theorem width_lt (n : Nat) (h : n < 18446744073709551616) : n < 256 ^ width n := by unfold width; (repeat' split) <;> omega
theorem width_ge (n : Nat) (h : 256 ≤ n) : 256 ^ (width n - 1) ≤ n := by unfold width; (repeat' split) <;> simp only [Nat.reducePow, Nat.reduceSub] <;> omega
theorem width_of (n k : Nat) (h1 : 256 ^ k ≤ n) (h2 : n < 256 ^ (k + 1)) (hk : k < 8) : width n = k + 1 := by
 unfold width
 have hc : k = 0 ∨ k = 1 ∨ k = 2 ∨ k = 3 ∨ k = 4 ∨ k = 5 ∨ k = 6 ∨ k = 7 := by omega
 rcases hc with rfl | rfl | rfl | rfl | rfl | rfl | rfl | rfl <;> simp only [Nat.reducePow, Nat.reduceAdd] at h1 h2 ⊢ <;> (repeat' split) <;> omega
theorem dec_enc (n : Nat) (h : n < 18446744073709551616) (rest : List UInt8) : dec (enc n ++ rest) = (n, (enc n).length) := by
 have hw := width_pos n
 unfold enc
 split
 ·rename_i h1
  have e : (UInt8.ofNat n).toNat = n := by simp; omega
  simp [dec, e, h1]
 ·rename_i h1
  have e : (UInt8.ofNat (247 + width n)).toNat = 247 + width n := by simp; omega
  have hl := digits_length (width n) n
  have ht : (digits (width n) n ++ rest).take (width n) = digits (width n) n := List.take_left' hl
  have hv : worth (digits (width n) n) = n := by rw [worth_digits, Nat.mod_eq_of_lt (width_lt n h)]
  obtain ⟨k, hk⟩ : ∃ k, width n = k + 1 := ⟨width n - 1, by omega⟩
  have hhead : ((digits (width n) n ++ rest).head?.map UInt8.toNat).getD 0 ≠ 0 := by
   rw [hk, digits]
   simp only [List.cons_append, List.head?_cons, Option.map_some, Option.getD_some, UInt8.toNat_ofNat', Nat.reducePow]
   by_cases hn : 256 ≤ n
   ·have h2 := width_ge n hn
    have h3 := width_lt n h
    rw [hk] at h2 h3
    simp only [Nat.add_sub_cancel] at h2
    rw [Nat.pow_succ] at h3
    have hp : 0 < 256 ^ k := Nat.pos_of_ne_zero (by simp)
    have h4 := (Nat.le_div_iff_mul_le hp).2 (by simpa using h2 : 1 * 256 ^ k ≤ n)
    have h5 := (Nat.div_lt_iff_lt_mul hp).2 (by rw [Nat.mul_comm]; exact h3 : n < 256 * 256 ^ k)
    omega
   ·have : k = 0 := by
     have : width n = 1 := by simp [width]; omega
     omega
    subst this
    simp
    omega
  have h6 : ¬ (digits (width n) n ++ rest).length < 247 + width n - 247 := by simp [hl]
  simp only [List.cons_append, dec, e]
  rw [if_neg (by omega), if_neg (by rintro (h7 | h7); exact h6 h7; exact hhead h7), show 247 + width n - 247 = width n by omega, ht, hv, if_neg h1]
  simp [hl]
theorem enc_dec (l : List UInt8) (h : (dec l).2 ≠ 0) : enc (dec l).1 = l.take (dec l).2 := by
 match l with
 | [] => simp [dec] at h
 | x :: t =>
  simp only [dec] at h ⊢
  have hx := x.toNat_lt
  by_cases h1 : x.toNat ≤ 247
  ·simp [h1, enc]
  ·rw [if_neg h1] at h ⊢
   by_cases h2 : t.length < x.toNat - 247 ∨ (t.head?.map UInt8.toNat).getD 0 = 0
   ·simp [h2] at h
   ·rw [if_neg h2] at h ⊢
    by_cases h3 : worth (t.take (x.toNat - 247)) ≤ 247
    ·simp [h3] at h
    ·rw [if_neg h3] at h ⊢
     obtain ⟨k, hk⟩ : ∃ k, x.toNat - 247 = k + 1 := ⟨x.toNat - 248, by omega⟩
     have hlen : (t.take (x.toNat - 247)).length = k + 1 := by simp; omega
     have hlt := worth_lt (t.take (x.toNat - 247))
     rw [hlen] at hlt
     cases t with
     | nil => simp at h2
     | cons y t' =>
      have hy : y.toNat ≠ 0 := by
       intro hy; exact h2 (Or.inr (by simp [hy]))
      have hge : 256 ^ k ≤ worth ((y :: t').take (x.toNat - 247)) := by
       rw [hk, List.take_succ_cons, worth_cons]
       have : (t'.take k).length = k := by rw [hk] at hlen; simpa using hlen
       rw [this]
       have : 1 * 256 ^ k ≤ y.toNat * 256 ^ k := Nat.mul_le_mul_right _ (by omega)
       omega
      have hwd := width_of _ k hge hlt (by omega)
      simp only [enc, h3, if_false, hwd]
      have hd := digits_worth ((y :: t').take (x.toNat - 247)) 0
      rw [hlen, Nat.zero_mul, Nat.zero_add] at hd
      rw [hd]
      have hx1 : UInt8.ofNat (247 + (k + 1)) = x := by
       apply UInt8.toNat_inj.1
       simp only [UInt8.toNat_ofNat', Nat.reducePow]
       omega
      rw [hx1, List.take_succ_cons]
def fold (z : Int) : Nat := if z < 0 then (-2 * z - 1).toNat else (2 * z).toNat
def unfold (n : Nat) : Int := if n % 2 = 1 then -((n / 2 : Nat) : Int) - 1 else ((n / 2 : Nat) : Int)
theorem unfold_fold (z : Int) : unfold (fold z) = z := by unfold fold YtngnenbidpojeaaGreatDoor.unfold; split <;> split <;> omega
theorem fold_lt (z : Int) (h1 : -9223372036854775808 ≤ z) (h2 : z ≤ 9223372036854775807) : fold z < 18446744073709551616 := by unfold fold; split <;> omega
end Go.Proofs.YtngnenbidpojeaaGreatDoor
namespace Go.Proofs.YtngnenbidpojeaaGreatDoor
set_option maxRecDepth 100000
open Go.RowKit
theorem ret_int {k : IntKind} {a b : Int} (h : a = b) : Ending.returned (.int k a) = .returned (.int k b) := by rw [h]
set_option maxHeartbeats 400000 in
theorem new_w (w : World) : Calls Tryz.prog 63 #[] w fun e w' => e = .returned (.pointer (some ⟨w.heap.size, 0, none⟩)) ∧ w' = w.alloc (.cells #[.slice none 0 0] 205) := by
 go_enter Tryz.func63, Tryz.ntmps63
 go_wp2
 go_ret
 exact ⟨rfl, rfl⟩
theorem zigzag_eq (z : Int) : Lib.zigzag z = fold z := by unfold Lib.zigzag fold; split <;> split <;> omega
set_option maxHeartbeats 400000 in
theorem fold_any (z : Int) (w : World) (h1 : -9223372036854775808 ≤ z) (h2 : z ≤ 9223372036854775807) : Calls Tryz.prog 139 #[.int .i64 z] w fun e w' => e = .returned (.int .u64 (fold z : Nat)) ∧ w = w' := by
 have hs : IntKind.u64.signed = false := rfl
 by_cases h : z < 0
 ·go_enter Tryz.func139, Tryz.ntmps139
  go_wp2
  go_ret
  exact ⟨ret_int (by rw [← zigzag_eq]; exact Lib.zigzag_neg h1 h), rfl⟩
 ·go_enter Tryz.func139, Tryz.ntmps139
  go_wp2
  go_ret
  exact ⟨ret_int (by unfold fold; split <;> omega), rfl⟩
set_option maxHeartbeats 400000 in
theorem unfold_any (n : Nat) (w : World) (h2 : n < 18446744073709551616) : Calls Tryz.prog 154 #[.int .u64 (n : Int)] w fun e w' => e = .returned (.int .i64 (unfold n)) ∧ w = w' := by
 have hs : IntKind.i64.signed = true := rfl
 have hn := Lib.i64_not (n / 2) (by omega)
 have HN : Hid (bits .xor .i64 (-1) ((n / 2 : Nat) : Int) = -((n / 2 : Nat) : Int) - 1) := hn
 clear hn
 by_cases h : n % 2 = 1
 ·have hb : ((n : Int) % 2 == 1) = true := by simp; omega
  go_enter Tryz.func154, Tryz.ntmps154
  go_wp2
  go_ret
  exact ⟨ret_int (by unfold YtngnenbidpojeaaGreatDoor.unfold; rw [if_pos h, ← HN.out]; rfl), rfl⟩
 ·have hb : ((n : Int) % 2 == 1) = false := by simp; omega
  go_enter Tryz.func154, Tryz.ntmps154
  go_wp2
  go_ret
  exact ⟨ret_int (by unfold YtngnenbidpojeaaGreatDoor.unfold; rw [if_neg h]; rfl), rfl⟩
theorem len8_range (b : Int) (h0 : 1 ≤ b) (h1 : b ≤ 255) : 1 ≤ Lib.len8 b ∧ Lib.len8 b ≤ 8 := by
 have all : ∀ n : Fin 256, 1 ≤ n.val → 1 ≤ Lib.len8 (n.val : Int) ∧ Lib.len8 (n.val : Int) ≤ 8 := by decide +kernel
 have := all ⟨b.toNat, by omega⟩ (by simp; omega)
 have e : ((b.toNat : Nat) : Int) = b := by omega
 simp only [e] at this
 exact this
set_option linter.unusedVariables false
theorem dec_small (x : UInt8) (t : List UInt8) (h : x.toNat ≤ 247) : dec (x :: t) = (x.toNat, 1) := by simp [dec, h]
theorem dec_short (x : UInt8) (t : List UInt8) (h : ¬ x.toNat ≤ 247) (h2 : t.length < x.toNat - 247) : dec (x :: t) = (0, 0) := by simp [dec, h, h2]
theorem dec_zero (x y : UInt8) (t : List UInt8) (h : ¬ x.toNat ≤ 247) (h2 : y.toNat = 0) : dec (x :: y :: t) = (0, 0) := by simp [dec, h, h2]
theorem dec_low (x y : UInt8) (t : List UInt8) (h : ¬ x.toNat ≤ 247) (h2 : x.toNat - 247 ≤ t.length + 1) (h3 : y.toNat ≠ 0) (h4 : worth ((y :: t).take (x.toNat - 247)) ≤ 247) : dec (x :: y :: t) = (0, 0) := by
 simp only [dec]
 rw [if_neg h, if_neg (by simp; omega), if_pos h4]
theorem dec_high (x y : UInt8) (t : List UInt8) (h : ¬ x.toNat ≤ 247) (h2 : x.toNat - 247 ≤ t.length + 1) (h3 : y.toNat ≠ 0) (h4 : ¬ worth ((y :: t).take (x.toNat - 247)) ≤ 247) : dec (x :: y :: t) = (worth ((y :: t).take (x.toNat - 247)), x.toNat - 247 + 1) := by
 simp only [dec]
 rw [if_neg h, if_neg (by simp; omega), if_neg h4]
set_option maxRecDepth 100000 in
set_option maxHeartbeats 400000 in
theorem first_nil (a : Option Addr) (cap : Nat) (w : World) : Calls Tryz.prog 113 #[.slice a 0 cap] w fun e w' => e = .returned (.tuple #[.int .u64 0, .int .i64 0]) ∧ w = w' := by
 go_enter Tryz.func113, Tryz.ntmps113
 go_wp2
 go_ret2
 exact ⟨rfl, rfl⟩
set_option maxRecDepth 100000 in
set_option maxHeartbeats 400000 in
theorem first_small (b o n cap x : Nat) (w : World) (hn : n + 1 ≤ cap) (hm : cap ≤ 9223372036854775807) (hx : x ≤ 247) (hc : w.cell? ⟨b, o, none⟩ = some (.int .u8 (x : Int))) :
  Calls Tryz.prog 113 #[.slice (some ⟨b, o, none⟩) (n + 1) cap] w fun e w' => e = .returned (.tuple #[.int .u64 (x : Int), .int .i64 1]) ∧ w = w' := by
 have hp : ((n + 1 : Nat) : Int) = (n : Int) + 1 := by omega
 have h0 : (((n + 1 : Nat) : Int) == 0) = false := by simp; omega
 go_enter Tryz.func113, Tryz.ntmps113
 go_wp2
 go_ret2
 exact ⟨rfl, rfl⟩
set_option maxRecDepth 100000 in
set_option maxHeartbeats 400000 in
theorem first_short (b o n cap x : Nat) (w : World) (hn : n + 1 ≤ cap) (hm : cap ≤ 9223372036854775807) (hx : 247 < x) (hx2 : x < 256) (hs : n < x - 247) (hc : w.cell? ⟨b, o, none⟩ = some (.int .u8 (x : Int))) :
  Calls Tryz.prog 113 #[.slice (some ⟨b, o, none⟩) (n + 1) cap] w fun e w' => e = .returned (.tuple #[.int .u64 0, .int .i64 0]) ∧ w = w' := by
 have h0 : (((n + 1 : Nat) : Int) == 0) = false := by simp; omega
 have h1 : ((n + 1 : Nat) : Int) < 1 + (x : Int) - 247 := by omega
 go_enter Tryz.func113, Tryz.ntmps113
 go_wp2
 go_ret2
 exact ⟨rfl, rfl⟩
set_option maxRecDepth 100000 in
set_option maxHeartbeats 400000 in
theorem first_zero (b o n cap x : Nat) (w : World) (hn : n + 2 ≤ cap) (hm : cap ≤ 9223372036854775807) (hx : 247 < x) (hx2 : x < 256) (hs : x - 247 ≤ n + 1) (hc : w.cell? ⟨b, o, none⟩ = some (.int .u8 (x : Int))) (hc1 : w.cell? ⟨b, o + 1, none⟩ = some (.int .u8 0)) :
  Calls Tryz.prog 113 #[.slice (some ⟨b, o, none⟩) (n + 2) cap] w fun e w' => e = .returned (.tuple #[.int .u64 0, .int .i64 0]) ∧ w = w' := by
 have h0 : (((n + 2 : Nat) : Int) == 0) = false := by simp; omega
 have h1 : ¬ ((n + 2 : Nat) : Int) < 1 + (x : Int) - 247 := by omega
 go_enter Tryz.func113, Tryz.ntmps113
 go_wp2
 go_ret2
 exact ⟨rfl, rfl⟩
def firstOut (x N : Nat) : Value := if N ≤ 247 then .tuple #[.int .u64 0, .int .i64 0] else .tuple #[.int .u64 (N : Int), .int .i64 ((x - 247 + 1 : Nat) : Int)]
theorem or_low (N u : Nat) (hN : N < 72057594037927936) (hu : u < 256) : bits .or .u64 ((N : Int) * 256) (u : Int) = (N : Int) * 256 + (u : Int) := by
 have h := u64_or_nat (N * 256) u (by omega) (by omega)
 have e := Nat.two_pow_add_eq_or_of_lt (b := u) (i := 8) (by omega) N
 rw [show (2 : Nat) ^ 8 * N = N * 256 by omega] at e
 rw [← e] at h
 simpa using h
theorem worth_take (t : List UInt8) (j : Nat) (hj : j < t.length) (u : UInt8) (hu : t[j]? = some u) : worth (t.take (j + 1)) = worth (t.take j) * 256 + u.toNat := by
 rw [List.take_add_one, hu]
 exact worth_snoc _ _
theorem worth_take_lt (t : List UInt8) (j : Nat) (hj : j ≤ 7) : worth (t.take j) < 72057594037927936 := by
 have h1 := worth_lt (t.take j)
 have h2 : (t.take j).length ≤ 7 := by simp; omega
 have h3 := Nat.pow_le_pow_right (n := 256) (by omega) h2
 have h4 : (256 : Nat) ^ 7 = 72057594037927936 := by decide
 omega
set_option maxRecDepth 100000 in
set_option maxHeartbeats 1000000 in
theorem first_loop (b o n cap x y : Nat) (t : List UInt8) (w : World) (hn : n + 2 ≤ cap) (hm : cap ≤ 9223372036854775807) (hx : 247 < x) (hx2 : x < 256) (hs : x - 247 ≤ n + 1) (hc : w.cell? ⟨b, o, none⟩ = some (.int .u8 (x : Int))) (hc1 : w.cell? ⟨b, o + 1, none⟩ = some (.int .u8 (y : Int))) (hy : 1 ≤ y)
  (ht : t.length = x - 247) (hct : ∀ j u, t[j]? = some u → w.cell? ⟨b, o + 1 + j, none⟩ = some (.int .u8 (u.toNat : Int))) :
  Calls Tryz.prog 113 #[.slice (some ⟨b, o, none⟩) (n + 2) cap] w fun e w' => e = .returned (firstOut x (worth t)) ∧ w = w' := by
 have h0 : (((n + 2 : Nat) : Int) == 0) = false := by simp; omega
 have h1 : ¬ ((n + 2 : Nat) : Int) < 1 + (x : Int) - 247 := by omega
 have h2 : ((y : Int) == 0) = false := by simp; omega
 have HT : Hid (t.length = x - 247) := ht
 clear ht
 go_enter Tryz.func113, Tryz.ntmps113
 go_wp2
 go_loop [5, 39] (fun c i => ∃ j : Nat, j ≤ x - 247 ∧ i = .int .i64 (j : Int) ∧ c = .int .u64 ((worth (t.take j) : Nat) : Int)) (fun _ i => 9 - (intOf i).toNat)
 case atStart => exact ⟨0, Nat.zero_le _, rfl, rfl⟩
 case round =>
  obtain ⟨j, hj, rfl, rfl⟩ := hrel
  by_cases hlt : j < x - 247
  ·obtain ⟨u, hu⟩ : ∃ u, t[j]? = some u := ⟨t[j]'(by rw [HT.out]; exact hlt), by simp⟩
   have HU : Hid (worth (t.take (j + 1)) = worth (t.take j) * 256 + u.toNat) := worth_take t j (by rw [HT.out]; exact hlt) u hu
   have hN := worth_take_lt t j (by omega)
   have hcj := hct j u hu
   have hub := u.toNat_lt
   have hor := or_low (worth (t.take j)) u.toNat hN hub
   generalize worth (t.take j) = N at hN hor HU ⊢
   generalize u.toNat = U at hub hor HU hcj
   clear hct hc hc1 hu
   go_wp2
   go_round
   case rel => exact ⟨j + 1, by omega, by go_num, by rw [HU.out]; rfl⟩
   case measure => simp [intOf]; omega
  ·have hje : Hid (j = x - 247) := by show _ = _; omega
   have HW : Hid (worth (t.take j) = worth t) := by show _ = _; rw [List.take_of_length_le (by rw [HT.out]; omega)]
   generalize worth (t.take j) = N at HW ⊢
   clear hct hc hc1
   by_cases h247 : N ≤ 247
   ·go_wp2
    go_ret2
    exact ⟨by rw [← HW.out, firstOut, if_pos h247]; rfl, rfl⟩
   ·go_wp2
    go_ret2
    refine ⟨?_, rfl⟩
    rw [← HW.out, firstOut, if_neg h247]
    exact congrArg (fun z => Ending.returned (.tuple #[.int .u64 (N : Int), .int .i64 z])) (by omega)
set_option maxRecDepth 100000 in
theorem first_any (v : Value) (l : List UInt8) (w : World) (h : Reads w v l) :
  Calls Tryz.prog 113 #[v] w fun e w' => e = .returned (.tuple #[.int .u64 ((dec l).1 : Int), .int .i64 ((dec l).2 : Int)]) ∧ w = w' := by
 obtain ⟨a, cap, rfl, h2, h3, h4, h5⟩ := h
 unfold maxLen at h3
 match l with
 | [] => exact first_nil a cap w
 | [x] =>
  obtain ⟨b, o, rfl, hc⟩ := h5 (by simp)
  have hx := x.toNat_lt
  have hc0 := hc 0 x rfl
  by_cases hs : x.toNat ≤ 247
  ·rw [dec_small x [] hs]; exact first_small b o 0 cap x.toNat w (by simpa using h2) h3 hs hc0
  ·rw [dec_short x [] hs (by simp; omega)]; exact first_short b o 0 cap x.toNat w (by simpa using h2) h3 (by omega) hx (by omega) hc0
 | x :: y :: t =>
  obtain ⟨b, o, rfl, hc⟩ := h5 (by simp)
  have hx := x.toNat_lt
  have hc0 := hc 0 x rfl
  have hc1 := hc 1 y rfl
  simp only [List.length_cons] at h2 ⊢
  by_cases hs : x.toNat ≤ 247
  ·rw [dec_small x _ hs]; exact first_small b o (t.length + 1) cap x.toNat w h2 h3 hs hc0
  by_cases hl : t.length + 1 < x.toNat - 247
  ·rw [dec_short x _ hs (by simpa using hl)]; exact first_short b o (t.length + 1) cap x.toNat w h2 h3 (by omega) hx hl hc0
  by_cases hy : y.toNat = 0
  ·rw [dec_zero x y t hs hy]
   exact first_zero b o t.length cap x.toNat w h2 h3 (by omega) hx (by omega) hc0 (by rw [hc1]; simp [B8, hy])
  ·have hlen : ((y :: t).take (x.toNat - 247)).length = x.toNat - 247 := by rw [List.length_take, List.length_cons]; omega
   have key := first_loop b o t.length cap x.toNat y.toNat ((y :: t).take (x.toNat - 247)) w h2 h3 (by omega) hx (by omega) hc0 hc1 (by omega) hlen (fun j u hu => by
    have hj : j < x.toNat - 247 := by
     have := (List.getElem?_eq_some_iff.1 hu).1; omega
    rw [List.getElem?_take_of_lt hj] at hu
    have := hc (j + 1) u (by simpa using hu)
    rw [show o + 1 + j = o + (j + 1) by omega]
    exact this)
   by_cases h247 : worth ((y :: t).take (x.toNat - 247)) ≤ 247
   ·rw [dec_low x y t hs (by omega) hy h247]
    rw [firstOut, if_pos h247] at key
    exact key
   ·rw [dec_high x y t hs (by omega) hy h247]
    rw [firstOut, if_neg h247] at key
    exact key
theorem Owns.form {e : TypeId} {w : World} {v : Value} {l : List UInt8} (h : Owns e w v l) : ∃ a cap, v = .slice a l.length cap := by
 rcases h.2 with ⟨rfl, h0⟩ | ⟨g, cap, cur, rfl, _⟩
 ·exact ⟨none, 0, by rw [h0]⟩
 ·exact ⟨_, cap, rfl⟩
section
variable {P : Program} (w : World)
theorem run_append_str_lies (t u ty e : TypeId) (i : TypeInfo) (ht : P.underlying t = some (.slice e)) (hu : P.underlying u = some .string) (hi : P.info? e = some i) (hz : i.zero = some (.int .u8 0))
  (hsize : i.size = 1) (hby : i.bytes = 1) (v : Value) (l : List UInt8) (hown : Owns e w v l) (s : ByteArray) (hb : l.length + s.size ≤ 140737488355328) :
  ∃ v' w', (Builtin.append_ #[t, u] ty #[v, .string s]).run P w = .ok v' w' ∧ Owns e w' v' (l ++ s.data.toList) ∧ w.grownBy w' v.ownBlock ∧ (∀ g, v'.ownBlock = some g → v.ownBlock = some g ∨ w.heap.size ≤ g) := by
 obtain ⟨v', w', hr, h1, h2, h3⟩ := Lib.run_append_own_string (P := P) w 0 t u ty e i ht hu hi hz hsize hby v l.length (C8 l) hown s (by unfold maxLen; omega) hb (Nat.zero_le _)
 refine ⟨v', w', hr, ?_, h2, ?_⟩
 ·unfold Owns
  rw [C8_append, List.length_append]
  exact h1
 ·have key : ∀ v2 w2, (Builtin.append_ #[t, u] ty #[v, .string s]).run P w = .ok v2 w2 → v2 = v' := fun v2 w2 h => by
   rw [hr] at h; injection h with h _; exact h.symm
  intro g hg
  rcases hown.2 with ⟨rfl, h0⟩ | ⟨g0, cap, cur, rfl, hb0, hg0, hnc, hcm, hcs, htake⟩
  ·by_cases hs : s.size = 0
   ·have := h3.2 ⟨rfl, hs⟩
    rw [this] at hg
    simp [Value.ownBlock] at hg
   ·have hr2 := run_append_nil_string (P := P) w t u ty e i (.int .u8 0) ht hu hi hz s (by omega) (by omega) (by rw [hby]; omega)
    have e1 := key _ _ hr2
    rw [← e1] at hg
    simp [Value.ownBlock] at hg
    exact .inr (by omega)
  ·by_cases hroom : l.length + s.size ≤ cap
   ·have hcs' : cur.size = cap := by simpa using hcs
    have hr2 := Lib.run_append_room_string (P := P) w t u ty e i ht hu hi hsize g0 l.length cap cur hg0 s hroom (by omega)
    have e1 := key _ _ hr2
    rw [← e1] at hg
    exact .inl hg
   ·have holds : ∀ j u, (C8 l)[j]? = some u → w.cell? ((⟨g0, 0, none⟩ : Addr).add j) = some u := World.ownsRow.cells hown (g := g0) rfl
    have hr2 := Lib.run_append_grow_string (P := P) w t u ty e i (.int .u8 0) ht hu hi hz ⟨g0, 0, none⟩ l.length cap (C8 l) (by rw [hsize, Nat.mul_one]; exact C8_length l) holds s (by omega) (by omega) (by rw [hby]; exact growslice_fits (by omega) (by omega))
    have e1 := key _ _ hr2
    rw [← e1] at hg
    simp [Value.ownBlock] at hg
    exact .inr (by omega)
theorem wpList_append_str_lies {ops : Array Oper} {rest : List Oper} {o : Oper} {a : Act} {Q : Exit → Act → World → Prop} (hgd : o.guard = none) (sl x : Operand) (t u : TypeId)
  (ho : o.op = .call { callee := .builtin .append, args := #[sl, x], argTypes := #[t, u] }) (e : TypeId) (i : TypeInfo) (ht : P.underlying t = some (.slice e)) (hu : P.underlying u = some .string) (hi : P.info? e = some i) (hz : i.zero = some (.int .u8 0))
  (hsize : i.size = 1) (hby : i.bytes = 1) (v : Value) (l : List UInt8) (hs : a.eval sl = v) (hown : Owns e w v l) (s : ByteArray) (hx : a.eval x = .string s) (hb : l.length + s.size ≤ 140737488355328)
  (h : ∀ ad n cap w', Owns e w' (.slice ad n cap) (l ++ s.data.toList) → w.grownBy w' v.ownBlock → (∀ g, (Value.slice ad n cap).ownBlock = some g → v.ownBlock = some g ∨ w.heap.size ≤ g) → wpList P ops Q rest (a.put o.dst (.slice ad n cap)) w') : wpList P ops Q (o :: rest) a w := by
 refine wpList_plain hgd fun K hK => ?_
 obtain ⟨v', w', hr, h2, h3, h4⟩ := run_append_str_lies (P := P) w t u o.type e i ht hu hi hz hsize hby v l hown s hb
 unfold Oper.wp execOp
 simp only [ho, resolve, invoke, builtin, Sem.run_bind, Sem.run_pure, Result.andThen_ok, List.map_toArray, List.map_cons, List.map_nil, hs, hx, hr]
 obtain ⟨ad, cap, rfl⟩ := h2.form
 exact hK _ _ (h ad _ cap w' h2 h3 h4)
end
end Go.Proofs.YtngnenbidpojeaaGreatDoor
