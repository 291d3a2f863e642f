/-
  What the walks of this seat say of memory: which old blocks are kept, which bytes a slice reads as, Nothing here speaks of the program.
-/
import Derived.WalkKit
import Derived.Deep.AppendLies
import Derived.Lib.AppendStr
import Derived.Laws.IdiomStrings
import Derived.OneCell
import Derived.BigQuiet
import Derived.Laws.CopyRow
import Derived.Laws.CopyOwn
import Derived.Laws.OwnMore
import Derived.Lib.SliceRun
import Derived.ProofKit
import Derived.OpenShut
namespace Go.Proofs.Ytmbfojjmnjagiaa
open Go.RowKit

/-- All old blocks but those that S names are as they were. -/
structure Kept (S : List Nat) (w w' : World) : Prop where
  os : w'.os = w.os
  tape : w'.tape = w.tape
  output : w'.output = w.output
  size : w.heap.size ≤ w'.heap.size
  block : ∀ k, k < w.heap.size → k ∉ S → w'.heap[k]? = w.heap[k]?

theorem Kept.refl (S : List Nat) (w : World) : Kept S w w := ⟨rfl, rfl, rfl, Nat.le_refl _, fun _ _ _ => rfl⟩

/-- Two steps: what the second may turn is named by the first's list, or is new. -/
theorem Kept.trans {S T : List Nat} {a b c : World} (h : Kept S a b) (k : Kept T b c) (hT : ∀ x ∈ T, x ∈ S ∨ a.heap.size ≤ x) : Kept S a c :=
  ⟨k.os.trans h.os, k.tape.trans h.tape, k.output.trans h.output, Nat.le_trans h.size k.size, fun i hi hn => by
    rw [k.block i (Nat.lt_of_lt_of_le hi h.size) (fun hm => by rcases hT i hm with h1 | h1; exact hn h1; omega)]
    exact h.block i hi hn⟩

theorem Kept.mono {S T : List Nat} {a b : World} (h : Kept S a b) (hT : ∀ x ∈ S, x ∈ T ∨ a.heap.size ≤ x) : Kept T a b :=
  ⟨h.os, h.tape, h.output, h.size, fun i hi hn => h.block i hi (fun hm => by rcases hT i hm with h1 | h1; exact hn h1; omega)⟩

theorem Kept.drew {S : List Nat} {a w : World} (h : Kept S a w) : Kept S a w.drew := ⟨h.os, h.tape, h.output, h.size, h.block⟩

theorem Kept.alloc {S : List Nat} {a w : World} (h : Kept S a w) (o : Obj) : Kept S a (w.alloc o) :=
  ⟨h.os, h.tape, h.output, by have := h.size; simp; omega, fun k hk hn => by
    rw [Below.heap_alloc _ _ _ (Nat.lt_of_lt_of_le hk h.size)]; exact h.block k hk hn⟩

theorem Kept.setCell {S : List Nat} {a w : World} (h : Kept S a w) {p : Addr} (hp : p.block ∈ S ∨ a.heap.size ≤ p.block) (u : Value) : Kept S a (w.setCell p u) :=
  ⟨h.os, h.tape, h.output, by simpa using h.size, fun k hk hn => by
    rw [Below.heap_setCell _ _ _ _ (fun e => by subst e; rcases hp with h1 | h1; exact hn h1; omega)]; exact h.block k hk hn⟩

theorem Kept.grown {S : List Nat} {a w w' : World} {row : Option Nat} (h : Kept S a w) (hg : w.grownBy w' row) (hr : ∀ k, row = some k → k ∈ S ∨ a.heap.size ≤ k) : Kept S a w' :=
  ⟨hg.os.trans h.os, hg.tape.trans h.tape, hg.output.trans h.output, Nat.le_trans h.size hg.size, fun i hi hn => by
    rw [hg.block i (Nat.lt_of_lt_of_le hi h.size) (fun e => by rcases hr i e.symm with h1 | h1; exact hn h1; omega)]
    exact h.block i hi hn⟩

theorem Kept.below {w w' : World} (h : Kept [] w w') : Below w.heap.size w w' := ⟨h.os, h.tape, h.output, h.size, fun k hk => h.block k hk (by simp)⟩

theorem Kept.cell {S : List Nat} {w w' : World} (h : Kept S w w') {p : Addr} (hp : p.block < w.heap.size) (hn : p.block ∉ S) : w'.cell? p = w.cell? p := World.cell?_of_block (w := w) (h.block p.block hp hn)

theorem Kept.keeps {S : List Nat} {w w' : World} (h : Kept S w w') {g : Nat} {o : Obj} (hg : w.heap[g]? = some o) (hn : g ∉ S) : w'.heap[g]? = some o := by
  rw [h.block g (lt_of_block hg) hn]; exact hg

/-- A byte as a cell. -/
def B8 (u : UInt8) : Value := .int .u8 u.toNat
/-- Bytes as cells. -/
def C8 (l : List UInt8) : List Value := l.map B8
theorem C8_length (l : List UInt8) : (C8 l).length = l.length := by simp [C8]
theorem C8_one (l : List UInt8) : ∀ u ∈ C8 l, u.oneCell' = true := by
  intro u hu
  simp only [C8, List.mem_map] at hu
  obtain ⟨b, _, rfl⟩ := hu
  rfl
theorem C8_append (a b : List UInt8) : C8 (a ++ b) = C8 a ++ C8 b := by simp [C8]

/-- The slice v reads as the bytes l. -/
def Reads (w : World) (v : Value) (l : List UInt8) : Prop :=
  ∃ a cap, v = .slice a l.length cap ∧ l.length ≤ cap ∧ cap ≤ maxLen ∧ (a = none → cap = 0) ∧ (l ≠ [] → ∃ b o, a = some ⟨b, o, none⟩ ∧ ∀ j u, l[j]? = some u → w.cell? ⟨b, o + j, none⟩ = some (B8 u))

theorem Reads.nil (w : World) : Reads w (.slice none 0 0) [] := ⟨none, 0, rfl, by simp, by simp, by simp, by simp⟩

theorem Reads.lt {w : World} {v : Value} {l : List UInt8} (h : Reads w v l) (hl : l ≠ []) : ∃ k, v.ownBlock = some k ∧ k < w.heap.size := by
  obtain ⟨a, cap, rfl, _, _, _, h5⟩ := h
  obtain ⟨b, o, rfl, hc⟩ := h5 hl
  match l, hl with
  | x :: t, _ => exact ⟨b, rfl, World.block_lt_of_cell? w _ (hc 0 x rfl)⟩

theorem Reads.kept {S : List Nat} {w w' : World} {v : Value} {l : List UInt8} (h : Reads w v l) (k : Kept S w w') (hn : ∀ g, v.ownBlock = some g → g ∉ S) : Reads w' v l := by
  obtain ⟨a, cap, rfl, h2, h3, h4, h5⟩ := h
  refine ⟨a, cap, rfl, h2, h3, h4, fun hl => ?_⟩
  obtain ⟨b, o, rfl, hc⟩ := h5 hl
  refine ⟨b, o, rfl, fun j u hu => ?_⟩
  have := hc j u hu
  rw [k.cell (World.block_lt_of_cell? w _ this) (hn b rfl)]
  exact this

/-- The slice v owns the bytes l, in a row of its own. -/
def Owns (e : TypeId) (w : World) (v : Value) (l : List UInt8) : Prop := w.ownsRow 0 e 1 v l.length (C8 l)

theorem Owns.nil (e : TypeId) (w : World) : Owns e w (.slice none 0 0) [] := World.ownsRow_nil w 0 e 1

theorem Owns.reads {e : TypeId} {w : World} {v : Value} {l : List UInt8} (h : Owns e w v l) : Reads w v l := by
  have hcells := fun g hg => World.ownsRow.cells h (g := g) hg
  rcases h.2 with ⟨rfl, h0⟩ | ⟨g, cap, cur, rfl, _, hg, h1, h2, h3, h4⟩
  · have : l = [] := List.eq_nil_of_length_eq_zero h0
    subst this
    exact Reads.nil w
  · refine ⟨some ⟨g, 0, none⟩, cap, rfl, h1, h2, by simp, fun hl => ⟨g, 0, rfl, fun j u hu => ?_⟩⟩
    have := hcells g rfl j (B8 u) (by simp [C8, hu])
    have hadd : (⟨g, 0, Option.none⟩ : Addr).add j = ⟨g, 0 + j, Option.none⟩ := by unfold Addr.add; split <;> simp_all
    rw [hadd] at this
    exact this

theorem Owns.kept {e : TypeId} {S : List Nat} {w w' : World} {v : Value} {l : List UInt8} (h : Owns e w v l) (k : Kept S w w') (hn : ∀ g, v.ownBlock = some g → g ∉ S) : Owns e w' v l := by
  refine ⟨h.1, ?_⟩
  rcases h.2 with h0 | ⟨g, cap, cur, rfl, hb, hg, r⟩
  · exact .inl h0
  · exact .inr ⟨g, cap, cur, rfl, hb, k.keeps hg (hn g rfl), r⟩

theorem Owns.lt {e : TypeId} {w : World} {v : Value} {l : List UInt8} (h : Owns e w v l) {k : Nat} (hk : v.ownBlock = some k) : k < w.heap.size := (World.ownsRow.lt h k hk).2

theorem oneC8 (b : UInt8) : C8 [b] = [B8 b] := rfl
theorem B8_of (n : Nat) (z : Int) (h : z = ((n % 256 : Nat) : Int)) : Value.int .u8 z = B8 (UInt8.ofNat n) := by
  unfold B8; rw [h]; simp

/-- The slice v1 lies where v lay, or in memory that is new since w. -/
def New (w : World) (v v1 : Value) : Prop := ∀ g, v1.ownBlock = some g → v.ownBlock = some g ∨ w.heap.size ≤ g

theorem New.refl (w : World) (v : Value) : New w v v := fun _ h => .inl h
theorem New.trans {w w1 : World} {v v1 v2 : Value} (h : New w v v1) (k : New w1 v1 v2) (hs : w.heap.size ≤ w1.heap.size) : New w v v2 := fun g hg => by
  rcases k g hg with h1 | h1
  · exact h g h1
  · exact .inr (by omega)

theorem Kept.drewN {S : List Nat} {a w : World} (h : Kept S a w) (n : Nat) : Kept S a (w.drewN n) := ⟨h.os, h.tape, h.output, h.size, h.block⟩

/-- Block g is a row of the bytes L. -/
def Row (w : World) (g : Nat) (L : List UInt8) : Prop := w.heap[g]? = some (.cells (C8 L).toArray 5 (0, 0))

theorem Row.cell {w : World} {g : Nat} {L : List UInt8} (h : Row w g L) (j : Nat) (u : UInt8) (hu : L[j]? = some u) : w.cell? ⟨g, j, none⟩ = some (B8 u) := by
  unfold Row at h
  simp [World.cell?, h, C8, hu]
theorem Row.free {w : World} {g : Nat} {L : List UInt8} (h : Row w g L) (j : Nat) : w.frozen? ⟨g, j, none⟩ = false := by
  unfold Row at h
  simp [World.frozen?, h]
theorem Row.set {w : World} {g : Nat} {L : List UInt8} (h : Row w g L) (j : Nat) (u : UInt8) : Row (w.setCell ⟨g, j, none⟩ (B8 u)) g (L.set j u) := by
  unfold Row at h ⊢
  rw [setCell_eq_setRow w g j _ 5 (0, 0) _ h, setRow_heap w g _ _ 5 _ h]
  simp [C8]
theorem Row.kept {S : List Nat} {w w' : World} {g : Nat} {L : List UInt8} (h : Row w g L) (k : Kept S w w') (hn : g ∉ S) : Row w' g L := k.keeps h hn
theorem Row.lt {w : World} {g : Nat} {L : List UInt8} (h : Row w g L) : g < w.heap.size := lt_of_block h


/-- Noughts. -/
def zs (n : Nat) : List UInt8 := List.replicate n 0
theorem zs_length (n : Nat) : (zs n).length = n := List.length_replicate ..
theorem zs_add (m n : Nat) : zs m ++ zs n = zs (m + n) := List.replicate_append_replicate
theorem zs_succ (n : Nat) : zs (n + 1) = 0 :: zs n := rfl
theorem zs_drop (m n : Nat) : (zs n).drop m = zs (n - m) := List.drop_replicate ..


/-- The slice v1 lies where v lay, or nowhere. -/
def Within (v v1 : Value) : Prop := ∀ g, v1.ownBlock = some g → v.ownBlock = some g

theorem Within.refl (v : Value) : Within v v := fun _ h => h
theorem Within.trans {v v1 v2 : Value} (h : Within v v1) (k : Within v1 v2) : Within v v2 := fun g hg => h g (k g hg)

/-- 'v[:k]'. -/
theorem slice_to {P : Program} (t e : TypeId) (ht : P.underlying t = some (.slice e)) (hz : ∀ w, (Go.sizeOf e).run P w = .ok 1 w) (kh : IntKind) (a : Option Addr) (cap k : Nat) (l : List UInt8) (w : World) (h : Reads w (.slice a l.length cap) l) (hk : k ≤ l.length) :
    ∃ a' c', (∀ W, (Instr.slice t (.slice a l.length cap) none (some (.int kh (k : Int))) none).run P W = .ok (.slice a' k c') W) ∧ Reads w (.slice a' k c') (l.take k) := by
  have ht' : P.underlying t = some (.slice (P.elem t)) := by simp [Program.elem, ht]
  have he : P.elem t = e := by simp [Program.elem, ht]
  obtain ⟨a0, cap0, hv, h2, h3, h4, h5⟩ := h
  injection hv with e1 e2 e3
  subst e1 e3
  have hl : (l.take k).length = k := by rw [List.length_take]; omega
  refine ⟨if cap = 0 then a else a.map (·.add 0), cap, fun W => ?_, ?_⟩
  · rw [run_slice_h W t _ _ _ ht' kh _ (by omega) (by omega), he, hz]
    simp [Result.andThen, sliced]
  · refine ⟨_, cap, by rw [hl], by omega, h3, ?_, ?_⟩
    · intro hn
      by_cases hc : cap = 0
      · exact hc
      · rw [if_neg hc] at hn
        have : a = none := by cases a <;> simp_all
        exact h4 this
    · intro hne
      have hne' : l ≠ [] := by intro h; subst h; simp at hne
      obtain ⟨b, o, rfl, hc⟩ := h5 hne'
      have hpos : 0 < l.length := List.length_pos_iff.2 hne'
      refine ⟨b, o, ?_, fun j u hu => ?_⟩
      · rw [if_neg (by omega)]
        simp [Addr.add]
      · have hj : j < k := by
          have := (List.getElem?_eq_some_iff.1 hu).1; omega
        rw [List.getElem?_take_of_lt hj] at hu
        exact hc j u hu

/-- 'string(v)'. -/
theorem string_of {P : Program} (t e : TypeId) (ht : P.underlying t = some (.slice e)) (u : TypeId) (he : P.underlying e = some (.int .u8)) (hu : P.underlying u = some .string) (v : Value) (l : List UInt8) (w : World) (h : Reads w v l) :
    (convert t u v).run P w = .ok (.string ⟨l.toArray⟩) w := by
  obtain ⟨a, cap, rfl, h2, h3, h4, h5⟩ := h
  cases a with
  | none =>
    have h0 : l = [] := List.eq_nil_of_length_eq_zero (by have := h4 rfl; omega)
    subst h0
    rw [run_convert_bytes_string w t u e _ _ _ ht he hu]
    simp [Conv.bytesToString]
    rfl
  | some a =>
    refine run_convert_bytes_back w t u e a cap l ht he hu fun j hj => ?_
    obtain ⟨b, o, hab, hc⟩ := h5 (by intro h; subst h; simp at hj)
    simp at hab
    subst hab
    have hadd : (⟨b, o, Option.none⟩ : Addr).add j = ⟨b, o + j, Option.none⟩ := by unfold Addr.add; split <;> simp_all
    rw [hadd]
    exact hc j l[j] (by simp)

theorem reads_of_row (W : World) (x : Addr) (zs : List Int) {len cap : Nat} (hl : len ≤ cap) (hm : cap ≤ maxLen) (hz : zs.length = cap) (hcell : ∀ i, i < zs.length → W.cell? (x.add i) = some (.int .u8 (zs.getD i 0))) (hwz : ∀ n ∈ zs, (Lit.int .u8 n).wf = true) (hb : len ≤ 140737488351232) :
    ∃ l, Reads W (.slice (some x) len cap) l ∧ l.length ≤ 140737488351232 := by
  have hlen : ((zs.take len).map fun z => UInt8.ofNat z.toNat).length = len := by rw [List.length_map, List.length_take]; omega
  refine ⟨(zs.take len).map fun z => UInt8.ofNat z.toNat, ⟨some x, cap, by rw [hlen], by omega, hm, by simp, fun hne => ?_⟩, by omega⟩
  have hpos : 0 < len := by
    rcases Nat.eq_zero_or_pos len with h | h
    · subst h; simp at hne
    · exact h
  obtain ⟨b, o, spot⟩ := x
  have hc := hcell 0 (by omega)
  have hspot : spot = none := by simpa [Addr.add] using World.cell?_spot hc
  subst hspot
  refine ⟨b, o, rfl, fun j u hu => ?_⟩
  rw [List.getElem?_map, Option.map_eq_some_iff] at hu
  obtain ⟨z, hz1, rfl⟩ := hu
  have hj : j < len := by
    have := (List.getElem?_eq_some_iff.1 hz1).1
    rw [List.length_take] at this; omega
  rw [List.getElem?_take_of_lt hj] at hz1
  have h := hcell j (by omega)
  have hadd : (⟨b, o, Option.none⟩ : Addr).add j = ⟨b, o + j, Option.none⟩ := by unfold Addr.add; split <;> simp_all
  rw [hadd] at h
  rw [h]
  have hzz : zs.getD j 0 = z := by simp [List.getD, hz1]
  rw [hzz]
  have hw := bounds_u8 (hwz z (List.mem_of_getElem? hz1))
  congr 1
  exact (B8_of z.toNat z (by omega))

theorem str_ne (l m : List UInt8) (h : l ≠ m) : ((⟨l.toArray⟩ : ByteArray).toList == (⟨m.toArray⟩ : ByteArray).toList) = false := by
  rw [ByteArray.toList_mk, ByteArray.toList_mk]; simpa using h

/-- The slice v lies in memory that is new since w. -/
def Fresh (w : World) (v : Value) : Prop := ∀ g, v.ownBlock = some g → w.heap.size ≤ g

theorem below_kept {w w' : World} (h : Below w.heap.size w w') : Kept [] w w' := ⟨h.os, h.tape, h.output, h.size, fun k hk _ => h.block k hk⟩

theorem C8_splice (L p : List UInt8) (o : Nat) : (C8 L).take o ++ C8 p ++ (C8 L).drop (o + (C8 p).length) = C8 (splice L o p) := by
  unfold splice
  rw [C8_append, C8_append, C8_length, List.append_assoc]
  unfold C8
  rw [List.map_take, List.map_drop]


theorem reads_cases {w : World} {v : Value} {l : List UInt8} (h : Reads w v l) : (∃ a cap, v = .slice a 0 cap ∧ l = [] ∧ cap ≤ 9223372036854775807) ∨ (∃ b o cap, v = .slice (some ⟨b, o, none⟩) l.length cap ∧ l.length ≤ cap ∧ cap ≤ 9223372036854775807 ∧ ∀ j u, l[j]? = some u → w.cell? ⟨b, o + j, none⟩ = some (B8 u)) := by
  obtain ⟨a, cap, rfl, h2, h3, h4, h5⟩ := h
  have h3' : cap ≤ 9223372036854775807 := by unfold maxLen at h3; omega
  by_cases hl : l = []
  · subst hl
    exact .inl ⟨a, cap, rfl, rfl, h3'⟩
  · obtain ⟨b, o, rfl, hc⟩ := h5 hl
    exact .inr ⟨b, o, cap, rfl, h2, h3', hc⟩

theorem Row.reads {w : World} {g : Nat} {L : List UInt8} (h : Row w g L) (o m c : Nat) (M : List UInt8) (hM : M.length = m) (hc : m ≤ c) (hm : c ≤ maxLen) (he : ∀ j u, M[j]? = some u → L[o + j]? = some u) : Reads w (.slice (some ⟨g, o, none⟩) m c) M := by
  subst hM
  exact ⟨_, c, rfl, hc, hm, by simp, fun _ => ⟨g, o, rfl, fun j u hu => h.cell (o + j) u (he j u hu)⟩⟩
theorem Row.reads_all {w : World} {g : Nat} {L : List UInt8} (h : Row w g L) (hl : L.length = 256) : Reads w (.slice (some ⟨g, 0, none⟩) 256 256) L :=
  h.reads 0 256 256 L hl (by omega) (by unfold maxLen; omega) (fun j u hu => by rw [Nat.zero_add]; exact hu)


end Go.Proofs.Ytmbfojjmnjagiaa
