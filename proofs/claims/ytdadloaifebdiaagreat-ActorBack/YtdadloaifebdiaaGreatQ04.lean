import Derived.Test.YtdadloaifebdiaaGreatProg
import Derived.Laws.AppendOwnNone
import Derived.Deep.Slices
import Derived.Test.YtdadloaifebdiaaGreatQ02
import Derived.Test.YtdadloaifebdiaaGreatQ03
/-
  Rows of k cells each: a slice that reads so, one that owns its row, append to one, slices of one.
-/
namespace Go.Proofs.YtdadloaifebdiaaGreat
set_option maxRecDepth 100000
open Go.RowKit
set_option linter.unusedVariables false
theorem ownsRow_keep {S : List Nat} {w w' : World} {e : TypeId} {size : Nat} {v : Value} {n : Nat} {xs : List Value} (h : w.ownsRow 0 e size v n xs) (k : Kept S w w') (hn : ∀ g, v.ownBlock = some g → g ∉ S) : w'.ownsRow 0 e size v n xs := by
  refine ⟨h.1, ?_⟩
  rcases h.2 with h0 | ⟨g, cap, cur, rfl, hb, hg, r⟩
  · exact .inl h0
  · exact .inr ⟨g, cap, cur, rfl, hb, k.keeps hg (hn g rfl), r⟩
theorem add_at (b o j : Nat) : (⟨b, o, none⟩ : Addr).add j = ⟨b, o + j, none⟩ := by unfold Addr.add; split <;> simp_all
/-- Each row has k cells. -/
def Wide (k : Nat) (rs : List (List Value)) : Prop := ∀ r ∈ rs, r.length = k ∧ ∀ u ∈ r, u.oneCell' = true
theorem Wide.append {k : Nat} {a b : List (List Value)} (h : Wide k a) (h' : Wide k b) : Wide k (a ++ b) := fun r hr => by
  rcases List.mem_append.1 hr with hr | hr
  · exact h r hr
  · exact h' r hr
theorem Wide.flat_length {k : Nat} : ∀ {rs : List (List Value)}, Wide k rs → rs.flatten.length = rs.length * k
  | [], _ => by simp
  | r :: rs, h => by
    rw [List.flatten_cons, List.length_append, Wide.flat_length (fun x hx => h x (by simp [hx])), (h r (by simp)).1, List.length_cons, Nat.add_mul]
    omega
theorem Wide.one {k : Nat} {rs : List (List Value)} (h : Wide k rs) : ∀ u ∈ rs.flatten, u.oneCell' = true := fun u hu => by
  obtain ⟨r, hr, hu⟩ := List.mem_flatten.1 hu
  exact (h r hr).2 u hu
theorem Wide.at {k : Nat} : ∀ {rs : List (List Value)} (h : Wide k rs) (j : Nat) (r : List Value), rs[j]? = some r → ∀ (i : Nat) (x : Value), r[i]? = some x → rs.flatten[j * k + i]? = some x
  | [], _, j, r, hj, _, _, _ => by simp at hj
  | s :: rs, h, 0, r, hj, i, x, hx => by
    simp at hj
    subst hj
    rw [List.flatten_cons, Nat.zero_mul, Nat.zero_add, List.getElem?_append_left (List.getElem?_eq_some_iff.1 hx).1]
    exact hx
  | s :: rs, h, j + 1, r, hj, i, x, hx => by
    have := Wide.at (rs := rs) (fun x hx => h x (by simp [hx])) j r (by simpa using hj) i x hx
    have hl := (h s (by simp)).1
    rw [List.flatten_cons, List.getElem?_append_right (by rw [hl, Nat.add_mul]; omega), hl, show (j + 1) * k + i - k = j * k + i by rw [Nat.add_mul]; omega]
    exact this
theorem Wide.inv {k : Nat} : ∀ {rs : List (List Value)} (h : Wide k rs) (m : Nat) (x : Value), rs.flatten[m]? = some x → ∃ j r i, rs[j]? = some r ∧ r[i]? = some x ∧ m = j * k + i
  | [], _, m, x, hx => by simp at hx
  | s :: rs, h, m, x, hx => by
    have hl := (h s (by simp)).1
    rw [List.flatten_cons] at hx
    by_cases hm : m < k
    · rw [List.getElem?_append_left (by omega)] at hx
      exact ⟨0, s, m, rfl, hx, by omega⟩
    · rw [List.getElem?_append_right (by omega), hl] at hx
      obtain ⟨j, r, i, h1, h2, h3⟩ := Wide.inv (fun x hx => h x (by simp [hx])) (m - k) x hx
      exact ⟨j + 1, r, i, by simpa using h1, h2, by rw [Nat.add_mul]; omega⟩
/-- The slice v reads as the rows rs, of k cells each. -/
def ReadsR (k : Nat) (w : World) (v : Value) (rs : List (List Value)) : Prop :=
  ∃ a cap, v = .slice a rs.length cap ∧ rs.length ≤ cap ∧ cap ≤ maxLen ∧ (a = none → cap = 0) ∧ (rs ≠ [] → ∃ b o, a = some ⟨b, o, none⟩ ∧ ∀ j r, rs[j]? = some r → ∀ i x, r[i]? = some x → w.cell? ⟨b, o + j * k + i, none⟩ = some x)
theorem ReadsR.nil (k : Nat) (w : World) : ReadsR k w (.slice none 0 0) [] := ⟨none, 0, rfl, by simp, by simp, by simp, by simp⟩
theorem ReadsR.form {k : Nat} {w : World} {v : Value} {rs : List (List Value)} (h : ReadsR k w v rs) : ∃ a c, v = .slice a rs.length c ∧ rs.length ≤ c ∧ c ≤ 9223372036854775807 := by
  obtain ⟨a, c, h1, h2, h3, _⟩ := h
  exact ⟨a, c, h1, h2, h3⟩
theorem ReadsR.at {k : Nat} {w : World} {v : Value} {rs : List (List Value)} (h : ReadsR k w v rs) (j : Nat) (r : List Value) (hj : rs[j]? = some r) : ∃ b o c, v = .slice (some ⟨b, o, none⟩) rs.length c ∧ ∀ i x, r[i]? = some x → w.cell? ⟨b, o + j * k + i, none⟩ = some x := by
  obtain ⟨a, cap, rfl, h2, h3, h4, h5⟩ := h
  obtain ⟨b, o, rfl, hc⟩ := h5 (by intro e; subst e; simp at hj)
  exact ⟨b, o, cap, rfl, hc j r hj⟩
/-- Every cell that is read is as it was. -/
theorem ReadsR.turn {k : Nat} {w w' : World} {v : Value} {rs : List (List Value)} (h : ReadsR k w v rs) (hc : ∀ g o x, v.ownBlock = some g → w.cell? ⟨g, o, none⟩ = some x → (∃ r ∈ rs, x ∈ r) → w'.cell? ⟨g, o, none⟩ = some x) : ReadsR k w' v rs := by
  obtain ⟨a, cap, rfl, h2, h3, h4, h5⟩ := h
  refine ⟨a, cap, rfl, h2, h3, h4, fun hl => ?_⟩
  obtain ⟨b, o, rfl, hh⟩ := h5 hl
  exact ⟨b, o, rfl, fun j r hj i x hx => hc b _ x rfl (hh j r hj i x hx) ⟨r, List.mem_of_getElem? hj, List.mem_of_getElem? hx⟩⟩
theorem ReadsR.kept {k : Nat} {S : List Nat} {w w' : World} {v : Value} {rs : List (List Value)} (h : ReadsR k w v rs) (kk : Kept S w w') (hn : ∀ g, v.ownBlock = some g → g ∉ S) : ReadsR k w' v rs :=
  h.turn fun g o x hg hx _ => by rw [kk.cell (World.block_lt_of_cell? w _ hx) (hn g hg)]; exact hx
theorem ReadsR.lt {k : Nat} {w : World} {v : Value} {rs : List (List Value)} (h : ReadsR k w v rs) (hw : Wide k rs) (hk : 0 < k) (hne : rs ≠ []) : ∃ g, v.ownBlock = some g ∧ g < w.heap.size := by
  cases rs with
  | nil => exact absurd rfl hne
  | cons r rs =>
    obtain ⟨b, o, c, rfl, hc⟩ := h.at 0 r rfl
    have hl := (hw r (by simp)).1
    cases r with
    | nil => simp at hl; omega
    | cons x r => exact ⟨b, rfl, World.block_lt_of_cell? w _ (hc 0 x rfl)⟩
/-- The slice v owns the rows rs, in memory of its own. -/
def OwnsR (e : TypeId) (k : Nat) (w : World) (v : Value) (rs : List (List Value)) : Prop := w.ownsRow 0 e k v rs.length rs.flatten
theorem OwnsR.nil (e : TypeId) (k : Nat) (w : World) : OwnsR e k w (.slice none 0 0) [] := World.ownsRow_nil w 0 e k
theorem OwnsR.form {e : TypeId} {k : Nat} {w : World} {v : Value} {rs : List (List Value)} (h : OwnsR e k w v rs) : ∃ a c, v = .slice a rs.length c ∧ rs.length ≤ c ∧ c ≤ 9223372036854775807 := by
  rcases h.2 with ⟨rfl, h0⟩ | ⟨g, cap, cur, rfl, _, _, h1, h2, _⟩
  · exact ⟨none, 0, by rw [h0], by omega, by omega⟩
  · exact ⟨_, cap, rfl, h1, h2⟩
theorem OwnsR.kept {e : TypeId} {k : Nat} {S : List Nat} {w w' : World} {v : Value} {rs : List (List Value)} (h : OwnsR e k w v rs) (kk : Kept S w w') (hn : ∀ g, v.ownBlock = some g → g ∉ S) : OwnsR e k w' v rs := ownsRow_keep h kk hn
theorem OwnsR.lt {e : TypeId} {k : Nat} {w : World} {v : Value} {rs : List (List Value)} (h : OwnsR e k w v rs) {g : Nat} (hg : v.ownBlock = some g) : g < w.heap.size := (World.ownsRow.lt h g hg).2
theorem OwnsR.reads {e : TypeId} {k : Nat} {w : World} {v : Value} {rs : List (List Value)} (h : OwnsR e k w v rs) (hw : Wide k rs) : ReadsR k w v rs := by
  have hcells := fun g hg => World.ownsRow.cells h (g := g) hg
  rcases h.2 with ⟨rfl, h0⟩ | ⟨g, cap, cur, rfl, _, hg, h1, h2, h3, h4⟩
  · have : rs = [] := List.eq_nil_of_length_eq_zero h0
    subst this
    exact ReadsR.nil k w
  · refine ⟨some ⟨g, 0, none⟩, cap, rfl, h1, h2, by simp, fun hl => ⟨g, 0, rfl, fun j r hj i x hx => ?_⟩⟩
    have f1 := hcells g rfl _ _ (hw.at j r hj i x hx)
    rw [add_at] at f1
    rw [Nat.add_assoc]
    exact f1
/-- What a type of rows is. -/
structure RowT (T e : TypeId) (k b : Nat) (z : Value) : Prop where
  under : Tryz.prog.underlying T = some (.slice e)
  info : (Tryz.prog.info? e).map (fun i => (i.zero, i.size, i.bytes)) = some (some z, k, b)
  zlen : z.cells.size = k
  kpos : 0 < k
  bytes : b ≤ 128
section
variable {T e : TypeId} {k b : Nat} {z : Value}
/-- 'append(v, x...)'. -/
theorem run_appendR (R : RowT T e k b z) (w : World) (ty : TypeId) (v : Value) (l : List (List Value)) (hown : OwnsR e k w v l) (x : Value) (m : List (List Value)) (hm : Wide k m) (hr : ReadsR k w x m) (hb : l.length + m.length ≤ 1000000) :
    ∃ ad c w', (Builtin.append_ #[T, T] ty #[v, x]).run Tryz.prog w = .ok (.slice ad (l.length + m.length) c) w' ∧ OwnsR e k w' (.slice ad (l.length + m.length) c) (l ++ m) ∧ w.grownBy w' v.ownBlock ∧ New w v (.slice ad (l.length + m.length) c) := by
  obtain ⟨i0, hi, hz0, hz1, hz2⟩ := info_parts R.info
  have key : ∀ v' w', (Builtin.append_ #[T, T] ty #[v, x]).run Tryz.prog w = .ok v' w' → OwnsR e k w' v' (l ++ m) → w.grownBy w' v.ownBlock → New w v v' → ∃ ad c w', (Builtin.append_ #[T, T] ty #[v, x]).run Tryz.prog w = .ok (.slice ad (l.length + m.length) c) w' ∧ OwnsR e k w' (.slice ad (l.length + m.length) c) (l ++ m) ∧ w.grownBy w' v.ownBlock ∧ New w v (.slice ad (l.length + m.length) c) := by
    intro v' w' h1 h2 h3 h4
    obtain ⟨ad, cap, rfl, -⟩ := h2.form
    rw [List.length_append] at h1 h2 h4
    exact ⟨ad, cap, w', h1, h2, h3, h4⟩
  obtain ⟨a, cap, rfl, h2, h3, h4, h5⟩ := hr
  cases a with
  | none =>
    have hc := h4 rfl
    subst hc
    have h0 : m = [] := List.eq_nil_of_length_eq_zero (by omega)
    subst h0
    have hrun := run_append_owned_none (P := Tryz.prog) (w := w) 0 T ty e i0 k R.under hi v l.length l.flatten hown
    exact key v w hrun (by rw [List.append_nil]; exact hown) ⟨rfl, rfl, rfl, Nat.le_refl _, fun _ _ _ => rfl⟩ (New.refl w v)
  | some a =>
    have hcell : ∀ j u, m.flatten[j]? = some u → w.cell? (a.add j) = some u := by
      intro j u hu
      obtain ⟨p, r, i, hp, hi', rfl⟩ := hm.inv j u hu
      obtain ⟨b, o, hab, hc⟩ := h5 (fun h => by subst h; simp at hp)
      simp at hab
      subst hab
      have := hc p r hp i u hi'
      rw [add_at, ← Nat.add_assoc]
      exact this
    obtain ⟨v', w', hrun, e1, e2, e3, e4⟩ := run_append_own_at (P := Tryz.prog) w 0 T ty e i0 z k b R.under hi hz0 hz1 hz2 R.zlen R.kpos v l.length l.flatten hown a m.length cap m.flatten hm.flat_length hcell hm.one (by unfold maxLen; omega) (by
      have := R.bytes
      have h1 : (l.length + m.length) * b ≤ 1000000 * 128 := Nat.mul_le_mul hb this
      omega) (Nat.zero_le _)
    refine key v' w' hrun ?_ e2 ?_
    · unfold OwnsR; rw [List.flatten_append, List.length_append]; exact e1
    · intro g hg
      rcases e4 with h | h
      · exact .inl (by rw [← h]; exact hg)
      · exact .inr (Nat.le_of_eq (Option.some.inj (h.symm.trans hg)))
/-- A new block of one row. -/
theorem reads_newR (w : World) (cs : List Value) (hc : cs.length = k) (t : TypeId) (fr : Nat × Nat) : ReadsR k (w.alloc (.cells cs.toArray t fr)) (.slice (some ⟨w.heap.size, 0, none⟩) 1 1) [cs] := by
  have hh : (w.alloc (.cells cs.toArray t fr)).heap[w.heap.size]? = some (.cells cs.toArray t fr) := heap_alloc_new w _
  refine ⟨_, 1, rfl, by simp, by unfold maxLen; omega, by simp, fun _ => ⟨w.heap.size, 0, rfl, fun j u hu i x hx => ?_⟩⟩
  cases j with
  | zero =>
    simp at hu
    subst hu
    unfold World.cell?
    rw [hh]
    simpa using hx
  | succ j => simp at hu
/-- 'append(v, row)', as its run: the row lies in a new block. -/
theorem append_rowR (R : RowT T e k b z) {w : World} {v : Value} {l : List (List Value)} (ho : OwnsR e k w v l) (cs : List Value) (hc : cs.length = k) (h1 : ∀ u ∈ cs, u.oneCell' = true) (hn : l.length ≤ 900000) (t : TypeId) (fr : Nat × Nat) (ty : TypeId) :
    ∃ ad c w', (Builtin.append_ #[T, T] ty #[v, .slice (some ⟨w.heap.size, 0, none⟩) 1 1]).run Tryz.prog (w.alloc (.cells cs.toArray t fr)) = .ok (.slice ad (l.length + 1) c) w' ∧ OwnsR e k w' (.slice ad (l.length + 1) c) (l ++ [cs]) ∧ Kept v.ownBlock.toList w w' ∧ New w v (.slice ad (l.length + 1) c) := by
  have k0 := (Kept.refl [] w).alloc (.cells cs.toArray t fr)
  obtain ⟨ad, c, w', hrun, hO, hg, hN⟩ := run_appendR R _ ty v l (ho.kept k0 (by simp)) _ [cs] (fun r hr => by simp at hr; subst hr; exact ⟨hc, h1⟩) (reads_newR (k := k) w cs hc t fr) (by simp; omega)
  refine ⟨ad, c, w', hrun, hO, (k0.mono (by simp)).grown hg (fun x hx => .inl (by rw [Option.mem_toList]; exact hx)), fun g hg => ?_⟩
  rcases hN g hg with h | h
  · exact .inl h
  · exact .inr (Nat.le_trans k0.size h)
theorem RowT.size (R : RowT T e k b z) (w : World) : (Go.sizeOf e).run Tryz.prog w = .ok k w := by
  obtain ⟨i0, hi, hz0, hz1, hz2⟩ := info_parts R.info
  simp [Go.sizeOf, typeInfo, hi, hz1]
theorem RowT.elem (R : RowT T e k b z) : Tryz.prog.elem T = e := by simp [Program.elem, R.under]
/-- What 'v[i:j]' or 'v[i:j:m]' is. -/
def cutA (a : Option Addr) (c i k : Nat) : Option Addr := if c = i then a else a.map (·.add (i * k))
theorem ReadsR.cut {w : World} {a : Option Addr} {n c i j m : Nat} {rs : List (List Value)} (hn : n = rs.length) (h : ReadsR k w (.slice a n c) rs) (hij : i ≤ j) (hj : j ≤ n) (hjm : j ≤ m) (hm : m ≤ c) : ReadsR k w (.slice (cutA a m i k) (j - i) (m - i)) ((rs.take j).drop i) := by
  subst hn
  obtain ⟨a0, cap0, hv, h2, h3, h4, h5⟩ := h
  injection hv with e1 e2 e3
  subst e1 e3
  have hl : ((rs.take j).drop i).length = j - i := by rw [List.length_drop, List.length_take]; omega
  refine ⟨_, m - i, by rw [hl], by rw [hl]; omega, by omega, ?_, ?_⟩
  · intro hn
    unfold cutA at hn
    by_cases hc : m = i
    · omega
    · rw [if_neg hc] at hn
      have : a = none := by cases a <;> simp_all
      have := h4 this
      omega
  · intro hne
    have hlt : i < j := by
      rcases Nat.lt_or_ge i j with h | h
      · exact h
      · exact absurd (List.length_eq_zero_iff.1 (by rw [hl]; omega)) hne
    obtain ⟨b, o, rfl, hc⟩ := h5 (by intro h; subst h; simp at hj; omega)
    refine ⟨b, o + i * k, by unfold cutA; rw [if_neg (by omega), Option.map_some, add_at], fun p r hp q x hx => ?_⟩
    rw [List.getElem?_drop, List.getElem?_take] at hp
    split at hp
    · have := hc (i + p) r hp q x hx
      rw [show o + (i + p) * k + q = o + i * k + p * k + q by rw [Nat.add_mul]; omega] at this
      exact this
    · cases hp
theorem cutA_own (a : Option Addr) (c i k n m : Nat) {g : Nat} (h : (Value.slice (cutA a c i k) n m).ownBlock = some g) (n' m' : Nat) : (Value.slice a n' m').ownBlock = some g := by
  cases a with
  | none => unfold cutA at h; split at h <;> simp [Value.ownBlock] at h
  | some a =>
    obtain ⟨a', ha, hb⟩ : ∃ a', cutA (some a) c i k = some a' ∧ a'.block = a.block := by
      unfold cutA
      split
      · exact ⟨a, rfl, rfl⟩
      · refine ⟨_, rfl, ?_⟩
        simp only [Addr.add]
        split <;> rfl
    rw [ha] at h
    simp [Value.ownBlock] at h ⊢
    omega
end
end Go.Proofs.YtdadloaifebdiaaGreat
/-
  Letters: what a letter is, its bytes, the letter that bytes begin with; and letters in memory.
-/
namespace Go.Proofs.YtdadloaifebdiaaGreat
set_option maxRecDepth 100000
open Go.RowKit
set_option linter.unusedVariables false
theorem Kept.drewN {S : List Nat} {a w : World} (h : Kept S a w) (n : Nat) : Kept S a (w.drewN n) := ⟨h.os, h.tape, h.output, h.size, h.block⟩
theorem Hid.mk {p : Prop} (h : p) : Hid p := h
/-- A text as a value. -/
abbrev Sv (l : List UInt8) : Value := .string ⟨l.toArray⟩
/-- An integer of 64 bits. -/
def I64 (z : Int) : Prop := -9223372036854775808 ≤ z ∧ z ≤ 9223372036854775807
/-- A letter. -/
structure Lt where
  fr : List UInt8
  ser : Nat
  kind : Int
  args : List Int
instance : Inhabited Lt := ⟨⟨[], 0, 0, []⟩⟩
/-- Its numbers are of 64 bits. -/
structure Lt.ok (x : Lt) : Prop where
  ser : x.ser < 18446744073709551616
  kind : I64 x.kind
  args : ∀ z ∈ x.args, I64 z
/-- It keeps the limits. -/
def Lt.formed (x : Lt) : Bool := decide (x.fr.length ≤ 40) && decide (x.args.length ≤ 4)
/-- Integers' bytes. -/
def encJ (l : List Int) : List UInt8 := l.flatMap fun z => enc (fold z)
/-- A letter's bytes. -/
def encL (x : Lt) : List UInt8 := enc x.fr.length ++ x.fr ++ enc x.ser ++ enc (fold x.kind) ++ enc x.args.length ++ encJ x.args
theorem encJ_append (a b : List Int) : encJ (a ++ b) = encJ a ++ encJ b := by simp [encJ]
theorem encJ_length (l : List Int) : l.length ≤ (encJ l).length ∧ (encJ l).length ≤ 9 * l.length := by
  induction l with
  | nil => simp [encJ]
  | cons z l ih =>
    have h := enc_length (fold z)
    have e : encJ (z :: l) = enc (fold z) ++ encJ l := rfl
    rw [e, List.length_append, List.length_cons]
    omega
theorem encL_length (x : Lt) : (encL x).length ≤ x.fr.length + 9 * x.args.length + 36 := by
  have h1 := enc_length x.fr.length
  have h2 := enc_length x.ser
  have h3 := enc_length (fold x.kind)
  have h4 := enc_length x.args.length
  have h5 := encJ_length x.args
  simp only [encL, List.length_append]
  omega
/-- n integers that bytes begin with. -/
def rints : Nat → List UInt8 → Bool → List Int × List UInt8 × Bool
  | 0, l, bad => ([], l, bad)
  | n + 1, l, bad =>
    let r := rints n (rnum l bad).2.1 (rnum l bad).2.2
    (unfold (rnum l bad).1 :: r.1, r.2.1, r.2.2)
/-- The head of a letter: From, Serial, Kind, how many Args; what is left, and whether all was there. -/
structure Hd where
  fr : List UInt8
  ser : Nat
  kind : Int
  n : Nat
  rest : List UInt8
  bad : Bool
def rhead (l : List UInt8) (bad : Bool) : Hd :=
  let t := rtext l bad
  let s := rnum t.2.1 t.2.2
  let k := rnum s.2.1 s.2.2
  let n := rnum k.2.1 k.2.2
  ⟨t.1, s.1, unfold k.1, n.1, n.2.1, n.2.2⟩
/-- The letter that bytes begin with, if they begin with one that is formed; what is left, and whether all was there. -/
def rlet (l : List UInt8) (bad : Bool) : Option Lt × List UInt8 × Bool :=
  let h := rhead l bad
  if 4 < h.n then (none, h.rest, h.bad)
  else
    let r := rints h.n h.rest h.bad
    if r.2.2 = true ∨ 40 < h.fr.length then (none, r.2.1, r.2.2) else (some ⟨h.fr, h.ser, h.kind, r.1⟩, r.2.1, r.2.2)
theorem rints_length (n : Nat) : ∀ l bad, (rints n l bad).1.length = n := by
  induction n with
  | zero => intro l bad; rfl
  | succ n ih => intro l bad; simp [rints, ih]
theorem rints_snoc (n : Nat) : ∀ l bad, rints (n + 1) l bad = ((rints n l bad).1 ++ [unfold (rnum (rints n l bad).2.1 (rints n l bad).2.2).1], (rnum (rints n l bad).2.1 (rints n l bad).2.2).2.1, (rnum (rints n l bad).2.1 (rints n l bad).2.2).2.2) := by
  induction n with
  | zero => intro l bad; rfl
  | succ n ih =>
    intro l bad
    have e : rints (n + 1 + 1) l bad = (unfold (rnum l bad).1 :: (rints (n + 1) (rnum l bad).2.1 (rnum l bad).2.2).1, (rints (n + 1) (rnum l bad).2.1 (rnum l bad).2.2).2.1, (rints (n + 1) (rnum l bad).2.1 (rnum l bad).2.2).2.2) := rfl
    have e2 : rints (n + 1) l bad = (unfold (rnum l bad).1 :: (rints n (rnum l bad).2.1 (rnum l bad).2.2).1, (rints n (rnum l bad).2.1 (rnum l bad).2.2).2.1, (rints n (rnum l bad).2.1 (rnum l bad).2.2).2.2) := rfl
    rw [e, ih, e2]
    rfl
theorem unfold_I64 (n : Nat) (h : n < 18446744073709551616) : I64 (unfold n) := by
  unfold unfold I64; split <;> omega
theorem rints_I64 (n : Nat) : ∀ l bad, ∀ z ∈ (rints n l bad).1, I64 z := by
  induction n with
  | zero => intro l bad z hz; simp [rints] at hz
  | succ n ih =>
    intro l bad z hz
    simp only [rints, List.mem_cons] at hz
    rcases hz with rfl | hz
    · exact unfold_I64 _ (rnum_lt _ _)
    · exact ih _ _ z hz
theorem rhead_lt (l : List UInt8) (bad : Bool) : (rhead l bad).ser < 18446744073709551616 ∧ I64 (rhead l bad).kind ∧ (rhead l bad).n < 18446744073709551616 :=
  ⟨rnum_lt _ _, unfold_I64 _ (rnum_lt _ _), rnum_lt _ _⟩
/-- What is read is a formed letter of 64 bits. -/
theorem rlet_ok {l : List UInt8} {bad : Bool} {x : Lt} (h : (rlet l bad).1 = some x) : x.ok ∧ x.formed = true := by
  unfold rlet at h
  obtain ⟨h1, h2, h3⟩ := rhead_lt l bad
  revert h
  generalize rhead l bad = d at h1 h2 h3
  intro h
  dsimp only at h
  split at h
  · cases h
  · rename_i h4
    split at h
    · cases h
    · rename_i h5
      cases h
      refine ⟨⟨h1, h2, rints_I64 _ _ _⟩, ?_⟩
      have := rints_length d.n d.rest d.bad
      have h6 : d.fr.length ≤ 40 := by omega
      simp only [Lt.formed, this, h6, decide_true, Bool.true_and, decide_eq_true_eq]
      omega
theorem rints_back (a : List Int) : ∀ rest, (∀ z ∈ a, I64 z) → rints a.length (encJ a ++ rest) false = (a, rest, false) := by
  induction a with
  | nil => intro rest _; rfl
  | cons z a ih =>
    intro rest h
    have e : encJ (z :: a) = enc (fold z) ++ encJ a := rfl
    have hz := h z (by simp)
    have h1 := rnum_back (fold z) (fold_lt z hz.1 hz.2) (encJ a ++ rest)
    rw [List.length_cons, rints, e, List.append_assoc, h1]
    dsimp only
    rw [ih rest (fun y hy => h y (by simp [hy]))]
    simp [unfold_fold z]
/-- What was encoded is read as it was. -/
theorem rlet_back (x : Lt) (hx : x.ok) (hf : x.formed = true) (rest : List UInt8) : rlet (encL x ++ rest) false = (some x, rest, false) := by
  have hf' : x.fr.length ≤ 40 ∧ x.args.length ≤ 4 := by simpa [Lt.formed] using hf
  have e : encL x ++ rest = enc x.fr.length ++ (x.fr ++ (enc x.ser ++ (enc (fold x.kind) ++ (enc x.args.length ++ (encJ x.args ++ rest))))) := by simp only [encL, List.append_assoc]
  have h1 := rtext_back x.fr (by omega) (enc x.ser ++ (enc (fold x.kind) ++ (enc x.args.length ++ (encJ x.args ++ rest))))
  have h2 := rnum_back x.ser hx.ser (enc (fold x.kind) ++ (enc x.args.length ++ (encJ x.args ++ rest)))
  have h3 := rnum_back (fold x.kind) (fold_lt _ hx.kind.1 hx.kind.2) (enc x.args.length ++ (encJ x.args ++ rest))
  have h4 := rnum_back x.args.length (by omega) (encJ x.args ++ rest)
  have h5 := rints_back x.args rest hx.args
  have h6 := unfold_fold x.kind
  have hh : rhead (encL x ++ rest) false = ⟨x.fr, x.ser, x.kind, x.args.length, encJ x.args ++ rest, false⟩ := by
    unfold rhead
    rw [e, h1]
    dsimp only
    rw [h2]
    dsimp only
    rw [h3]
    dsimp only
    rw [h4, h6]
  unfold rlet
  rw [hh]
  dsimp only
  rw [if_neg (by omega), h5]
  dsimp only
  rw [if_neg (by simp; omega)]
/-- What was read wholly begins with the number's bytes. -/
theorem rnum_fwd {l : List UInt8} {bad : Bool} (h : (rnum l bad).2.2 = false) : bad = false ∧ l = enc (rnum l bad).1 ++ (rnum l bad).2.1 := by
  unfold rnum at h ⊢
  split at h
  · cases h
  · rename_i hk
    rw [if_neg hk]
    exact ⟨h, by rw [enc_dec l hk, List.take_append_drop]⟩
theorem rtext_fwd {l : List UInt8} {bad : Bool} (h : (rtext l bad).2.2 = false) : bad = false ∧ l = enc (rtext l bad).1.length ++ ((rtext l bad).1 ++ (rtext l bad).2.1) := by
  unfold rtext at h ⊢
  split at h
  · cases h
  · rename_i hk
    rw [if_neg hk]
    obtain ⟨h1, h2⟩ := rnum_fwd (l := l) (bad := bad) h
    refine ⟨h1, ?_⟩
    dsimp only
    rw [List.take_append_drop, List.length_take, Nat.min_eq_left (by omega)]
    exact h2
theorem rints_fwd (n : Nat) : ∀ l bad, (rints n l bad).2.2 = false → bad = false ∧ l = encJ (rints n l bad).1 ++ (rints n l bad).2.1 := by
  induction n with
  | zero => intro l bad h; exact ⟨h, rfl⟩
  | succ n ih =>
    intro l bad h
    simp only [rints] at h ⊢
    obtain ⟨h1, h2⟩ := ih _ _ h
    obtain ⟨h3, h4⟩ := rnum_fwd h1
    refine ⟨h3, ?_⟩
    have e : ∀ (z : Int) (a : List Int), encJ (z :: a) = enc (fold z) ++ encJ a := fun z a => rfl
    rw [e, fold_unfold, List.append_assoc, ← h2]
    exact h4
/-- What is read wholly has just the letter's bytes. -/
theorem rlet_fwd {l rest : List UInt8} {bad : Bool} {x : Lt} (h : rlet l bad = (some x, rest, false)) : bad = false ∧ l = encL x ++ rest := by
  unfold rlet at h
  dsimp only at h
  split at h
  · cases h
  · split at h
    · cases h
    · rename_i h4 h5
      simp only [Prod.mk.injEq, Option.some.injEq] at h
      obtain ⟨rfl, rfl, hb⟩ := h
      obtain ⟨hb1, e1⟩ := rints_fwd _ _ _ hb
      have hb2 : (rhead l bad).bad = (rnum (rnum (rnum (rtext l bad).2.1 (rtext l bad).2.2).2.1 (rnum (rtext l bad).2.1 (rtext l bad).2.2).2.2).2.1 (rnum (rnum (rtext l bad).2.1 (rtext l bad).2.2).2.1 (rnum (rtext l bad).2.1 (rtext l bad).2.2).2.2).2.2).2.2 := rfl
      obtain ⟨hb3, e2⟩ := rnum_fwd (hb2.symm.trans hb1)
      obtain ⟨hb4, e3⟩ := rnum_fwd hb3
      obtain ⟨hb5, e4⟩ := rnum_fwd hb4
      obtain ⟨hb6, e5⟩ := rtext_fwd hb5
      refine ⟨hb6, ?_⟩
      have el := rints_length (rhead l bad).n (rhead l bad).rest (rhead l bad).bad
      have ek : fold (rhead l bad).kind = (rnum (rnum (rtext l bad).2.1 (rtext l bad).2.2).2.1 (rnum (rtext l bad).2.1 (rtext l bad).2.2).2.2).1 := fold_unfold _
      simp only [encL, List.append_assoc, ← e1]
      rw [el, ek]
      refine e5.trans ?_
      show _ = enc (rtext l bad).1.length ++ ((rtext l bad).1 ++ (_ ++ (_ ++ (_ ++ _))))
      congr 2
      refine e4.trans ?_
      show _ = enc (rnum (rtext l bad).2.1 (rtext l bad).2.2).1 ++ _
      congr 1
      refine e3.trans ?_
      congr 1
/-- Integers as rows of one cell. -/
def CJ (l : List Int) : List (List Value) := l.map fun z => [.int .i64 z]
theorem CJ_length (l : List Int) : (CJ l).length = l.length := by simp [CJ]
theorem CJ_append (a b : List Int) : CJ (a ++ b) = CJ a ++ CJ b := by simp [CJ]
theorem CJ_wide (l : List Int) : Wide 1 (CJ l) := fun r hr => by
  obtain ⟨z, _, rfl⟩ := List.mem_map.1 hr
  exact ⟨rfl, fun u hu => by simp at hu; subst hu; rfl⟩
/-- The slice v reads as the integers l. -/
def ReadsJ (w : World) (v : Value) (l : List Int) : Prop := ReadsR 1 w v (CJ l)
theorem ReadsJ.nil (w : World) : ReadsJ w (.slice none 0 0) [] := ReadsR.nil 1 w
theorem ReadsJ.kept {S : List Nat} {w w' : World} {v : Value} {l : List Int} (h : ReadsJ w v l) (k : Kept S w w') (hn : ∀ g, v.ownBlock = some g → g ∉ S) : ReadsJ w' v l := ReadsR.kept h k hn
theorem ReadsJ.form {w : World} {v : Value} {l : List Int} (h : ReadsJ w v l) : ∃ a c, v = .slice a l.length c ∧ l.length ≤ c ∧ c ≤ 9223372036854775807 := by
  have := ReadsR.form h
  rwa [CJ_length] at this
theorem ReadsJ.bound {w : World} {a : Option Addr} {n c : Nat} {l : List Int} (h : ReadsJ w (.slice a n c) l) : n = l.length ∧ n ≤ c ∧ c ≤ 9223372036854775807 := by
  obtain ⟨a', c', e, h1, h2⟩ := h.form
  injection e with _ e2 e3
  subst e2 e3
  exact ⟨rfl, h1, h2⟩
theorem ReadsJ.at {w : World} {a : Option Addr} {n c : Nat} {l : List Int} (h : ReadsJ w (.slice a n c) l) {j : Nat} {z : Int} (hz : l[j]? = some z) : ∃ b o, a = some ⟨b, o, none⟩ ∧ w.cell? ⟨b, o + j, none⟩ = some (.int .i64 z) := by
  obtain ⟨b, o, c', e, hc⟩ := ReadsR.at h j [.int .i64 z] (by simp [CJ, hz])
  injection e with e _ _
  have h0 := hc 0 _ rfl
  rw [Nat.add_zero, Nat.mul_one] at h0
  exact ⟨b, o, e, h0⟩
theorem ReadsJ.lt {w : World} {v : Value} {l : List Int} (h : ReadsJ w v l) (hl : l ≠ []) : ∃ g, v.ownBlock = some g ∧ g < w.heap.size := ReadsR.lt h (CJ_wide l) (by omega) (by intro e; apply hl; simpa [CJ] using e)
theorem ReadsJ.kept2 {S : List Nat} {w w' : World} {v : Value} {l : List Int} (h : ReadsJ w v l) (k : Kept S w w') (hn : ∀ g, v.ownBlock = some g → g < w.heap.size → g ∉ S) : ReadsJ w' v l := by
  refine ReadsR.turn h fun g o x hg hx _ => ?_
  have hlt := World.block_lt_of_cell? w _ hx
  rw [k.cell hlt (hn g hg hlt)]
  exact hx
/-- The slice v owns the integers l. -/
def OwnsJ (w : World) (v : Value) (l : List Int) : Prop := OwnsR 2 1 w v (CJ l)
theorem OwnsJ.nil (w : World) : OwnsJ w (.slice none 0 0) [] := OwnsR.nil 2 1 w
theorem OwnsJ.reads {w : World} {v : Value} {l : List Int} (h : OwnsJ w v l) : ReadsJ w v l := OwnsR.reads h (CJ_wide l)
theorem OwnsJ.kept {S : List Nat} {w w' : World} {v : Value} {l : List Int} (h : OwnsJ w v l) (k : Kept S w w') (hn : ∀ g, v.ownBlock = some g → g ∉ S) : OwnsJ w' v l := OwnsR.kept h k hn
theorem OwnsJ.form {w : World} {v : Value} {l : List Int} (h : OwnsJ w v l) : ∃ a c, v = .slice a l.length c ∧ l.length ≤ c ∧ c ≤ 9223372036854775807 := by
  have := OwnsR.form h
  rwa [CJ_length] at this
theorem OwnsJ.lt {w : World} {v : Value} {l : List Int} (h : OwnsJ w v l) {g : Nat} (hg : v.ownBlock = some g) : g < w.heap.size := OwnsR.lt h hg
theorem rt23 : RowT 88 2 1 8 (.int .i64 0) := ⟨Tryz.underlying88, by kernel_rfl, rfl, by omega, by omega⟩
/-- A letter, and where its Args lie. -/
structure Lq where
  x : Lt
  ad : Option Addr
  cap : Nat
instance : Inhabited Lq := ⟨⟨default, none, 0⟩⟩
abbrev Lq.sl (q : Lq) : Value := .slice q.ad q.x.args.length q.cap
/-- A letter's cells. -/
def cellsQ (q : Lq) : List Value := [Sv q.x.fr, .int .u64 (q.x.ser : Int), .int .i64 q.x.kind, q.sl]
/-- A letter as a value. -/
abbrev Lv (x : Lt) (a : Option Addr) (c : Nat) : Value := .agg #[Sv x.fr, .int .u64 (x.ser : Int), .int .i64 x.kind, .slice a x.args.length c]
def CQ (l : List Lq) : List (List Value) := l.map cellsQ
theorem CQ_length (l : List Lq) : (CQ l).length = l.length := by simp [CQ]
theorem CQ_append (a b : List Lq) : CQ (a ++ b) = CQ a ++ CQ b := by simp [CQ]
theorem CQ_wide (l : List Lq) : Wide 4 (CQ l) := fun r hr => by
  obtain ⟨x, _, rfl⟩ := List.mem_map.1 hr
  refine ⟨rfl, fun v hv => ?_⟩
  simp [cellsQ] at hv
  rcases hv with rfl | rfl | rfl | rfl <;> rfl
/-- The slice v reads as these letters. -/
def RowQ (w : World) (v : Value) (l : List Lq) : Prop := ReadsR 4 w v (CQ l)
/-- Their Args lie there. -/
def ValsQ (w : World) (l : List Lq) : Prop := ∀ q ∈ l, ReadsJ w q.sl q.x.args
theorem RowQ.kept {S : List Nat} {w w' : World} {v : Value} {l : List Lq} (h : RowQ w v l) (k : Kept S w w') (hn : ∀ g, v.ownBlock = some g → g ∉ S) : RowQ w' v l := ReadsR.kept h k hn
theorem ValsQ.kept {S : List Nat} {w w' : World} {l : List Lq} (h : ValsQ w l) (k : Kept S w w') (hn : ∀ q ∈ l, ∀ g, q.sl.ownBlock = some g → g ∉ S) : ValsQ w' l := fun q hq => (h q hq).kept k (hn q hq)
theorem ValsQ.kept0 {w w' : World} {l : List Lq} (h : ValsQ w l) (k : Kept [] w w') : ValsQ w' l := h.kept k (by simp)
theorem RowQ.form {w : World} {v : Value} {l : List Lq} (h : RowQ w v l) : ∃ a c, v = .slice a l.length c ∧ l.length ≤ c ∧ c ≤ 9223372036854775807 := by
  have := ReadsR.form h
  rwa [CQ_length] at this
theorem RowQ.bound {w : World} {a : Option Addr} {n c : Nat} {l : List Lq} (h : RowQ w (.slice a n c) l) : n = l.length ∧ n ≤ c ∧ c ≤ 9223372036854775807 := by
  obtain ⟨a', c', e, h1, h2⟩ := h.form
  injection e with _ e2 e3
  subst e2 e3
  exact ⟨rfl, h1, h2⟩
theorem RowQ.at {w : World} {a : Option Addr} {n c : Nat} {l : List Lq} (h : RowQ w (.slice a n c) l) {j : Nat} {q : Lq} (hq : l[j]? = some q) : ∃ b o, a = some ⟨b, o, none⟩ ∧ w.cell? ⟨b, o + j * 4, none⟩ = some (Sv q.x.fr) ∧ w.cell? ⟨b, o + j * 4 + 1, none⟩ = some (.int .u64 (q.x.ser : Int)) ∧ w.cell? ⟨b, o + j * 4 + 2, none⟩ = some (.int .i64 q.x.kind) ∧ w.cell? ⟨b, o + j * 4 + 3, none⟩ = some q.sl := by
  obtain ⟨b, o, c', e, hc⟩ := ReadsR.at h j (cellsQ q) (by simp [CQ, hq])
  injection e with e _ _
  have h0 := hc 0 _ rfl
  have h1 := hc 1 _ rfl
  have h2 := hc 2 _ rfl
  have h3 := hc 3 _ rfl
  rw [Nat.add_zero] at h0
  exact ⟨b, o, e, h0, h1, h2, h3⟩
end Go.Proofs.YtdadloaifebdiaaGreat
