/-
  Rows of k cells each: a slice that reads so, one that owns its row, append to one, slices of one.
-/
import Derived.Test.YtmihpgejaobdbaaProg
import Derived.Test.YtmihpgejaobdbaaMem
import Derived.Laws.AppendOwnNone
import Derived.Deep.Slices
namespace Go.Proofs.Ytmihpgejaobdbaa
set_option maxRecDepth 100000
open Go.RowKit
set_option linter.unusedVariables false
/-- The slice v lies in memory that is new since w. -/
def Fresh (w : World) (v : Value) : Prop := ∀ g, v.ownBlock = some g → w.heap.size ≤ g

theorem Hid.mk {p : Prop} (h : p) : Hid p := h
/-- A text as a value. -/
abbrev Sv (l : List UInt8) : Value := .string ⟨l.toArray⟩
/-- An integer of 64 bits. -/
def I64 (z : Int) : Prop := -9223372036854775808 ≤ z ∧ z ≤ 9223372036854775807
theorem fresh_nil (w : World) (c : Nat) : Fresh w (.slice none 0 c) := fun g hg => by simp [Value.ownBlock] at hg
theorem ownsRow_keep {S : List Nat} {w w' : World} {e : TypeId} {size : Nat} {v : Value} {n : Nat} {xs : List Value} (h : w.ownsRow 0 e size v n xs) (k : Kept S w w') (hn : ∀ g, v.ownBlock = some g → g ∉ S) : w'.ownsRow 0 e size v n xs := by
  refine ⟨h.1, ?_⟩
  rcases h.2 with h0 | ⟨g, cap, cur, rfl, hb, hg, r⟩
  · exact .inl h0
  · exact .inr ⟨g, cap, cur, rfl, hb, k.keeps hg (hn g rfl), r⟩
theorem add_at (b o j : Nat) : (⟨b, o, none⟩ : Addr).add j = ⟨b, o + j, none⟩ := by unfold Addr.add; split <;> simp_all
/-- Each row has k cells. -/
def Wide (k : Nat) (rs : List (List Value)) : Prop := ∀ r ∈ rs, r.length = k ∧ ∀ u ∈ r, u.oneCell' = true
theorem Wide.append {k : Nat} {a b : List (List Value)} (h : Wide k a) (h' : Wide k b) : Wide k (a ++ b) := fun r hr => by
  rcases List.mem_append.1 hr with hr | hr
  · exact h r hr
  · exact h' r hr
theorem Wide.flat_length {k : Nat} : ∀ {rs : List (List Value)}, Wide k rs → rs.flatten.length = rs.length * k
  | [], _ => by simp
  | r :: rs, h => by
    rw [List.flatten_cons, List.length_append, Wide.flat_length (fun x hx => h x (by simp [hx])), (h r (by simp)).1, List.length_cons, Nat.add_mul]
    omega
theorem Wide.one {k : Nat} {rs : List (List Value)} (h : Wide k rs) : ∀ u ∈ rs.flatten, u.oneCell' = true := fun u hu => by
  obtain ⟨r, hr, hu⟩ := List.mem_flatten.1 hu
  exact (h r hr).2 u hu
theorem Wide.at {k : Nat} : ∀ {rs : List (List Value)} (h : Wide k rs) (j : Nat) (r : List Value), rs[j]? = some r → ∀ (i : Nat) (x : Value), r[i]? = some x → rs.flatten[j * k + i]? = some x
  | [], _, j, r, hj, _, _, _ => by simp at hj
  | s :: rs, h, 0, r, hj, i, x, hx => by
    simp at hj
    subst hj
    rw [List.flatten_cons, Nat.zero_mul, Nat.zero_add, List.getElem?_append_left (List.getElem?_eq_some_iff.1 hx).1]
    exact hx
  | s :: rs, h, j + 1, r, hj, i, x, hx => by
    have := Wide.at (rs := rs) (fun x hx => h x (by simp [hx])) j r (by simpa using hj) i x hx
    have hl := (h s (by simp)).1
    rw [List.flatten_cons, List.getElem?_append_right (by rw [hl, Nat.add_mul]; omega), hl, show (j + 1) * k + i - k = j * k + i by rw [Nat.add_mul]; omega]
    exact this
theorem Wide.inv {k : Nat} : ∀ {rs : List (List Value)} (h : Wide k rs) (m : Nat) (x : Value), rs.flatten[m]? = some x → ∃ j r i, rs[j]? = some r ∧ r[i]? = some x ∧ m = j * k + i
  | [], _, m, x, hx => by simp at hx
  | s :: rs, h, m, x, hx => by
    have hl := (h s (by simp)).1
    rw [List.flatten_cons] at hx
    by_cases hm : m < k
    · rw [List.getElem?_append_left (by omega)] at hx
      exact ⟨0, s, m, rfl, hx, by omega⟩
    · rw [List.getElem?_append_right (by omega), hl] at hx
      obtain ⟨j, r, i, h1, h2, h3⟩ := Wide.inv (fun x hx => h x (by simp [hx])) (m - k) x hx
      exact ⟨j + 1, r, i, by simpa using h1, h2, by rw [Nat.add_mul]; omega⟩
/-- The slice v reads as the rows rs, of k cells each. -/
def ReadsR (k : Nat) (w : World) (v : Value) (rs : List (List Value)) : Prop :=
  ∃ a cap, v = .slice a rs.length cap ∧ rs.length ≤ cap ∧ cap ≤ maxLen ∧ (a = none → cap = 0) ∧ (rs ≠ [] → ∃ b o, a = some ⟨b, o, none⟩ ∧ ∀ j r, rs[j]? = some r → ∀ i x, r[i]? = some x → w.cell? ⟨b, o + j * k + i, none⟩ = some x)
theorem ReadsR.nil (k : Nat) (w : World) : ReadsR k w (.slice none 0 0) [] := ⟨none, 0, rfl, by simp, by simp, by simp, by simp⟩
theorem ReadsR.form {k : Nat} {w : World} {v : Value} {rs : List (List Value)} (h : ReadsR k w v rs) : ∃ a c, v = .slice a rs.length c ∧ rs.length ≤ c ∧ c ≤ 9223372036854775807 := by
  obtain ⟨a, c, h1, h2, h3, _⟩ := h
  exact ⟨a, c, h1, h2, h3⟩
theorem ReadsR.at {k : Nat} {w : World} {v : Value} {rs : List (List Value)} (h : ReadsR k w v rs) (j : Nat) (r : List Value) (hj : rs[j]? = some r) : ∃ b o c, v = .slice (some ⟨b, o, none⟩) rs.length c ∧ ∀ i x, r[i]? = some x → w.cell? ⟨b, o + j * k + i, none⟩ = some x := by
  obtain ⟨a, cap, rfl, h2, h3, h4, h5⟩ := h
  obtain ⟨b, o, rfl, hc⟩ := h5 (by intro e; subst e; simp at hj)
  exact ⟨b, o, cap, rfl, hc j r hj⟩
/-- Every cell that is read is as it was. -/
theorem ReadsR.turn {k : Nat} {w w' : World} {v : Value} {rs : List (List Value)} (h : ReadsR k w v rs) (hc : ∀ g o x, v.ownBlock = some g → w.cell? ⟨g, o, none⟩ = some x → (∃ r ∈ rs, x ∈ r) → w'.cell? ⟨g, o, none⟩ = some x) : ReadsR k w' v rs := by
  obtain ⟨a, cap, rfl, h2, h3, h4, h5⟩ := h
  refine ⟨a, cap, rfl, h2, h3, h4, fun hl => ?_⟩
  obtain ⟨b, o, rfl, hh⟩ := h5 hl
  exact ⟨b, o, rfl, fun j r hj i x hx => hc b _ x rfl (hh j r hj i x hx) ⟨r, List.mem_of_getElem? hj, List.mem_of_getElem? hx⟩⟩
theorem ReadsR.kept {k : Nat} {S : List Nat} {w w' : World} {v : Value} {rs : List (List Value)} (h : ReadsR k w v rs) (kk : Kept S w w') (hn : ∀ g, v.ownBlock = some g → g ∉ S) : ReadsR k w' v rs :=
  h.turn fun g o x hg hx _ => by rw [kk.cell (World.block_lt_of_cell? w _ hx) (hn g hg)]; exact hx
theorem ReadsR.lt {k : Nat} {w : World} {v : Value} {rs : List (List Value)} (h : ReadsR k w v rs) (hw : Wide k rs) (hk : 0 < k) (hne : rs ≠ []) : ∃ g, v.ownBlock = some g ∧ g < w.heap.size := by
  cases rs with
  | nil => exact absurd rfl hne
  | cons r rs =>
    obtain ⟨b, o, c, rfl, hc⟩ := h.at 0 r rfl
    have hl := (hw r (by simp)).1
    cases r with
    | nil => simp at hl; omega
    | cons x r => exact ⟨b, rfl, World.block_lt_of_cell? w _ (hc 0 x rfl)⟩
/-- The slice v owns the rows rs, in memory of its own. -/
def OwnsR (e : TypeId) (k : Nat) (w : World) (v : Value) (rs : List (List Value)) : Prop := w.ownsRow 0 e k v rs.length rs.flatten
theorem OwnsR.nil (e : TypeId) (k : Nat) (w : World) : OwnsR e k w (.slice none 0 0) [] := World.ownsRow_nil w 0 e k
theorem OwnsR.form {e : TypeId} {k : Nat} {w : World} {v : Value} {rs : List (List Value)} (h : OwnsR e k w v rs) : ∃ a c, v = .slice a rs.length c ∧ rs.length ≤ c ∧ c ≤ 9223372036854775807 := by
  rcases h.2 with ⟨rfl, h0⟩ | ⟨g, cap, cur, rfl, _, _, h1, h2, _⟩
  · exact ⟨none, 0, by rw [h0], by omega, by omega⟩
  · exact ⟨_, cap, rfl, h1, h2⟩
theorem OwnsR.kept {e : TypeId} {k : Nat} {S : List Nat} {w w' : World} {v : Value} {rs : List (List Value)} (h : OwnsR e k w v rs) (kk : Kept S w w') (hn : ∀ g, v.ownBlock = some g → g ∉ S) : OwnsR e k w' v rs := ownsRow_keep h kk hn
theorem OwnsR.lt {e : TypeId} {k : Nat} {w : World} {v : Value} {rs : List (List Value)} (h : OwnsR e k w v rs) {g : Nat} (hg : v.ownBlock = some g) : g < w.heap.size := (World.ownsRow.lt h g hg).2
theorem OwnsR.reads {e : TypeId} {k : Nat} {w : World} {v : Value} {rs : List (List Value)} (h : OwnsR e k w v rs) (hw : Wide k rs) : ReadsR k w v rs := by
  have hcells := fun g hg => World.ownsRow.cells h (g := g) hg
  rcases h.2 with ⟨rfl, h0⟩ | ⟨g, cap, cur, rfl, _, hg, h1, h2, h3, h4⟩
  · have : rs = [] := List.eq_nil_of_length_eq_zero h0
    subst this
    exact ReadsR.nil k w
  · refine ⟨some ⟨g, 0, none⟩, cap, rfl, h1, h2, by simp, fun hl => ⟨g, 0, rfl, fun j r hj i x hx => ?_⟩⟩
    have f1 := hcells g rfl _ _ (hw.at j r hj i x hx)
    rw [add_at] at f1
    rw [Nat.add_assoc]
    exact f1
/-- What a type of rows is. -/
structure RowT (T e : TypeId) (k b : Nat) (z : Value) : Prop where
  under : Try.prog.underlying T = some (.slice e)
  info : (Try.prog.info? e).map (fun i => (i.zero, i.size, i.bytes)) = some (some z, k, b)
  zlen : z.cells.size = k
  kpos : 0 < k
  bytes : b ≤ 128
section
variable {T e : TypeId} {k b : Nat} {z : Value}
/-- 'append(v, x...)'. -/
theorem run_appendR (R : RowT T e k b z) (w : World) (ty : TypeId) (v : Value) (l : List (List Value)) (hown : OwnsR e k w v l) (x : Value) (m : List (List Value)) (hm : Wide k m) (hr : ReadsR k w x m) (hb : l.length + m.length ≤ 1000000) :
    ∃ ad c w', (Builtin.append_ #[T, T] ty #[v, x]).run Try.prog w = .ok (.slice ad (l.length + m.length) c) w' ∧ OwnsR e k w' (.slice ad (l.length + m.length) c) (l ++ m) ∧ w.grownBy w' v.ownBlock ∧ New w v (.slice ad (l.length + m.length) c) := by
  obtain ⟨i0, hi, hz0, hz1, hz2⟩ := info_parts R.info
  have key : ∀ v' w', (Builtin.append_ #[T, T] ty #[v, x]).run Try.prog w = .ok v' w' → OwnsR e k w' v' (l ++ m) → w.grownBy w' v.ownBlock → New w v v' → ∃ ad c w', (Builtin.append_ #[T, T] ty #[v, x]).run Try.prog w = .ok (.slice ad (l.length + m.length) c) w' ∧ OwnsR e k w' (.slice ad (l.length + m.length) c) (l ++ m) ∧ w.grownBy w' v.ownBlock ∧ New w v (.slice ad (l.length + m.length) c) := by
    intro v' w' h1 h2 h3 h4
    obtain ⟨ad, cap, rfl, -⟩ := h2.form
    rw [List.length_append] at h1 h2 h4
    exact ⟨ad, cap, w', h1, h2, h3, h4⟩
  obtain ⟨a, cap, rfl, h2, h3, h4, h5⟩ := hr
  cases a with
  | none =>
    have hc := h4 rfl
    subst hc
    have h0 : m = [] := List.eq_nil_of_length_eq_zero (by omega)
    subst h0
    have hrun := run_append_owned_none (P := Try.prog) (w := w) 0 T ty e i0 k R.under hi v l.length l.flatten hown
    exact key v w hrun (by rw [List.append_nil]; exact hown) ⟨rfl, rfl, rfl, Nat.le_refl _, fun _ _ _ => rfl⟩ (New.refl w v)
  | some a =>
    have hcell : ∀ j u, m.flatten[j]? = some u → w.cell? (a.add j) = some u := by
      intro j u hu
      obtain ⟨p, r, i, hp, hi', rfl⟩ := hm.inv j u hu
      obtain ⟨b, o, hab, hc⟩ := h5 (fun h => by subst h; simp at hp)
      simp at hab
      subst hab
      have := hc p r hp i u hi'
      rw [add_at, ← Nat.add_assoc]
      exact this
    obtain ⟨v', w', hrun, e1, e2, e3, e4⟩ := run_append_own_at (P := Try.prog) w 0 T ty e i0 z k b R.under hi hz0 hz1 hz2 R.zlen R.kpos v l.length l.flatten hown a m.length cap m.flatten hm.flat_length hcell hm.one (by unfold maxLen; omega) (by
      have := R.bytes
      have h1 : (l.length + m.length) * b ≤ 1000000 * 128 := Nat.mul_le_mul hb this
      omega) (Nat.zero_le _)
    refine key v' w' hrun ?_ e2 ?_
    · unfold OwnsR; rw [List.flatten_append, List.length_append]; exact e1
    · intro g hg
      rcases e4 with h | h
      · exact .inl (by rw [← h]; exact hg)
      · exact .inr (Nat.le_of_eq (Option.some.inj (h.symm.trans hg)))
/-- A new block of one row. -/
theorem reads_newR (w : World) (cs : List Value) (hc : cs.length = k) (t : TypeId) (fr : Nat × Nat) : ReadsR k (w.alloc (.cells cs.toArray t fr)) (.slice (some ⟨w.heap.size, 0, none⟩) 1 1) [cs] := by
  have hh : (w.alloc (.cells cs.toArray t fr)).heap[w.heap.size]? = some (.cells cs.toArray t fr) := heap_alloc_new w _
  refine ⟨_, 1, rfl, by simp, by unfold maxLen; omega, by simp, fun _ => ⟨w.heap.size, 0, rfl, fun j u hu i x hx => ?_⟩⟩
  cases j with
  | zero =>
    simp at hu
    subst hu
    unfold World.cell?
    rw [hh]
    simpa using hx
  | succ j => simp at hu
/-- 'append(v, row)', as its run: the row lies in a new block. -/
theorem append_rowR (R : RowT T e k b z) {w : World} {v : Value} {l : List (List Value)} (ho : OwnsR e k w v l) (cs : List Value) (hc : cs.length = k) (h1 : ∀ u ∈ cs, u.oneCell' = true) (hn : l.length ≤ 900000) (t : TypeId) (fr : Nat × Nat) (ty : TypeId) :
    ∃ ad c w', (Builtin.append_ #[T, T] ty #[v, .slice (some ⟨w.heap.size, 0, none⟩) 1 1]).run Try.prog (w.alloc (.cells cs.toArray t fr)) = .ok (.slice ad (l.length + 1) c) w' ∧ OwnsR e k w' (.slice ad (l.length + 1) c) (l ++ [cs]) ∧ Kept v.ownBlock.toList w w' ∧ New w v (.slice ad (l.length + 1) c) := by
  have k0 := (Kept.refl [] w).alloc (.cells cs.toArray t fr)
  obtain ⟨ad, c, w', hrun, hO, hg, hN⟩ := run_appendR R _ ty v l (ho.kept k0 (by simp)) _ [cs] (fun r hr => by simp at hr; subst hr; exact ⟨hc, h1⟩) (reads_newR (k := k) w cs hc t fr) (by simp; omega)
  refine ⟨ad, c, w', hrun, hO, (k0.mono (by simp)).grown hg (fun x hx => .inl (by rw [Option.mem_toList]; exact hx)), fun g hg => ?_⟩
  rcases hN g hg with h | h
  · exact .inl h
  · exact .inr (Nat.le_trans k0.size h)
theorem RowT.size (R : RowT T e k b z) (w : World) : (Go.sizeOf e).run Try.prog w = .ok k w := by
  obtain ⟨i0, hi, hz0, hz1, hz2⟩ := info_parts R.info
  simp [Go.sizeOf, typeInfo, hi, hz1]
theorem RowT.elem (R : RowT T e k b z) : Try.prog.elem T = e := by simp [Program.elem, R.under]
/-- What 'v[i:j]' or 'v[i:j:m]' is. -/
def cutA (a : Option Addr) (c i k : Nat) : Option Addr := if c = i then a else a.map (·.add (i * k))
theorem ReadsR.cut {w : World} {a : Option Addr} {n c i j m : Nat} {rs : List (List Value)} (hn : n = rs.length) (h : ReadsR k w (.slice a n c) rs) (hij : i ≤ j) (hj : j ≤ n) (hjm : j ≤ m) (hm : m ≤ c) : ReadsR k w (.slice (cutA a m i k) (j - i) (m - i)) ((rs.take j).drop i) := by
  subst hn
  obtain ⟨a0, cap0, hv, h2, h3, h4, h5⟩ := h
  injection hv with e1 e2 e3
  subst e1 e3
  have hl : ((rs.take j).drop i).length = j - i := by rw [List.length_drop, List.length_take]; omega
  refine ⟨_, m - i, by rw [hl], by rw [hl]; omega, by omega, ?_, ?_⟩
  · intro hn
    unfold cutA at hn
    by_cases hc : m = i
    · omega
    · rw [if_neg hc] at hn
      have : a = none := by cases a <;> simp_all
      have := h4 this
      omega
  · intro hne
    have hlt : i < j := by
      rcases Nat.lt_or_ge i j with h | h
      · exact h
      · exact absurd (List.length_eq_zero_iff.1 (by rw [hl]; omega)) hne
    obtain ⟨b, o, rfl, hc⟩ := h5 (by intro h; subst h; simp at hj; omega)
    refine ⟨b, o + i * k, by unfold cutA; rw [if_neg (by omega), Option.map_some, add_at], fun p r hp q x hx => ?_⟩
    rw [List.getElem?_drop, List.getElem?_take] at hp
    split at hp
    · have := hc (i + p) r hp q x hx
      rw [show o + (i + p) * k + q = o + i * k + p * k + q by rw [Nat.add_mul]; omega] at this
      exact this
    · cases hp
theorem cutA_own (a : Option Addr) (c i k n m : Nat) {g : Nat} (h : (Value.slice (cutA a c i k) n m).ownBlock = some g) (n' m' : Nat) : (Value.slice a n' m').ownBlock = some g := by
  cases a with
  | none => unfold cutA at h; split at h <;> simp [Value.ownBlock] at h
  | some a =>
    obtain ⟨a', ha, hb⟩ : ∃ a', cutA (some a) c i k = some a' ∧ a'.block = a.block := by
      unfold cutA
      split
      · exact ⟨a, rfl, rfl⟩
      · refine ⟨_, rfl, ?_⟩
        simp only [Addr.add]
        split <;> rfl
    rw [ha] at h
    simp [Value.ownBlock] at h ⊢
    omega
end
end Go.Proofs.Ytmihpgejaobdbaa
