import Derived.Deep.Slices
import Derived.Lib.Bytealg
import Derived.Laws.Cover1
import Derived.Deep.QuietTactic
import Derived.BigQuiet
import Derived.Test.YtgpbhlfdlkemjaaGreatQ04
import Derived.Test.YtgpbhlfdlkemjaaGreatQ12
/-
  Rows of k cells each: a slice that reads so, one that owns its row, append to one, slices of one.
-/
namespace Go.Proofs.YtgpbhlfdlkemjaaGreat
open Go.RowKit
set_option linter.unusedVariables false

/-- Each row has k cells. -/
def Wide (k : Nat) (rs : List (List Value)) : Prop := ∀ r ∈ rs, r.length = k ∧ ∀ u ∈ r, u.oneCell' = true
theorem Wide.append {k : Nat} {a b : List (List Value)} (h : Wide k a) (h' : Wide k b) : Wide k (a ++ b) := fun r hr => by
  rcases List.mem_append.1 hr with hr | hr
  · exact h r hr
  · exact h' r hr
theorem Wide.flat_length {k : Nat} : ∀ {rs : List (List Value)}, Wide k rs → rs.flatten.length = rs.length * k
  | [], _ => by simp
  | r :: rs, h => by
    rw [List.flatten_cons, List.length_append, Wide.flat_length (fun x hx => h x (by simp [hx])), (h r (by simp)).1, List.length_cons, Nat.add_mul]
    omega
theorem Wide.one {k : Nat} {rs : List (List Value)} (h : Wide k rs) : ∀ u ∈ rs.flatten, u.oneCell' = true := fun u hu => by
  obtain ⟨r, hr, hu⟩ := List.mem_flatten.1 hu
  exact (h r hr).2 u hu
theorem Wide.at {k : Nat} : ∀ {rs : List (List Value)} (h : Wide k rs) (j : Nat) (r : List Value), rs[j]? = some r → ∀ (i : Nat) (x : Value), r[i]? = some x → rs.flatten[j * k + i]? = some x
  | [], _, j, r, hj, _, _, _ => by simp at hj
  | s :: rs, h, 0, r, hj, i, x, hx => by
    simp at hj
    subst hj
    rw [List.flatten_cons, Nat.zero_mul, Nat.zero_add, List.getElem?_append_left (List.getElem?_eq_some_iff.1 hx).1]
    exact hx
  | s :: rs, h, j + 1, r, hj, i, x, hx => by
    have := Wide.at (rs := rs) (fun x hx => h x (by simp [hx])) j r (by simpa using hj) i x hx
    have hl := (h s (by simp)).1
    rw [List.flatten_cons, List.getElem?_append_right (by rw [hl, Nat.add_mul]; omega), hl, show (j + 1) * k + i - k = j * k + i by rw [Nat.add_mul]; omega]
    exact this
theorem Wide.inv {k : Nat} : ∀ {rs : List (List Value)} (h : Wide k rs) (m : Nat) (x : Value), rs.flatten[m]? = some x → ∃ j r i, rs[j]? = some r ∧ r[i]? = some x ∧ m = j * k + i
  | [], _, m, x, hx => by simp at hx
  | s :: rs, h, m, x, hx => by
    have hl := (h s (by simp)).1
    rw [List.flatten_cons] at hx
    by_cases hm : m < k
    · rw [List.getElem?_append_left (by omega)] at hx
      exact ⟨0, s, m, rfl, hx, by omega⟩
    · rw [List.getElem?_append_right (by omega), hl] at hx
      obtain ⟨j, r, i, h1, h2, h3⟩ := Wide.inv (fun x hx => h x (by simp [hx])) (m - k) x hx
      exact ⟨j + 1, r, i, by simpa using h1, h2, by rw [Nat.add_mul]; omega⟩
/-- The slice v reads as the rows rs, of k cells each. -/
def ReadsR (k : Nat) (w : World) (v : Value) (rs : List (List Value)) : Prop :=
  ∃ a cap, v = .slice a rs.length cap ∧ rs.length ≤ cap ∧ cap ≤ maxLen ∧ (a = none → cap = 0) ∧ (rs ≠ [] → ∃ b o, a = some ⟨b, o, none⟩ ∧ ∀ j r, rs[j]? = some r → ∀ i x, r[i]? = some x → w.cell? ⟨b, o + j * k + i, none⟩ = some x)
theorem ReadsR.nil (k : Nat) (w : World) : ReadsR k w (.slice none 0 0) [] := ⟨none, 0, rfl, by simp, by simp, by simp, by simp⟩
theorem ReadsR.form {k : Nat} {w : World} {v : Value} {rs : List (List Value)} (h : ReadsR k w v rs) : ∃ a c, v = .slice a rs.length c ∧ rs.length ≤ c ∧ c ≤ 9223372036854775807 := by
  obtain ⟨a, c, h1, h2, h3, _⟩ := h
  exact ⟨a, c, h1, h2, h3⟩
theorem ReadsR.at {k : Nat} {w : World} {v : Value} {rs : List (List Value)} (h : ReadsR k w v rs) (j : Nat) (r : List Value) (hj : rs[j]? = some r) : ∃ b o c, v = .slice (some ⟨b, o, none⟩) rs.length c ∧ ∀ i x, r[i]? = some x → w.cell? ⟨b, o + j * k + i, none⟩ = some x := by
  obtain ⟨a, cap, rfl, h2, h3, h4, h5⟩ := h
  obtain ⟨b, o, rfl, hc⟩ := h5 (by intro e; subst e; simp at hj)
  exact ⟨b, o, cap, rfl, hc j r hj⟩
/-- Every cell that is read is as it was. -/
theorem ReadsR.turn {k : Nat} {w w' : World} {v : Value} {rs : List (List Value)} (h : ReadsR k w v rs) (hc : ∀ g o x, v.ownBlock = some g → w.cell? ⟨g, o, none⟩ = some x → (∃ r ∈ rs, x ∈ r) → w'.cell? ⟨g, o, none⟩ = some x) : ReadsR k w' v rs := by
  obtain ⟨a, cap, rfl, h2, h3, h4, h5⟩ := h
  refine ⟨a, cap, rfl, h2, h3, h4, fun hl => ?_⟩
  obtain ⟨b, o, rfl, hh⟩ := h5 hl
  exact ⟨b, o, rfl, fun j r hj i x hx => hc b _ x rfl (hh j r hj i x hx) ⟨r, List.mem_of_getElem? hj, List.mem_of_getElem? hx⟩⟩
theorem ReadsR.kept {k : Nat} {S : List Nat} {w w' : World} {v : Value} {rs : List (List Value)} (h : ReadsR k w v rs) (kk : Kept S w w') (hn : ∀ g, v.ownBlock = some g → g ∉ S) : ReadsR k w' v rs :=
  h.turn fun g o x hg hx _ => by rw [kk.cell (World.block_lt_of_cell? w _ hx) (hn g hg)]; exact hx
theorem ReadsR.lt {k : Nat} {w : World} {v : Value} {rs : List (List Value)} (h : ReadsR k w v rs) (hw : Wide k rs) (hk : 0 < k) (hne : rs ≠ []) : ∃ g, v.ownBlock = some g ∧ g < w.heap.size := by
  cases rs with
  | nil => exact absurd rfl hne
  | cons r rs =>
    obtain ⟨b, o, c, rfl, hc⟩ := h.at 0 r rfl
    have hl := (hw r (by simp)).1
    cases r with
    | nil => simp at hl; omega
    | cons x r => exact ⟨b, rfl, World.block_lt_of_cell? w _ (hc 0 x rfl)⟩
/-- The slice v owns the rows rs, in memory of its own. -/
def OwnsR (e : TypeId) (k : Nat) (w : World) (v : Value) (rs : List (List Value)) : Prop := w.ownsRow 0 e k v rs.length rs.flatten
theorem OwnsR.nil (e : TypeId) (k : Nat) (w : World) : OwnsR e k w (.slice none 0 0) [] := World.ownsRow_nil w 0 e k
theorem OwnsR.form {e : TypeId} {k : Nat} {w : World} {v : Value} {rs : List (List Value)} (h : OwnsR e k w v rs) : ∃ a c, v = .slice a rs.length c ∧ rs.length ≤ c ∧ c ≤ 9223372036854775807 := by
  rcases h.2 with ⟨rfl, h0⟩ | ⟨g, cap, cur, rfl, _, _, h1, h2, _⟩
  · exact ⟨none, 0, by rw [h0], by omega, by omega⟩
  · exact ⟨_, cap, rfl, h1, h2⟩
theorem OwnsR.kept {e : TypeId} {k : Nat} {S : List Nat} {w w' : World} {v : Value} {rs : List (List Value)} (h : OwnsR e k w v rs) (kk : Kept S w w') (hn : ∀ g, v.ownBlock = some g → g ∉ S) : OwnsR e k w' v rs := ownsRow_keep h kk hn
theorem OwnsR.lt {e : TypeId} {k : Nat} {w : World} {v : Value} {rs : List (List Value)} (h : OwnsR e k w v rs) {g : Nat} (hg : v.ownBlock = some g) : g < w.heap.size := (World.ownsRow.lt h g hg).2
theorem OwnsR.reads {e : TypeId} {k : Nat} {w : World} {v : Value} {rs : List (List Value)} (h : OwnsR e k w v rs) (hw : Wide k rs) : ReadsR k w v rs := by
  have hcells := fun g hg => World.ownsRow.cells h (g := g) hg
  rcases h.2 with ⟨rfl, h0⟩ | ⟨g, cap, cur, rfl, _, hg, h1, h2, h3, h4⟩
  · have : rs = [] := List.eq_nil_of_length_eq_zero h0
    subst this
    exact ReadsR.nil k w
  · refine ⟨some ⟨g, 0, none⟩, cap, rfl, h1, h2, by simp, fun hl => ⟨g, 0, rfl, fun j r hj i x hx => ?_⟩⟩
    have f1 := hcells g rfl _ _ (hw.at j r hj i x hx)
    rw [add_at] at f1
    rw [Nat.add_assoc]
    exact f1
/-- What a type of rows is. -/
structure RowT (T e : TypeId) (k b : Nat) (z : Value) : Prop where
  under : Tryz.prog.underlying T = some (.slice e)
  info : (Tryz.prog.info? e).map (fun i => (i.zero, i.size, i.bytes)) = some (some z, k, b)
  zlen : z.cells.size = k
  kpos : 0 < k
  bytes : b ≤ 64
section
variable {T e : TypeId} {k b : Nat} {z : Value}
/-- 'append(v, x...)'. -/
theorem run_appendR (R : RowT T e k b z) (w : World) (ty : TypeId) (v : Value) (l : List (List Value)) (hown : OwnsR e k w v l) (x : Value) (m : List (List Value)) (hm : Wide k m) (hr : ReadsR k w x m) (hb : l.length + m.length ≤ 1000000) :
    ∃ ad c w', (Builtin.append_ #[T, T] ty #[v, x]).run Tryz.prog w = .ok (.slice ad (l.length + m.length) c) w' ∧ OwnsR e k w' (.slice ad (l.length + m.length) c) (l ++ m) ∧ w.grownBy w' v.ownBlock ∧ New w v (.slice ad (l.length + m.length) c) := by
  obtain ⟨i0, hi, hz0, hz1, hz2⟩ := info_parts R.info
  have key : ∀ v' w', (Builtin.append_ #[T, T] ty #[v, x]).run Tryz.prog w = .ok v' w' → OwnsR e k w' v' (l ++ m) → w.grownBy w' v.ownBlock → New w v v' → ∃ ad c w', (Builtin.append_ #[T, T] ty #[v, x]).run Tryz.prog w = .ok (.slice ad (l.length + m.length) c) w' ∧ OwnsR e k w' (.slice ad (l.length + m.length) c) (l ++ m) ∧ w.grownBy w' v.ownBlock ∧ New w v (.slice ad (l.length + m.length) c) := by
    intro v' w' h1 h2 h3 h4
    obtain ⟨ad, cap, rfl, -⟩ := h2.form
    rw [List.length_append] at h1 h2 h4
    exact ⟨ad, cap, w', h1, h2, h3, h4⟩
  obtain ⟨a, cap, rfl, h2, h3, h4, h5⟩ := hr
  cases a with
  | none =>
    have hc := h4 rfl
    subst hc
    have h0 : m = [] := List.eq_nil_of_length_eq_zero (by omega)
    subst h0
    have hrun := run_append_owned_none (P := Tryz.prog) (w := w) 0 T ty e i0 k R.under hi v l.length l.flatten hown
    exact key v w hrun (by rw [List.append_nil]; exact hown) ⟨rfl, rfl, rfl, Nat.le_refl _, fun _ _ _ => rfl⟩ (New.refl w v)
  | some a =>
    have hcell : ∀ j u, m.flatten[j]? = some u → w.cell? (a.add j) = some u := by
      intro j u hu
      obtain ⟨p, r, i, hp, hi', rfl⟩ := hm.inv j u hu
      obtain ⟨b, o, hab, hc⟩ := h5 (fun h => by subst h; simp at hp)
      simp at hab
      subst hab
      have := hc p r hp i u hi'
      rw [add_at, ← Nat.add_assoc]
      exact this
    obtain ⟨v', w', hrun, e1, e2, e3, e4⟩ := run_append_own_at (P := Tryz.prog) w 0 T ty e i0 z k b R.under hi hz0 hz1 hz2 R.zlen R.kpos v l.length l.flatten hown a m.length cap m.flatten hm.flat_length hcell hm.one (by unfold maxLen; omega) (by
      have := R.bytes
      have h1 : (l.length + m.length) * b ≤ 1000000 * 64 := Nat.mul_le_mul hb this
      omega) (Nat.zero_le _)
    refine key v' w' hrun ?_ e2 ?_
    · unfold OwnsR; rw [List.flatten_append, List.length_append]; exact e1
    · intro g hg
      rcases e4 with h | h
      · exact .inl (by rw [← h]; exact hg)
      · exact .inr (Nat.le_of_eq (Option.some.inj (h.symm.trans hg)))
/-- A new block of one row. -/
theorem reads_new (w : World) (cs : List Value) (hc : cs.length = k) (t : TypeId) (fr : Nat × Nat) : ReadsR k (w.alloc (.cells cs.toArray t fr)) (.slice (some ⟨w.heap.size, 0, none⟩) 1 1) [cs] := by
  have hh : (w.alloc (.cells cs.toArray t fr)).heap[w.heap.size]? = some (.cells cs.toArray t fr) := heap_alloc_new w _
  refine ⟨_, 1, rfl, by simp, by unfold maxLen; omega, by simp, fun _ => ⟨w.heap.size, 0, rfl, fun j u hu i x hx => ?_⟩⟩
  cases j with
  | zero =>
    simp at hu
    subst hu
    unfold World.cell?
    rw [hh]
    simpa using hx
  | succ j => simp at hu
/-- 'append(v, row)', as its run: the row lies in a new block. -/
theorem append_rowR (R : RowT T e k b z) {w : World} {v : Value} {l : List (List Value)} (ho : OwnsR e k w v l) (cs : List Value) (hc : cs.length = k) (h1 : ∀ u ∈ cs, u.oneCell' = true) (hn : l.length ≤ 900000) (t : TypeId) (fr : Nat × Nat) (ty : TypeId) :
    ∃ ad c w', (Builtin.append_ #[T, T] ty #[v, .slice (some ⟨w.heap.size, 0, none⟩) 1 1]).run Tryz.prog (w.alloc (.cells cs.toArray t fr)) = .ok (.slice ad (l.length + 1) c) w' ∧ OwnsR e k w' (.slice ad (l.length + 1) c) (l ++ [cs]) ∧ Kept v.ownBlock.toList w w' ∧ New w v (.slice ad (l.length + 1) c) := by
  have k0 := (Kept.refl [] w).alloc (.cells cs.toArray t fr)
  obtain ⟨ad, c, w', hrun, hO, hg, hN⟩ := run_appendR R _ ty v l (ho.kept k0 (by simp)) _ [cs] (fun r hr => by simp at hr; subst hr; exact ⟨hc, h1⟩) (reads_new (k := k) w cs hc t fr) (by simp; omega)
  refine ⟨ad, c, w', hrun, hO, (k0.mono (by simp)).grown hg (fun x hx => .inl (by rw [Option.mem_toList]; exact hx)), fun g hg => ?_⟩
  rcases hN g hg with h | h
  · exact .inl h
  · exact .inr (Nat.le_trans k0.size h)
theorem RowT.size (R : RowT T e k b z) (w : World) : (Go.sizeOf e).run Tryz.prog w = .ok k w := by
  obtain ⟨i0, hi, hz0, hz1, hz2⟩ := info_parts R.info
  simp [Go.sizeOf, typeInfo, hi, hz1]
theorem RowT.elem (R : RowT T e k b z) : Tryz.prog.elem T = e := by simp [Program.elem, R.under]
/-- What 'v[i:j]' or 'v[i:j:m]' is. -/
def cutA (a : Option Addr) (c i k : Nat) : Option Addr := if c = i then a else a.map (·.add (i * k))
theorem ReadsR.cut {w : World} {a : Option Addr} {n c i j m : Nat} {rs : List (List Value)} (hn : n = rs.length) (h : ReadsR k w (.slice a n c) rs) (hij : i ≤ j) (hj : j ≤ n) (hjm : j ≤ m) (hm : m ≤ c) : ReadsR k w (.slice (cutA a m i k) (j - i) (m - i)) ((rs.take j).drop i) := by
  subst hn
  obtain ⟨a0, cap0, hv, h2, h3, h4, h5⟩ := h
  injection hv with e1 e2 e3
  subst e1 e3
  have hl : ((rs.take j).drop i).length = j - i := by rw [List.length_drop, List.length_take]; omega
  refine ⟨_, m - i, by rw [hl], by rw [hl]; omega, by omega, ?_, ?_⟩
  · intro hn
    unfold cutA at hn
    by_cases hc : m = i
    · omega
    · rw [if_neg hc] at hn
      have : a = none := by cases a <;> simp_all
      have := h4 this
      omega
  · intro hne
    have hlt : i < j := by
      rcases Nat.lt_or_ge i j with h | h
      · exact h
      · exact absurd (List.length_eq_zero_iff.1 (by rw [hl]; omega)) hne
    obtain ⟨b, o, rfl, hc⟩ := h5 (by intro h; subst h; simp at hj; omega)
    refine ⟨b, o + i * k, by unfold cutA; rw [if_neg (by omega), Option.map_some, add_at], fun p r hp q x hx => ?_⟩
    rw [List.getElem?_drop, List.getElem?_take] at hp
    split at hp
    · have := hc (i + p) r hp q x hx
      rw [show o + (i + p) * k + q = o + i * k + p * k + q by rw [Nat.add_mul]; omega] at this
      exact this
    · cases hp
theorem cutA_own (a : Option Addr) (c i k n m : Nat) {g : Nat} (h : (Value.slice (cutA a c i k) n m).ownBlock = some g) (n' m' : Nat) : (Value.slice a n' m').ownBlock = some g := by
  cases a with
  | none => unfold cutA at h; split at h <;> simp [Value.ownBlock] at h
  | some a =>
    obtain ⟨a', ha, hb⟩ : ∃ a', cutA (some a) c i k = some a' ∧ a'.block = a.block := by
      unfold cutA
      split
      · exact ⟨a, rfl, rfl⟩
      · refine ⟨_, rfl, ?_⟩
        simp only [Addr.add]
        split <;> rfl
    rw [ha] at h
    simp [Value.ownBlock] at h ⊢
    omega
end
end Go.Proofs.YtgpbhlfdlkemjaaGreat
/-
  Trees in memory.
-/
namespace Go.Proofs.YtgpbhlfdlkemjaaGreat
open Go.RowKit
set_option linter.unusedVariables false

/-- A pointer to a block. -/
abbrev Pp (a : Nat) : Value := .pointer (some ⟨a, 0, none⟩)
/-- Pointers as rows. -/
def CP (l : List Nat) : List (List Value) := l.map fun a => [Pp a]
theorem CP_length (l : List Nat) : (CP l).length = l.length := by simp [CP]
theorem CP_append (a b : List Nat) : CP (a ++ b) = CP a ++ CP b := by simp [CP]
theorem CP_wide (l : List Nat) : Wide 1 (CP l) := fun r hr => by
  obtain ⟨a, _, rfl⟩ := List.mem_map.1 hr
  exact ⟨rfl, fun u hu => by simp at hu; subst hu; rfl⟩
theorem CP_at {l : List Nat} {j a : Nat} (h : l[j]? = some a) : (CP l)[j]? = some [Pp a] := by simp [CP, h]
/-- The slice v reads as pointers to the blocks l. -/
def ReadsP (w : World) (v : Value) (l : List Nat) : Prop := ReadsR 1 w v (CP l)
theorem ReadsP.nil (w : World) : ReadsP w (.slice none 0 0) [] := ReadsR.nil 1 w
theorem ReadsP.form {w : World} {v : Value} {l : List Nat} (h : ReadsP w v l) : ∃ a c, v = .slice a l.length c ∧ l.length ≤ c ∧ c ≤ 9223372036854775807 := by
  have := ReadsR.form h
  rwa [CP_length] at this
theorem ReadsP.kept {S : List Nat} {w w' : World} {v : Value} {l : List Nat} (h : ReadsP w v l) (k : Kept S w w') (hn : ∀ g, v.ownBlock = some g → g ∉ S) : ReadsP w' v l := ReadsR.kept h k hn
theorem ReadsP.keptE {S : List Nat} {w w' : World} {v : Value} {l : List Nat} (h : ReadsP w v l) (k : Kept S w w') (hn : l ≠ [] → ∀ g, v.ownBlock = some g → g ∉ S) : ReadsP w' v l := by
  by_cases hl : l = []
  · subst hl
    obtain ⟨a, cap, rfl, h2, h3, h4, _⟩ := h
    exact ⟨a, cap, rfl, h2, h3, h4, fun h => absurd rfl h⟩
  · exact h.kept k (hn hl)
theorem Reads.keptE {S : List Nat} {w w' : World} {v : Value} {l : List UInt8} (h : Reads w v l) (k : Kept S w w') (hn : l ≠ [] → ∀ g, v.ownBlock = some g → g ∉ S) : Reads w' v l := by
  by_cases hl : l = []
  · subst hl
    obtain ⟨a, cap, rfl, h2, h3, h4, _⟩ := h
    exact ⟨a, cap, rfl, h2, h3, h4, fun h => absurd rfl h⟩
  · exact h.kept k (hn hl)
theorem ReadsP.at {w : World} {v : Value} {l : List Nat} (h : ReadsP w v l) (j a : Nat) (hj : l[j]? = some a) : ∃ b o c, v = .slice (some ⟨b, o, none⟩) l.length c ∧ w.cell? ⟨b, o + j, none⟩ = some (.pointer (some ⟨a, 0, none⟩)) := by
  obtain ⟨b, o, c, rfl, hc⟩ := ReadsR.at h j _ (CP_at hj)
  rw [CP_length]
  refine ⟨b, o, c, rfl, ?_⟩
  have := hc 0 (Pp a) rfl
  rwa [Nat.mul_one, Nat.add_zero] at this
theorem ReadsP.lt {w : World} {v : Value} {l : List Nat} (h : ReadsP w v l) (hl : l ≠ []) {g : Nat} (hg : v.ownBlock = some g) : g < w.heap.size := by
  obtain ⟨b, hb, hlt⟩ := ReadsR.lt h (CP_wide l) (by omega) (by intro e; have := congrArg List.length e; rw [CP_length] at this; exact hl (List.eq_nil_of_length_eq_zero this))
  have e : b = g := Option.some.inj (hb.symm.trans hg)
  subst e
  exact hlt
/-- A row of pointers is determined. -/
theorem ReadsP.det {w : World} {v : Value} {l m : List Nat} (h : ReadsP w v l) (h' : ReadsP w v m) : l = m := by
  obtain ⟨a, c, rfl, -⟩ := h.form
  obtain ⟨a2, c2, e, -⟩ := h'.form
  injection e with _ hl _
  refine List.ext_getElem? fun j => ?_
  by_cases hj : j < l.length
  · obtain ⟨x, hx⟩ : ∃ x, l[j]? = some x := ⟨_, List.getElem?_eq_getElem hj⟩
    obtain ⟨y, hy⟩ : ∃ y, m[j]? = some y := ⟨_, List.getElem?_eq_getElem (by omega)⟩
    obtain ⟨b, o, c3, e3, hc3⟩ := h.at j x hx
    obtain ⟨b', o', c4, e4, hc4⟩ := h'.at j y hy
    rw [e3] at e4
    injection e4 with e5 _ _
    injection e5 with e5
    injection e5 with e6 e7 _
    subst e6 e7
    rw [hc3] at hc4
    injection hc4 with hc4
    injection hc4 with hc4
    injection hc4 with hc4
    injection hc4 with hc4 _ _
    rw [hx, hy, hc4]
  · rw [List.getElem?_eq_none (by omega), List.getElem?_eq_none (by omega)]
/-- The slice v owns pointers to the blocks l (e: the pointers' type). -/
def OwnsP (e : TypeId) (w : World) (v : Value) (l : List Nat) : Prop := OwnsR e 1 w v (CP l)
theorem OwnsP.nil (e : TypeId) (w : World) : OwnsP e w (.slice none 0 0) [] := OwnsR.nil e 1 w
theorem OwnsP.form {e : TypeId} {w : World} {v : Value} {l : List Nat} (h : OwnsP e w v l) : ∃ a c, v = .slice a l.length c ∧ l.length ≤ c ∧ c ≤ 9223372036854775807 := by
  have := OwnsR.form h
  rwa [CP_length] at this
theorem OwnsP.kept {e : TypeId} {S : List Nat} {w w' : World} {v : Value} {l : List Nat} (h : OwnsP e w v l) (k : Kept S w w') (hn : ∀ g, v.ownBlock = some g → g ∉ S) : OwnsP e w' v l := OwnsR.kept h k hn
theorem OwnsP.lt {e : TypeId} {w : World} {v : Value} {l : List Nat} (h : OwnsP e w v l) {g : Nat} (hg : v.ownBlock = some g) : g < w.heap.size := OwnsR.lt h hg
theorem OwnsP.reads {e : TypeId} {w : World} {v : Value} {l : List Nat} (h : OwnsP e w v l) : ReadsP w v l := OwnsR.reads h (CP_wide l)
theorem rt112 : RowT 112 77 1 8 (.pointer none) := ⟨Tryz.underlying112, by kernel_rfl, rfl, by omega, by omega⟩
theorem rt111 : RowT 111 100 1 8 (.pointer none) := ⟨Tryz.underlying111, by kernel_rfl, rfl, by omega, by omega⟩
theorem run_appendP {T e : TypeId} {b : Nat} {z : Value} (R : RowT T e 1 b z) (w : World) (ty : TypeId) (v : Value) (l : List Nat) (hown : OwnsP e w v l) (x : Value) (m : List Nat) (hr : ReadsP w x m) (hb : l.length + m.length ≤ 1000000) :
    ∃ ad c w', (Builtin.append_ #[T, T] ty #[v, x]).run Tryz.prog w = .ok (.slice ad (l.length + m.length) c) w' ∧ OwnsP e w' (.slice ad (l.length + m.length) c) (l ++ m) ∧ Kept v.ownBlock.toList w w' ∧ New w v (.slice ad (l.length + m.length) c) := by
  have h := run_appendR R w ty v (CP l) hown x (CP m) (CP_wide m) hr (by simpa [CP_length] using hb)
  rw [CP_length, CP_length] at h
  obtain ⟨ad, c, w', h1, h2, h3, h4⟩ := h
  exact ⟨ad, c, w', h1, by unfold OwnsP; rw [CP_append]; exact h2, (Kept.refl _ w).grown h3 (fun x hx => .inl (by rw [Option.mem_toList]; exact hx)), h4⟩
theorem append_ptr {T e : TypeId} {b : Nat} {z : Value} (R : RowT T e 1 b z) {w : World} {v : Value} {l : List Nat} (ho : OwnsP e w v l) (a : Nat) (hn : l.length ≤ 900000) (t : TypeId) (fr : Nat × Nat) (ty : TypeId) :
    ∃ ad c w', (Builtin.append_ #[T, T] ty #[v, .slice (some ⟨w.heap.size, 0, none⟩) 1 1]).run Tryz.prog (w.alloc (.cells #[Pp a] t fr)) = .ok (.slice ad (l.length + 1) c) w' ∧ OwnsP e w' (.slice ad (l.length + 1) c) (l ++ [a]) ∧ Kept v.ownBlock.toList w w' ∧ New w v (.slice ad (l.length + 1) c) := by
  have h := append_rowR R ho [Pp a] rfl (fun u hu => by simp at hu; subst hu; rfl) (by simpa [CP_length] using hn) t fr ty
  rw [CP_length] at h
  obtain ⟨ad, c, w', h1, h2, h3, h4⟩ := h
  exact ⟨ad, c, w', h1, by unfold OwnsP; rw [CP_append]; exact h2, h3, h4⟩
theorem ReadsP.cut {w : World} {a : Option Addr} {n c i j m : Nat} {l : List Nat} (hn : n = l.length) (h : ReadsP w (.slice a n c) l) (hij : i ≤ j) (hj : j ≤ n) (hjm : j ≤ m) (hm : m ≤ c) : ReadsP w (.slice (cutA a m i 1) (j - i) (m - i)) ((l.take j).drop i) := by
  have := ReadsR.cut (by rw [CP_length]; exact hn) h hij hj hjm hm
  unfold ReadsP CP
  rw [List.map_drop, List.map_take]
  exact this
/-- The refs by their blocks: a name and a sum each. -/
abbrev Rho := Nat → Nat × Nat
/-- An item in memory; all its blocks are in F. -/
def IsI (w : World) (F : Nat → Prop) (ρ : Rho) (i : Itm) : Prop :=
  ∃ v, w.heap[i.ad]? = some (.cells #[.int .i64 ((ρ i.ad).1 : Int), .int .u64 ((ρ i.ad).2 : Int), .string ⟨i.key.toArray⟩, v] 104 (0, 0)) ∧ Reads w v i.val ∧ F i.ad ∧ (i.val ≠ [] → ∀ g, v.ownBlock = some g → F g)
/-- A node's block. -/
def IsB (w : World) (F : Nat → Prop) (a : Nat) (r : Nat × Nat) (lv : Nat) (is us : List Nat) : Prop :=
  ∃ vi vu, w.heap[a]? = some (.cells #[.int .i64 (r.1 : Int), .int .u64 (r.2 : Int), .int .i64 (lv : Int), vi, vu] 114 (0, 0)) ∧ ReadsP w vi is ∧ ReadsP w vu us ∧ F a ∧ (is ≠ [] → ∀ g, vi.ownBlock = some g → F g) ∧ (us ≠ [] → ∀ g, vu.ownBlock = some g → F g)
/-- A node in memory, with all below it. -/
def IsN (w : World) (F : Nat → Prop) (ρ : Rho) : {k : Nat} → Tr k → Prop
  | 0, n => IsB w F n.1 (ρ n.1) 0 (n.2.map Itm.ad) [] ∧ ∀ i ∈ n.2, IsI w F ρ i
  | k + 1, n => IsB w F n.1 (ρ n.1) (k + 1) [] (n.2.map adr) ∧ ∀ u ∈ n.2, IsN w F ρ (k := k) u
section
variable {w w' : World} {F F' : Nat → Prop} {ρ ρ' : Rho}
theorem IsI.kept {S : List Nat} {i : Itm} (h : IsI w F ρ i) (k : Kept S w w') (hS : ∀ x ∈ S, ¬ F x) : IsI w' F ρ i := by
  obtain ⟨v, h1, h2, h3, h4⟩ := h
  exact ⟨v, k.keeps h1 (fun hm => hS _ hm h3), h2.keptE k (fun hl g hg hm => hS g hm (h4 hl g hg)), h3, h4⟩
theorem IsI.monoS {i : Itm} (h : IsI w F ρ i) (hF : ∀ x, x < w.heap.size → F x → F' x) : IsI w F' ρ i := by
  obtain ⟨v, h1, h2, h3, h4⟩ := h
  exact ⟨v, h1, h2, hF _ (lt_of_block h1) h3, fun hl g hg => by
    obtain ⟨b, hb, hlt⟩ := h2.lt hl
    have e : b = g := Option.some.inj (hb.symm.trans hg)
    subst e
    exact hF b hlt (h4 hl b hg)⟩
theorem IsI.mono {i : Itm} (h : IsI w F ρ i) (hF : ∀ x, F x → F' x) : IsI w F' ρ i := by
  obtain ⟨v, h1, h2, h3, h4⟩ := h
  exact ⟨v, h1, h2, hF _ h3, fun hl g hg => hF g (h4 hl g hg)⟩
theorem IsI.lt {i : Itm} (h : IsI w F ρ i) : i.ad < w.heap.size := by
  obtain ⟨v, h1, _⟩ := h
  exact lt_of_block h1
theorem IsB.kept {S : List Nat} {a lv : Nat} {r : Nat × Nat} {is us : List Nat} (h : IsB w F a r lv is us) (k : Kept S w w') (hS : ∀ x ∈ S, ¬ F x) : IsB w' F a r lv is us := by
  obtain ⟨vi, vu, h1, h2, h3, h4, h5, h6⟩ := h
  exact ⟨vi, vu, k.keeps h1 (fun hm => hS _ hm h4), h2.keptE k (fun hl g hg hm => hS g hm (h5 hl g hg)), h3.keptE k (fun hl g hg hm => hS g hm (h6 hl g hg)), h4, h5, h6⟩
theorem IsB.monoS {a lv : Nat} {r : Nat × Nat} {is us : List Nat} (h : IsB w F a r lv is us) (hF : ∀ x, x < w.heap.size → F x → F' x) : IsB w F' a r lv is us := by
  obtain ⟨vi, vu, h1, h2, h3, h4, h5, h6⟩ := h
  exact ⟨vi, vu, h1, h2, h3, hF _ (lt_of_block h1) h4, fun hl g hg => hF g (h2.lt hl hg) (h5 hl g hg), fun hl g hg => hF g (h3.lt hl hg) (h6 hl g hg)⟩
theorem IsB.mono {a lv : Nat} {r : Nat × Nat} {is us : List Nat} (h : IsB w F a r lv is us) (hF : ∀ x, F x → F' x) : IsB w F' a r lv is us := by
  obtain ⟨vi, vu, h1, h2, h3, h4, h5, h6⟩ := h
  exact ⟨vi, vu, h1, h2, h3, hF _ h4, fun hl g hg => hF g (h5 hl g hg), fun hl g hg => hF g (h6 hl g hg)⟩
theorem IsB.lt {a lv : Nat} {r : Nat × Nat} {is us : List Nat} (h : IsB w F a r lv is us) : a < w.heap.size := by
  obtain ⟨vi, vu, h1, _⟩ := h
  exact lt_of_block h1
theorem IsN.kept {S : List Nat} (kk : Kept S w w') (hS : ∀ x ∈ S, ¬ F x) : {k : Nat} → {n : Tr k} → IsN w F ρ n → IsN w' F ρ n
  | 0, n, h => ⟨h.1.kept kk hS, fun i hi => (h.2 i hi).kept kk hS⟩
  | k + 1, n, h => ⟨h.1.kept kk hS, fun u hu => IsN.kept kk hS (h.2 u hu)⟩
theorem IsN.mono (hF : ∀ x, F x → F' x) : {k : Nat} → {n : Tr k} → IsN w F ρ n → IsN w F' ρ n
  | 0, n, h => ⟨h.1.mono hF, fun i hi => (h.2 i hi).mono hF⟩
  | k + 1, n, h => ⟨h.1.mono hF, fun u hu => IsN.mono hF (h.2 u hu)⟩
theorem IsN.monoS (hF : ∀ x, x < w.heap.size → F x → F' x) : {k : Nat} → {n : Tr k} → IsN w F ρ n → IsN w F' ρ n
  | 0, n, h => ⟨h.1.monoS hF, fun i hi => (h.2 i hi).monoS hF⟩
  | k + 1, n, h => ⟨h.1.monoS hF, fun u hu => IsN.monoS hF (h.2 u hu)⟩
theorem IsN.item : {k : Nat} → {n : Tr k} → IsN w F ρ n → ∀ i ∈ its n, IsI w F ρ i
  | 0, n, h, i, hi => h.2 i hi
  | k + 1, n, h, i, hi => by
    rw [its_succ] at hi
    obtain ⟨u, hu, hi⟩ := List.mem_flatMap.1 hi
    exact IsN.item (h.2 u hu) i hi
theorem IsN.lt : {k : Nat} → {n : Tr k} → IsN w F ρ n → adr n < w.heap.size
  | 0, _, h => h.1.lt
  | _ + 1, _, h => h.1.lt
theorem IsN.inF : {k : Nat} → {n : Tr k} → IsN w F ρ n → F (adr n)
  | 0, _, h => by obtain ⟨_, _, _, _, _, h4, _⟩ := h.1; exact h4
  | _ + 1, _, h => by obtain ⟨_, _, _, _, _, h4, _⟩ := h.1; exact h4
/-- A node's level is in its block. -/
theorem IsN.level : {k : Nat} → {n : Tr k} → IsN w F ρ n → w.cell? ⟨adr n, 2, none⟩ = some (.int .i64 (k : Int))
  | 0, n, h => by obtain ⟨vi, vu, h1, _⟩ := h.1; show w.cell? ⟨n.1, 2, none⟩ = _; simp [World.cell?, h1]
  | k + 1, n, h => by obtain ⟨vi, vu, h1, _⟩ := h.1; show w.cell? ⟨n.1, 2, none⟩ = _; simp [World.cell?, h1]
/-- A node's ref is in its block. -/
theorem IsN.ref : {k : Nat} → {n : Tr k} → IsN w F ρ n → w.cell? ⟨adr n, 0, none⟩ = some (.int .i64 ((ρ (adr n)).1 : Int)) ∧ w.cell? ⟨adr n, 1, none⟩ = some (.int .u64 ((ρ (adr n)).2 : Int))
  | 0, n, h => by obtain ⟨vi, vu, h1, _⟩ := h.1; show w.cell? ⟨n.1, 0, none⟩ = some (.int .i64 ((ρ n.1).1 : Int)) ∧ w.cell? ⟨n.1, 1, none⟩ = some (.int .u64 ((ρ n.1).2 : Int)); simp [World.cell?, h1]
  | k + 1, n, h => by obtain ⟨vi, vu, h1, _⟩ := h.1; show w.cell? ⟨n.1, 0, none⟩ = some (.int .i64 ((ρ n.1).1 : Int)) ∧ w.cell? ⟨n.1, 1, none⟩ = some (.int .u64 ((ρ n.1).2 : Int)); simp [World.cell?, h1]
theorem IsI.cells {i : Itm} (h : IsI w F ρ i) : ∃ a c, w.cell? ⟨i.ad, 0, none⟩ = some (.int .i64 ((ρ i.ad).1 : Int)) ∧ w.cell? ⟨i.ad, 1, none⟩ = some (.int .u64 ((ρ i.ad).2 : Int)) ∧ w.cell? ⟨i.ad, 2, none⟩ = some (.string ⟨i.key.toArray⟩) ∧ w.cell? ⟨i.ad, 3, none⟩ = some (.slice a i.val.length c) ∧ Reads w (.slice a i.val.length c) i.val := by
  obtain ⟨v, h1, h2, _⟩ := h
  obtain ⟨a, c, rfl, hr⟩ := id h2
  exact ⟨a, c, by simp [World.cell?, h1], by simp [World.cell?, h1], by simp [World.cell?, h1], by simp [World.cell?, h1], h2⟩
/-- An item's key and value are determined by its block. -/
theorem IsI.det {i j : Itm} (h : IsI w F ρ i) (h' : IsI w F' ρ' j) (e : i.ad = j.ad) : i = j := by
  obtain ⟨v, h1, h2, _⟩ := h
  obtain ⟨v', h1', h2', _⟩ := h'
  rw [← e, h1] at h1'
  simp at h1'
  obtain ⟨_, _, hk, hv⟩ := h1'
  subst hv
  have hval : i.val = j.val := by
    obtain ⟨a, c, rfl, _, _, _, h5⟩ := h2
    obtain ⟨a', c', e2, _, _, _, h5'⟩ := h2'
    injection e2 with ea hl ec
    subst ea ec
    refine List.ext_getElem? fun p => ?_
    by_cases hp : p < i.val.length
    · obtain ⟨x, hx⟩ : ∃ x, i.val[p]? = some x := ⟨_, List.getElem?_eq_getElem hp⟩
      obtain ⟨y, hy⟩ : ∃ y, j.val[p]? = some y := ⟨_, List.getElem?_eq_getElem (by omega)⟩
      obtain ⟨b, o, rfl, hc⟩ := h5 (by intro e; rw [e] at hx; simp at hx)
      obtain ⟨b', o', e3, hc'⟩ := h5' (by intro e; rw [e] at hy; simp at hy)
      injection e3 with e3
      injection e3 with e4 e5 _
      subst e4 e5
      have c1 := hc p x hx
      rw [hc' p y hy] at c1
      simp only [B8] at c1
      injection c1 with c1
      injection c1 with _ c1
      have c2 : x = y := UInt8.toNat_inj.1 (by omega)
      rw [hx, hy, c2]
    · rw [List.getElem?_eq_none (by omega), List.getElem?_eq_none (by omega)]
  cases i
  cases j
  simp_all
end
end Go.Proofs.YtgpbhlfdlkemjaaGreat
/-
  strings.Compare, and the tree's small functions that only read.
-/
namespace Go.Proofs.YtgpbhlfdlkemjaaGreat
open Go.RowKit
set_option linter.unusedVariables false

/-- A text as a value. -/
abbrev Sv (l : List UInt8) : Value := .string ⟨l.toArray⟩
set_option maxRecDepth 100000 in
theorem cmp_any (a b : List UInt8) (w : World) : Calls Tryz.prog 45 #[Sv a, Sv b] w fun e w' => e = .returned (.int .i64 (Lib.compareBytes a b)) ∧ w = w' := by
  have h75 : Calls Tryz.prog 75 #[Sv a, Sv b] w fun e w' => e = .returned (.int .i64 (Lib.compareBytes a b)) ∧ w = w' := by
    go_enter Tryz.func75, Tryz.ntmps75
    go_wp2
    rw [run_callFunc_extern Tryz.func116 (by kernel_rfl) (by kernel_rfl) (by kernel_rfl) (e := Extern.BytealgCompare.compare) (by kernel_rfl), Lib.run_compareString]
    simp only [Result.andThen]
    rw [Oper.upon_value]
    go_wp2
    go_ret
    exact ⟨rfl, rfl⟩
  generalize Lib.compareBytes a b = r at h75 ⊢
  go_enter Tryz.func45, Tryz.ntmps45
  go_wp2_with fail
  refine h75.mono ?_
  rintro e w' ⟨rfl, rfl⟩
  go_wp2
  go_ret
  exact ⟨rfl, rfl⟩
theorem cmp_lt : ∀ (a b : List UInt8), Lib.compareBytes a b < 0 ↔ a < b
  | [], [] => by simp [Lib.compareBytes]
  | [], _ :: _ => by simp [Lib.compareBytes]
  | _ :: _, [] => by simp [Lib.compareBytes]
  | x :: a, y :: b => by
    rw [List.cons_lt_cons_iff, Lib.compareBytes]
    by_cases h1 : x < y
    · simp [h1]
    · by_cases h2 : y < x
      · have : ¬ x = y := by rintro rfl; exact h1 h2
        simp [h1, h2, this]
      · have e : x = y := UInt8.toNat_inj.1 (by rw [UInt8.lt_iff_toNat_lt] at h1 h2; omega)
        subst e
        simp [h1, cmp_lt a b]
theorem cmp_eq : ∀ (a b : List UInt8), Lib.compareBytes a b = 0 ↔ a = b
  | [], [] => by simp [Lib.compareBytes]
  | [], _ :: _ => by simp [Lib.compareBytes]
  | _ :: _, [] => by simp [Lib.compareBytes]
  | x :: a, y :: b => by
    rw [Lib.compareBytes]
    by_cases h1 : x < y
    · have : ¬ x = y := by rintro rfl; rw [UInt8.lt_iff_toNat_lt] at h1; omega
      simp [h1, this]
    · by_cases h2 : y < x
      · have : ¬ x = y := by rintro rfl; exact h1 h2
        simp [h1, h2, this]
      · have e : x = y := UInt8.toNat_inj.1 (by rw [UInt8.lt_iff_toNat_lt] at h1 h2; omega)
        subst e
        simp [h1, cmp_eq a b]
theorem isLong_any (k v : Nat) (hk : k ≤ 1000000) (hv : v ≤ 1000000) (w : World) : Calls Tryz.prog 126 #[.int .i64 (k : Int), .int .i64 (v : Int)] w fun e w' => e = .returned (.bool (decide (236 < 3 + k + v))) ∧ w' = w := by
  go_enter Tryz.func126, Tryz.ntmps126
  go_wp2
  go_ret
  exact ⟨congrArg (fun b => Ending.returned (.bool b)) (by rw [Bool.eq_iff_iff]; simp; omega), rfl⟩
theorem itemSize_any (k v : Nat) (hk : k ≤ 1000000) (hv : v ≤ 1000000) (w : World) : Calls Tryz.prog 165 #[.int .i64 (k : Int), .int .i64 (v : Int)] w fun e w' => e = .returned (.int .i64 ((if 236 < 3 + k + v then 14 + k else 3 + k + v : Nat) : Int)) ∧ w' = w := by
  have hl := isLong_any k v hk hv w
  by_cases h : 236 < 3 + k + v
  · rw [if_pos h]
    rw [decide_eq_true h] at hl
    go_enter Tryz.func165, Tryz.ntmps165
    go_wp2_with fail
    refine hl.mono ?_
    rintro e w' ⟨rfl, rfl⟩
    go_wp2
    go_ret
    exact ⟨congrArg (fun x => Ending.returned (.int .i64 x)) (by omega), rfl⟩
  · rw [if_neg h]
    rw [decide_eq_false h] at hl
    go_enter Tryz.func165, Tryz.ntmps165
    go_wp2_with fail
    refine hl.mono ?_
    rintro e w' ⟨rfl, rfl⟩
    go_wp2
    go_ret
    exact ⟨congrArg (fun x => Ending.returned (.int .i64 x)) (by omega), rfl⟩
section
variable {w : World} {F : Nat → Prop} {ρ : Rho}
set_option maxRecDepth 100000 in
theorem item_isLong {i : Itm} (h : IsI w F ρ i) (hk : i.key.length ≤ 1000) (hv : i.val.length ≤ 100000) : Calls Tryz.prog 83 #[Pp i.ad] w fun e w' => e = .returned (.bool (lng i)) ∧ ∃ q, w' = w.drewN q := by
  obtain ⟨a, c, -, -, c2, c3, -⟩ := h.cells
  have hl := fun W => isLong_any i.key.length i.val.length (by omega) (by omega) W
  have e : lng i = decide (236 < 3 + i.key.length + i.val.length) := rfl
  rw [e]
  generalize decide (236 < 3 + i.key.length + i.val.length) = r at hl ⊢
  clear h e
  go_enter Tryz.func83, Tryz.ntmps83
  go_wp2_with fail
  go_quiet ((go_at_call 126; exact Calls.quiet_of_same (hl _)))
  go_wp2
  go_ret
  exact ⟨rfl, _, rfl⟩
set_option maxRecDepth 100000 in
theorem item_size {i : Itm} (h : IsI w F ρ i) (hk : i.key.length ≤ 1000) (hv : i.val.length ≤ 100000) : Calls Tryz.prog 142 #[Pp i.ad] w fun e w' => e = .returned (.int .i64 (isz i : Int)) ∧ ∃ q, w' = w.drewN q := by
  obtain ⟨a, c, -, -, c2, c3, -⟩ := h.cells
  have hl := fun W => itemSize_any i.key.length i.val.length (by omega) (by omega) W
  have e : isz i = (if 236 < 3 + i.key.length + i.val.length then 14 + i.key.length else 3 + i.key.length + i.val.length) := rfl
  rw [e]
  generalize (if 236 < 3 + i.key.length + i.val.length then 14 + i.key.length else 3 + i.key.length + i.val.length) = r at hl ⊢
  clear h e
  go_enter Tryz.func142, Tryz.ntmps142
  go_wp2_with fail
  go_quiet ((go_at_call 165; exact Calls.quiet_of_same (hl _)))
  go_wp2
  go_ret
  exact ⟨rfl, _, rfl⟩
end
end Go.Proofs.YtgpbhlfdlkemjaaGreat
/-
  first, filled: what a node begins with, and how full it is.
-/
namespace Go.Proofs.YtgpbhlfdlkemjaaGreat
open Go.RowKit
set_option linter.unusedVariables false

section
variable {w : World} {F : Nat → Prop} {ρ : Rho}
/-- A branch's cells. -/
theorem IsN.br {k : Nat} {n : Tr (k + 1)} (h : IsN w F ρ n) : ∃ aI cI aU cU, w.cell? ⟨n.1, 2, none⟩ = some (.int .i64 ((k : Int) + 1)) ∧ w.cell? ⟨n.1, 3, none⟩ = some (.slice aI 0 cI) ∧ w.cell? ⟨n.1, 4, none⟩ = some (.slice aU n.2.length cU) ∧ ReadsP w (.slice aI 0 cI) [] ∧ ReadsP w (.slice aU n.2.length cU) (n.2.map adr) := by
  obtain ⟨vi, vu, h1, h2, h3, _⟩ := h.1
  obtain ⟨aI, cI, rfl, -⟩ := h2.form
  obtain ⟨aU, cU, rfl, -⟩ := h3.form
  rw [List.length_map] at h3 h1
  exact ⟨aI, cI, aU, cU, by simp [World.cell?, h1], by simp [World.cell?, h1], by simp [World.cell?, h1], h2, h3⟩
/-- A leaf's cells. -/
theorem IsN.lf {n : Tr 0} (h : IsN w F ρ n) : ∃ aI cI aU cU, w.cell? ⟨n.1, 2, none⟩ = some (.int .i64 0) ∧ w.cell? ⟨n.1, 3, none⟩ = some (.slice aI n.2.length cI) ∧ w.cell? ⟨n.1, 4, none⟩ = some (.slice aU 0 cU) ∧ ReadsP w (.slice aI n.2.length cI) (n.2.map Itm.ad) ∧ ReadsP w (.slice aU 0 cU) [] := by
  obtain ⟨vi, vu, h1, h2, h3, _⟩ := h.1
  obtain ⟨aI, cI, rfl, -⟩ := h2.form
  obtain ⟨aU, cU, rfl, -⟩ := h3.form
  rw [List.length_map] at h2 h1
  exact ⟨aI, cI, aU, cU, by simp [World.cell?, h1], by simp [World.cell?, h1], by simp [World.cell?, h1], h2, h3⟩
/-- A node's level, off its block. -/
def lvAt (w : World) (v : Value) : Nat := match v with
  | .pointer (some a) => (match w.cell? ⟨a.block, 2, none⟩ with
    | some (.int _ z) => z.toNat
    | _ => 0)
  | _ => 0
theorem lvAt_of {k : Nat} {n : Tr k} (h : IsN w F ρ n) : lvAt w (Pp (adr n)) = k := by
  simp [lvAt, h.level]
theorem Wf.head {k : Nat} {n : Tr (k + 1)} (h : Wf n) : ∃ u r, n.2 = u :: r ∧ Wf u ∧ (its n).head? = (its u).head? := by
  cases e : n.2 with
  | nil => exact absurd e h.1
  | cons u r =>
    have hu := h.2.2.1 u (by rw [e]; simp)
    refine ⟨u, r, rfl, hu, ?_⟩
    rw [its_succ, e, List.flatMap_cons]
    cases e2 : its u with
    | nil => exact absurd e2 hu.some
    | cons a b => rfl
set_option maxRecDepth 100000 in
set_option maxHeartbeats 400000 in
theorem first_any {k : Nat} {n : Tr k} (h : IsN w F ρ n) (hw : Wf n) (i : Itm) (hi : (its n).head? = some i) : Calls Tryz.prog 134 #[Pp (adr n)] w fun e w' => e = .returned (Sv i.key) ∧ w = w' := by
  go_enter Tryz.func134, Tryz.ntmps134
  go_wp2_with fail
  go_loop [0] (fun v => ∃ (j : Nat) (m : Tr j), v = Pp (adr m) ∧ IsN w F ρ m ∧ Wf m ∧ (its m).head? = some i) (fun v => lvAt w v)
  case atStart => exact ⟨k, n, rfl, h, hw, hi⟩
  case round =>
    obtain ⟨j, m, rfl, hm, hwm, him⟩ := hrel
    cases j with
    | zero =>
      obtain ⟨aI, cI, aU, cU, c2, c3, c4, r3, r4⟩ := hm.lf
      obtain ⟨x, r, hx⟩ : ∃ x r, m.2 = x :: r := by
        cases e : m.2 with
        | nil => exact absurd e hwm.1
        | cons x r => exact ⟨x, r, rfl⟩
      have ex : x = i := by rw [its_zero, hx] at him; simpa using him
      subst ex
      obtain ⟨b, o, c, e3, hc⟩ := r3.at 0 x.ad (by rw [hx]; rfl)
      injection e3 with e3 _ e33
      subst e3 e33
      obtain ⟨a, c', -, -, d2, -, -⟩ := (hm.2 x (by rw [hx]; simp)).cells
      have hlen : m.2.length = r.length + 1 := by rw [hx]; rfl
      rw [hlen] at c3
      have ha : adr m = m.1 := rfl
      rw [ha]
      rw [Nat.add_zero] at hc
      generalize m.1 = A at *
      clear h hw hi hm hwm him r3 r4 ha hlen
      go_wp2
      go_ret
      exact ⟨rfl, rfl⟩
    | succ j =>
      obtain ⟨aI, cI, aU, cU, c2, c3, c4, r3, r4⟩ := hm.br
      obtain ⟨u, r, hu, hwu, hh⟩ := hwm.head
      obtain ⟨b, o, c, e4, hc⟩ := r4.at 0 (adr u) (by rw [hu]; rfl)
      injection e4 with e4 _ e44
      subst e4 e44
      have hlen : m.2.length = r.length + 1 := by rw [hu]; rfl
      rw [hlen] at c4
      have hiu := hm.2 u (by rw [hu]; simp)
      have HR : Hid ((∃ (j : Nat) (m : Tr j), Pp (adr u) = Pp (adr m) ∧ IsN w F ρ m ∧ Wf m ∧ (its m).head? = some i) ∧ lvAt w (Pp (adr u)) < lvAt w (Pp (adr m))) := ⟨⟨j, u, rfl, hiu, hwu, by rw [← hh]; exact him⟩, by rw [lvAt_of hiu, lvAt_of hm]; omega⟩
      have ha : adr m = m.1 := rfl
      rw [ha] at HR ⊢
      rw [Nat.add_zero] at hc
      generalize m.1 = A at *
      generalize adr u = U at *
      clear h hw hi hm hwm him r3 r4 ha hlen hiu hwu hh
      go_wp2
      exact HR.out
end
end Go.Proofs.YtgpbhlfdlkemjaaGreat
