/-
  Rows of texts with their names: a slice that reads so, one that owns its row, append to one, slices of one.
-/
import Derived.Test.YtilelklcfgemoaaTx
import Derived.Test.YtilelklcfgemoaaSc
import Derived.Deep.Slices
namespace Go.Proofs.Ytilelklcfgemoaa
open Go.RowKit
set_option linter.unusedVariables false

theorem inf42 : (Try.prog.info? 42).map (fun i => (i.zero, i.size, i.bytes)) = some (some (.agg #[.int .i64 0, .string ⟨#[]⟩]), 2, 24) := by kernel_rfl
/-- A name and its text. -/
abbrev Kp := Nat × List UInt8
/-- As cells. -/
def CK (l : List Kp) : List Value := l.flatMap fun x => [.int .i64 (x.1 : Int), .string ⟨x.2.toArray⟩]
theorem CK_cons (x : Kp) (r : List Kp) : CK (x :: r) = .int .i64 (x.1 : Int) :: .string ⟨x.2.toArray⟩ :: CK r := by simp [CK]
theorem CK_append (a b : List Kp) : CK (a ++ b) = CK a ++ CK b := by simp [CK]
theorem CK_length : ∀ l : List Kp, (CK l).length = l.length * 2
  | [] => rfl
  | x :: r => by rw [CK_cons, List.length_cons, List.length_cons, CK_length r, List.length_cons]; omega
theorem CK_one (l : List Kp) : ∀ u ∈ CK l, u.oneCell' = true := by
  intro u hu
  simp only [CK, List.mem_flatMap] at hu
  obtain ⟨x, _, hu⟩ := hu
  simp at hu
  rcases hu with rfl | rfl <;> rfl
theorem CK_at : ∀ (l : List Kp) (j : Nat) (x : Kp), l[j]? = some x → (CK l)[j * 2]? = some (.int .i64 (x.1 : Int)) ∧ (CK l)[j * 2 + 1]? = some (.string ⟨x.2.toArray⟩)
  | [], j, x, h => by simp at h
  | y :: r, 0, x, h => by simp at h; subst h; rw [CK_cons]; simp
  | y :: r, j + 1, x, h => by
    have := CK_at r j x (by simpa using h)
    rw [CK_cons, show (j + 1) * 2 = j * 2 + 1 + 1 by omega]
    simpa using this
theorem CK_inv : ∀ (l : List Kp) (j : Nat) (u : Value), (CK l)[j]? = some u → ∃ i x, l[i]? = some x ∧ (j = i * 2 ∧ u = .int .i64 (x.1 : Int) ∨ j = i * 2 + 1 ∧ u = .string ⟨x.2.toArray⟩)
  | [], j, u, h => by simp [CK] at h
  | y :: r, 0, u, h => by rw [CK_cons] at h; simp at h; exact ⟨0, y, rfl, .inl ⟨rfl, h.symm⟩⟩
  | y :: r, 1, u, h => by rw [CK_cons] at h; simp at h; exact ⟨0, y, rfl, .inr ⟨rfl, h.symm⟩⟩
  | y :: r, j + 2, u, h => by
    rw [CK_cons] at h
    simp at h
    obtain ⟨i, x, h1, h2⟩ := CK_inv r j u h
    refine ⟨i + 1, x, by simpa using h1, ?_⟩
    rcases h2 with ⟨rfl, e⟩ | ⟨rfl, e⟩
    · exact .inl ⟨by omega, e⟩
    · exact .inr ⟨by omega, e⟩
/-- The slice v reads as the texts l with their names. -/
def HoldsK (w : World) (v : Value) (l : List Kp) : Prop :=
  ∃ a cap, v = .slice a l.length cap ∧ l.length ≤ cap ∧ cap ≤ maxLen ∧ (a = none → cap = 0) ∧ (l ≠ [] → ∃ b o, a = some ⟨b, o, none⟩ ∧ ∀ j x, l[j]? = some x → w.cell? ⟨b, o + j * 2, none⟩ = some (.int .i64 (x.1 : Int)) ∧ w.cell? ⟨b, o + j * 2 + 1, none⟩ = some (.string ⟨x.2.toArray⟩))
theorem HoldsK.nil (w : World) : HoldsK w (.slice none 0 0) [] := ⟨none, 0, rfl, by simp, by simp, by simp, by simp⟩
theorem HoldsK.form {w : World} {v : Value} {l : List Kp} (h : HoldsK w v l) : ∃ a c, v = .slice a l.length c ∧ l.length ≤ c ∧ c ≤ 9223372036854775807 := by
  obtain ⟨a, c, h1, h2, h3, _⟩ := h
  exact ⟨a, c, h1, h2, h3⟩
theorem HoldsK.kept {S : List Nat} {w w' : World} {v : Value} {l : List Kp} (h : HoldsK w v l) (k : Kept S w w') (hn : ∀ g, v.ownBlock = some g → g ∉ S) : HoldsK w' v l := by
  obtain ⟨a, cap, rfl, h2, h3, h4, h5⟩ := h
  refine ⟨a, cap, rfl, h2, h3, h4, fun hl => ?_⟩
  obtain ⟨b, o, rfl, hc⟩ := h5 hl
  refine ⟨b, o, rfl, fun j u hu => ?_⟩
  have := hc j u hu
  rw [k.cell (World.block_lt_of_cell? w _ this.1) (hn b rfl), k.cell (World.block_lt_of_cell? w _ this.2) (hn b rfl)]
  exact this
theorem HoldsK.at {w : World} {v : Value} {l : List Kp} (h : HoldsK w v l) (j : Nat) (x : Kp) (hx : l[j]? = some x) : ∃ b o c, v = .slice (some ⟨b, o, none⟩) l.length c ∧ w.cell? ⟨b, o + j * 2, none⟩ = some (.int .i64 (x.1 : Int)) ∧ w.cell? ⟨b, o + j * 2 + 1, none⟩ = some (.string ⟨x.2.toArray⟩) := by
  obtain ⟨a, cap, rfl, h2, h3, h4, h5⟩ := h
  obtain ⟨b, o, rfl, hc⟩ := h5 (by intro e; subst e; simp at hx)
  exact ⟨b, o, cap, rfl, (hc j x hx).1, (hc j x hx).2⟩
/-- The slice v owns them, in a row of its own. -/
def OwnsK (w : World) (v : Value) (l : List Kp) : Prop := w.ownsRow 0 42 2 v l.length (CK l)
theorem OwnsK.nil (w : World) : OwnsK w (.slice none 0 0) [] := World.ownsRow_nil w 0 42 2
theorem OwnsK.form {w : World} {v : Value} {l : List Kp} (h : OwnsK w v l) : ∃ a c, v = .slice a l.length c ∧ l.length ≤ c ∧ c ≤ 9223372036854775807 := by
  rcases h.2 with ⟨rfl, h0⟩ | ⟨g, cap, cur, rfl, _, _, h1, h2, _⟩
  · exact ⟨none, 0, by rw [h0], by omega, by omega⟩
  · exact ⟨_, cap, rfl, h1, h2⟩
theorem OwnsK.kept {S : List Nat} {w w' : World} {v : Value} {l : List Kp} (h : OwnsK w v l) (k : Kept S w w') (hn : ∀ g, v.ownBlock = some g → g ∉ S) : OwnsK w' v l := ownsRow_keep h k hn
theorem OwnsK.keptX {X : List Nat} {w w' : World} {v : Value} {l : List Kp} (h : OwnsK w v l) (k : KX X w w') (hX : ∀ g, v.ownBlock = some g → g ∈ X) : OwnsK w' v l := by
  obtain ⟨S, k, hS⟩ := k
  exact h.kept k (fun g hg => hS g (hX g hg))
theorem OwnsK.lt {w : World} {v : Value} {l : List Kp} (h : OwnsK w v l) {k : Nat} (hk : v.ownBlock = some k) : k < w.heap.size := (World.ownsRow.lt h k hk).2
theorem OwnsK.holds {w : World} {v : Value} {l : List Kp} (h : OwnsK w v l) : HoldsK w v l := by
  have hcells := fun g hg => World.ownsRow.cells h (g := g) hg
  rcases h.2 with ⟨rfl, h0⟩ | ⟨g, cap, cur, rfl, _, hg, h1, h2, h3, h4⟩
  · have : l = [] := List.eq_nil_of_length_eq_zero h0
    subst this
    exact HoldsK.nil w
  · refine ⟨some ⟨g, 0, none⟩, cap, rfl, h1, h2, by simp, fun hl => ⟨g, 0, rfl, fun j x hx => ?_⟩⟩
    obtain ⟨e1, e2⟩ := CK_at l j x hx
    have f1 := hcells g rfl _ _ e1
    have f2 := hcells g rfl _ _ e2
    rw [add_at] at f1 f2
    exact ⟨f1, f2⟩
/-- 'append(v, x...)'. -/
theorem run_appendK (w : World) (ty : TypeId) (v : Value) (l : List Kp) (hown : OwnsK w v l) (x : Value) (m : List Kp) (hr : HoldsK w x m) (hb : l.length + m.length ≤ 1000000) :
    ∃ ad c w', (Builtin.append_ #[30, 30] ty #[v, x]).run Try.prog w = .ok (.slice ad (l.length + m.length) c) w' ∧ OwnsK w' (.slice ad (l.length + m.length) c) (l ++ m) ∧ w.grownBy w' v.ownBlock ∧ New w v (.slice ad (l.length + m.length) c) := by
  obtain ⟨i0, hi, hz0, hz1, hz2⟩ := info_parts inf42
  have key : ∀ v' w', (Builtin.append_ #[30, 30] ty #[v, x]).run Try.prog w = .ok v' w' → OwnsK w' v' (l ++ m) → w.grownBy w' v.ownBlock → New w v v' → ∃ ad c w', (Builtin.append_ #[30, 30] ty #[v, x]).run Try.prog w = .ok (.slice ad (l.length + m.length) c) w' ∧ OwnsK w' (.slice ad (l.length + m.length) c) (l ++ m) ∧ w.grownBy w' v.ownBlock ∧ New w v (.slice ad (l.length + m.length) c) := by
    intro v' w' h1 h2 h3 h4
    obtain ⟨ad, cap, rfl, -⟩ := h2.form
    rw [List.length_append] at h1 h2 h4
    exact ⟨ad, cap, w', h1, h2, h3, h4⟩
  obtain ⟨a, cap, rfl, h2, h3, h4, h5⟩ := hr
  cases a with
  | none =>
    have hc := h4 rfl
    subst hc
    have h0 : m = [] := List.eq_nil_of_length_eq_zero (by omega)
    subst h0
    have hrun := run_append_owned_none (P := Try.prog) (w := w) 0 30 ty 42 i0 2 Try.underlying30 hi v l.length (CK l) hown
    exact key v w hrun (by rw [List.append_nil]; exact hown) ⟨rfl, rfl, rfl, Nat.le_refl _, fun _ _ _ => rfl⟩ (New.refl w v)
  | some a =>
    have hcell : ∀ j u, (CK m)[j]? = some u → w.cell? (a.add j) = some u := by
      intro j u hu
      obtain ⟨i, y, hy, hcase⟩ := CK_inv m j u hu
      obtain ⟨b, o, hab, hc⟩ := h5 (fun h => by subst h; simp at hy)
      simp at hab
      subst hab
      have := hc i y hy
      rcases hcase with ⟨rfl, rfl⟩ | ⟨rfl, rfl⟩
      · rw [add_at]; exact this.1
      · rw [add_at]; exact this.2
    obtain ⟨v', w', hrun, e1, e2, e3, e4⟩ := run_append_own_at (P := Try.prog) w 0 30 ty 42 i0 _ 2 24 Try.underlying30 hi hz0 hz1 hz2 rfl (by omega) v l.length (CK l) hown a m.length cap (CK m) (CK_length m) hcell (CK_one m) (by unfold maxLen; omega) (by omega) (Nat.zero_le _)
    refine key v' w' hrun ?_ e2 ?_
    · unfold OwnsK; rw [CK_append, List.length_append]; exact e1
    · intro g hg
      rcases e4 with h | h
      · exact .inl (by rw [← h]; exact hg)
      · exact .inr (Nat.le_of_eq (Option.some.inj (h.symm.trans hg)))
/-- 'append(v, kept{n, t})', as its run. -/
theorem append_kept {w : World} {v : Value} {ts : List Kp} (ho : OwnsK w v ts) (x : Kp) (hn : ts.length ≤ 65536) :
    ∃ ad c w', (Builtin.append_ #[30, 30] 30 #[v, .slice (some ⟨w.heap.size, 0, none⟩) 1 1]).run Try.prog (w.alloc (.cells #[.int .i64 (x.1 : Int), .string ⟨x.2.toArray⟩] 42)) = .ok (.slice ad (ts.length + 1) c) w' ∧ OwnsK w' (.slice ad (ts.length + 1) c) (ts ++ [x]) ∧ Kept v.ownBlock.toList w w' ∧ New w v (.slice ad (ts.length + 1) c) := by
  have k0 := (Kept.refl [] w).alloc (.cells #[.int .i64 (x.1 : Int), .string ⟨x.2.toArray⟩] 42)
  have hh : (w.alloc (.cells #[.int .i64 (x.1 : Int), .string ⟨x.2.toArray⟩] 42)).heap[w.heap.size]? = some (.cells #[.int .i64 (x.1 : Int), .string ⟨x.2.toArray⟩] 42 (0, 0)) := heap_alloc_new w _
  have hr : HoldsK (w.alloc (.cells #[.int .i64 (x.1 : Int), .string ⟨x.2.toArray⟩] 42)) (.slice (some ⟨w.heap.size, 0, none⟩) 1 1) [x] := ⟨_, 1, rfl, by simp, by unfold maxLen; omega, by simp, fun _ => ⟨w.heap.size, 0, rfl, fun j u hu => by
    cases j with
    | zero =>
      simp at hu
      subst hu
      constructor <;> (unfold World.cell?; rw [hh]; rfl)
    | succ j => simp at hu⟩⟩
  obtain ⟨ad, c, w', hrun, hO, hg, hN⟩ := run_appendK _ 30 v ts (ho.kept k0 (by simp)) _ [x] hr (by simp; omega)
  refine ⟨ad, c, w', hrun, hO, (k0.mono (by simp)).grown hg (fun x hx => .inl (by rw [Option.mem_toList]; exact hx)), fun g hg => ?_⟩
  rcases hN g hg with h | h
  · exact .inl h
  · exact .inr (Nat.le_trans k0.size h)
theorem sz42 (w : World) : (Go.sizeOf 42).run Try.prog w = .ok 2 w := by
  obtain ⟨i0, hi, hz0, hz1, hz2⟩ := info_parts inf42
  simp [Go.sizeOf, typeInfo, hi, hz1]
/-- 'v[:k]'. -/
theorem sliceK_to (a : Option Addr) (n c k : Nat) (l : List Kp) (w : World) (hn : n = l.length) (h : HoldsK w (.slice a n c) l) (hk : k ≤ n) :
    ∃ a' c', (∀ W, (Instr.slice 30 (.slice a n c) none (some (.int .i64 (k : Int))) none).run Try.prog W = .ok (.slice a' k c') W) ∧ (∀ W, HoldsK W (.slice a n c) l → HoldsK W (.slice a' k c') (l.take k)) ∧ (Value.slice a' k c').ownBlock = (Value.slice a n c).ownBlock := by
  subst hn
  have ht' : Try.prog.underlying 30 = some (.slice (Try.prog.elem 30)) := by simp [Program.elem, Try.underlying30]
  have he : Try.prog.elem 30 = 42 := by simp [Program.elem, Try.underlying30]
  have hcap : l.length ≤ c ∧ c ≤ maxLen := by
    obtain ⟨a0, cap0, hv, h2, h3, _⟩ := h
    injection hv with e1 e2 e3
    omega
  refine ⟨if c = 0 then a else a.map (·.add 0), c, fun W => ?_, fun W hW => ?_, ?_⟩
  · rw [run_slice_h W 30 _ _ _ ht' .i64 _ (by omega) (by omega), he, sz42]
    simp [Result.andThen, sliced]
  · obtain ⟨a0, cap0, hv, h2, h3, h4, h5⟩ := hW
    injection hv with e1 e2 e3
    subst e1 e3
    have hl : (l.take k).length = k := by rw [List.length_take]; omega
    refine ⟨_, c, by rw [hl], by omega, h3, ?_, ?_⟩
    · intro hn
      by_cases hc : c = 0
      · exact hc
      · rw [if_neg hc] at hn
        have : a = none := by cases a <;> simp_all
        exact h4 this
    · intro hne
      have hne' : l ≠ [] := by intro h; subst h; simp at hne
      obtain ⟨b, o, rfl, hc⟩ := h5 hne'
      have hpos : 0 < l.length := List.length_pos_iff.2 hne'
      refine ⟨b, o, by rw [if_neg (by omega)]; simp [Addr.add], fun j u hu => hc j u ?_⟩
      rw [List.getElem?_take] at hu
      split at hu
      · exact hu
      · cases hu
  · by_cases hc : c = 0
    · simp [hc]; cases a <;> rfl
    · simp [hc]; cases a <;> simp [Value.ownBlock, Addr.add]
/-- 'v[k:]'. -/
theorem sliceK_from (a : Option Addr) (n c k : Nat) (l : List Kp) (w : World) (hn : n = l.length) (h : HoldsK w (.slice a n c) l) (hk : k ≤ n) :
    ∃ a' c', (∀ W, (Instr.slice 30 (.slice a n c) (some (.int .i64 (k : Int))) none none).run Try.prog W = .ok (.slice a' (n - k) c') W) ∧ (∀ W, HoldsK W (.slice a n c) l → HoldsK W (.slice a' (n - k) c') (l.drop k)) := by
  subst hn
  have ht' : Try.prog.underlying 30 = some (.slice (Try.prog.elem 30)) := by simp [Program.elem, Try.underlying30]
  have he : Try.prog.elem 30 = 42 := by simp [Program.elem, Try.underlying30]
  have hcap : l.length ≤ c ∧ c ≤ maxLen := by
    obtain ⟨a0, cap0, hv, h2, h3, _⟩ := h
    injection hv with e1 e2 e3
    omega
  refine ⟨if c = k then a else a.map (·.add (k * 2)), c - k, fun W => ?_, fun W hW => ?_⟩
  · rw [run_slice_l W 30 _ _ _ ht' .i64 _ (by omega) (by omega), he, sz42]
    simp [Result.andThen, sliced]
  · obtain ⟨a0, cap0, hv, h2, h3, h4, h5⟩ := hW
    injection hv with e1 e2 e3
    subst e1 e3
    refine ⟨_, c - k, by rw [List.length_drop], by rw [List.length_drop]; omega, by omega, ?_, ?_⟩
    · intro hn
      by_cases hc : c = k
      · omega
      · rw [if_neg hc] at hn
        have : a = none := by cases a <;> simp_all
        have := h4 this
        omega
    · intro hne
      have hlt : k < l.length := by
        rcases Nat.lt_or_ge k l.length with h | h
        · exact h
        · exact absurd (List.drop_eq_nil_of_le h) hne
      obtain ⟨b, o, rfl, hc⟩ := h5 (by intro h; subst h; simp at hlt)
      refine ⟨b, o + k * 2, by rw [if_neg (by omega), Option.map_some, add_at], fun j u hu => ?_⟩
      rw [List.getElem?_drop] at hu
      have := hc (k + j) u hu
      rw [show o + (k + j) * 2 = o + k * 2 + j * 2 by omega] at this
      exact this
end Go.Proofs.Ytilelklcfgemoaa
