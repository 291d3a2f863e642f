/-
  Lists of pieces as rows of cells: appended, and read again. Nothing here speaks of the program.
-/
import Derived.Test.YtkhgdeklgcafpabPieces
import Derived.Laws.AppendOwnNone
namespace Go.Proofs.Ytkhgdeklgcafpab
open Go.RowKit

/-- A list of pieces as cells. -/
def C3 (l : List PieceD) : List Value := l.flatMap fun x => [.int .i64 x.kind, .int .u64 (x.n : Int), .string x.s]

theorem C3_length (l : List PieceD) : (C3 l).length = l.length * 3 := by
  induction l with
  | nil => rfl
  | cons x r ih => simp only [C3, List.flatMap_cons, List.length_append, List.length_cons, List.length_nil] at ih ⊢; omega

theorem C3_append (a b : List PieceD) : C3 (a ++ b) = C3 a ++ C3 b := by simp [C3]

theorem C3_one (l : List PieceD) : ∀ u ∈ C3 l, u.oneCell' = true := by
  intro u hu
  simp only [C3, List.mem_flatMap] at hu
  obtain ⟨x, _, hx⟩ := hu
  simp at hx
  rcases hx with rfl | rfl | rfl <;> rfl

theorem C3_at (l : List PieceD) (q : Nat) (x : PieceD) (h : l[q]? = some x) : (C3 l)[q * 3]? = some (.int .i64 x.kind) ∧ (C3 l)[q * 3 + 1]? = some (.int .u64 (x.n : Int)) ∧ (C3 l)[q * 3 + 2]? = some (.string x.s) := by
  induction l generalizing q with
  | nil => simp at h
  | cons y r ih =>
    cases q with
    | zero => simp at h; subst h; simp [C3]
    | succ q =>
      have := ih q (by simpa using h)
      simp only [C3, List.flatMap_cons] at this ⊢
      have e : (q + 1) * 3 = q * 3 + 3 := by omega
      rw [e]
      simpa using this

theorem C3_get (l : List PieceD) (j : Nat) (u : Value) (h : (C3 l)[j]? = some u) : ∃ q x, l[q]? = some x ∧ ((j = q * 3 ∧ u = .int .i64 x.kind) ∨ (j = q * 3 + 1 ∧ u = .int .u64 (x.n : Int)) ∨ (j = q * 3 + 2 ∧ u = .string x.s)) := by
  have hj : j < (C3 l).length := (List.getElem?_eq_some_iff.1 h).1
  rw [C3_length] at hj
  have hq : j / 3 < l.length := by omega
  refine ⟨j / 3, l[j / 3], by simp, ?_⟩
  obtain ⟨a0, a1, a2⟩ := C3_at l (j / 3) l[j / 3] (by simp)
  have hm : j % 3 = 0 ∨ j % 3 = 1 ∨ j % 3 = 2 := by omega
  rcases hm with hm | hm | hm
  · have e : j = j / 3 * 3 := by omega
    rw [← e, h] at a0
    exact .inl ⟨e, by injection a0⟩
  · have e : j = j / 3 * 3 + 1 := by omega
    rw [← e, h] at a1
    exact .inr (.inl ⟨e, by injection a1⟩)
  · have e : j = j / 3 * 3 + 2 := by omega
    rw [← e, h] at a2
    exact .inr (.inr ⟨e, by injection a2⟩)

/-- The cells of pieces that are held. -/
theorem Holds.cells {w : World} {a : Addr} {n cap : Nat} {l : List PieceD} (h : Holds w (.slice (some a) n cap) l) : ∀ j u, (C3 l)[j]? = some u → w.cell? (a.add j) = some u := by
  obtain ⟨a', cap', hv, -, -, -, h5⟩ := h
  injection hv with e1 e2 e3
  subst e1 e2 e3
  intro j u hu
  obtain ⟨q, x, hq, hc⟩ := C3_get l j u hu
  obtain ⟨b, o, hab, hcs⟩ := h5 (by intro h; subst h; simp at hq)
  injection hab with hab
  subst hab
  have hadd : (⟨b, o, none⟩ : Addr).add j = ⟨b, o + j, none⟩ := by unfold Addr.add; split <;> simp_all
  rw [hadd]
  obtain ⟨c0, c1, c2⟩ := hcs q x hq
  rcases hc with ⟨rfl, rfl⟩ | ⟨rfl, rfl⟩ | ⟨rfl, rfl⟩
  · exact c0
  · exact c1
  · exact c2

/-- A row that owns pieces holds them. -/
theorem holds_of_own {w : World} {e : TypeId} {v : Value} {l : List PieceD} (h : w.ownsRow 0 e 3 v l.length (C3 l)) (hb : ∀ x ∈ l, x.n < 18446744073709551616 ∧ -9223372036854775808 ≤ x.kind ∧ x.kind ≤ 9223372036854775807) : Holds w v l := by
  have hcells := fun g hg => World.ownsRow.cells h (g := g) hg
  rcases h.2 with ⟨rfl, h0⟩ | ⟨g, cap, cur, rfl, _, hg, h1, h2, h3, h4⟩
  · have : l = [] := List.eq_nil_of_length_eq_zero h0
    subst this
    exact ⟨none, 0, rfl, by simp, by simp, by simp, by simp⟩
  · refine ⟨some ⟨g, 0, none⟩, cap, rfl, h1, h2, hb, fun hl => ⟨g, 0, rfl, fun j x hx => ?_⟩⟩
    obtain ⟨a0, a1, a2⟩ := C3_at l j x hx
    have k0 := hcells g rfl _ _ a0
    have k1 := hcells g rfl _ _ a1
    have k2 := hcells g rfl _ _ a2
    have hadd : ∀ j, (⟨g, 0, Option.none⟩ : Addr).add j = ⟨g, 0 + j, Option.none⟩ := fun j => by unfold Addr.add; split <;> simp_all
    rw [hadd] at k0 k1 k2
    exact ⟨k0, k1, k2⟩

theorem Holds.bounds {w : World} {v : Value} {l : List PieceD} (h : Holds w v l) : ∀ x ∈ l, x.n < 18446744073709551616 ∧ -9223372036854775808 ≤ x.kind ∧ x.kind ≤ 9223372036854775807 := by
  obtain ⟨a, cap, rfl, h2, h3, h4, h5⟩ := h
  exact h4

theorem heavy_append (a b : List PieceD) : heavy (a ++ b) = heavy a + heavy b := by
  induction a with
  | nil => simp [heavy]
  | cons x r ih => simp only [List.cons_append, heavy, ih]; omega
theorem heavy_length (a : List PieceD) : a.length * 9 ≤ heavy a := by
  induction a with
  | nil => simp
  | cons x r ih => simp only [List.length_cons, heavy]; omega
theorem encAll_append (a b : List PieceD) : encAll (a ++ b) = encAll a ++ encAll b := by simp [encAll]

/-- 'append(v, x...)', v an owned row of pieces, x pieces that are held (or nil): at the operation. -/
theorem wpList_append_pieces {P : Program} {w : World} {ops : Array Oper} {rest : List Oper} {o : Oper} {a : Act} {Q : Exit → Act → World → Prop} (hgd : o.guard = none) (s x : Operand) (t : TypeId)
    (ho : o.op = .call { callee := .builtin .append, args := #[s, x], argTypes := #[t, t] })
    (e : TypeId) (i : TypeInfo) (z : Value) (ht : P.underlying t = some (.slice e)) (hi : P.info? e = some i) (hz : i.zero = some z) (hsize : i.size = 3) (hby : i.bytes = 32) (hzs : z.cells.size = 3)
    (v : Value) (l : List PieceD) (hs : a.eval s = v) (hown : w.ownsRow 0 e 3 v l.length (C3 l)) (u : Value) (m : List PieceD) (hx : a.eval x = u) (hu : Holds w u m) (hnil : ∀ n c, u = .slice none n c → n = 0 ∧ c = 0)
    (hb : (l.length + m.length) * 32 ≤ 140737488355328)
    (h : ∀ v' w', w'.ownsRow 0 e 3 v' (l ++ m).length (C3 (l ++ m)) → w.grownBy w' v.ownBlock → (v'.ownBlock = v.ownBlock ∨ v'.ownBlock = some w.heap.size) → wpList P ops Q rest (a.put o.dst v') w') : wpList P ops Q (o :: rest) a w := by
  have hu' := hu
  obtain ⟨ad, cap, rfl, -, -, -, -⟩ := hu'
  cases ad with
  | none =>
    obtain ⟨h1, h2⟩ := hnil _ _ rfl
    have : m = [] := List.eq_nil_of_length_eq_zero h1
    subst this
    subst h2
    exact wpList_append_own_none hgd s x t ho 0 e i 3 ht hi v _ _ hs hown hx (h v w (by simpa using hown) ⟨rfl, rfl, rfl, Nat.le_refl _, fun _ _ _ => rfl⟩ (.inl rfl))
  | some ad =>
    refine wpList_append_own_at w hgd s x t ho 0 e i z 3 32 ht hi hz hsize hby hzs (by omega) v _ _ hs hown ad _ cap (C3 m) hx (C3_length m) hu.cells (C3_one m) (by unfold maxLen; omega) hb (Nat.zero_le _) ?_
    intro v' w' h1 h2 _ h4
    refine h v' w' ?_ h2 h4
    rw [C3_append, List.length_append]
    exact h1

end Go.Proofs.Ytkhgdeklgcafpab
