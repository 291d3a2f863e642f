/-
  Rows of texts in memory; append to one.
-/
import Derived.Test.YthjdlbejfaejkaaLost
import Derived.Laws.AppendOwnNone
import Derived.Maps.AppendAt
namespace Go.Proofs.Ythjdlbejfaejkaa
open Go.RowKit
set_option linter.unusedVariables false

theorem inf9 : (Try.prog.info? 9).map (fun i => (i.zero, i.size, i.bytes)) = some (some (.string ⟨#[]⟩), 1, 16) := by kernel_rfl
/-- A text as a cell. -/
def T8 (t : List UInt8) : Value := .string ⟨t.toArray⟩
/-- Texts as cells. -/
def CT (l : List (List UInt8)) : List Value := l.map T8
theorem CT_length (l : List (List UInt8)) : (CT l).length = l.length := by simp [CT]
theorem CT_append (a b : List (List UInt8)) : CT (a ++ b) = CT a ++ CT b := by simp [CT]
theorem CT_one (l : List (List UInt8)) : ∀ u ∈ CT l, u.oneCell' = true := by
  intro u hu
  simp only [CT, List.mem_map] at hu
  obtain ⟨b, _, rfl⟩ := hu
  rfl
/-- The slice v reads as the texts l. -/
def ReadsT (w : World) (v : Value) (l : List (List UInt8)) : Prop :=
  ∃ a cap, v = .slice a l.length cap ∧ l.length ≤ cap ∧ cap ≤ maxLen ∧ (a = none → cap = 0) ∧ (l ≠ [] → ∃ b o, a = some ⟨b, o, none⟩ ∧ ∀ j u, l[j]? = some u → w.cell? ⟨b, o + j, none⟩ = some (T8 u))
theorem ReadsT.nil (w : World) : ReadsT w (.slice none 0 0) [] := ⟨none, 0, rfl, by simp, by simp, by simp, by simp⟩
theorem ReadsT.kept {S : List Nat} {w w' : World} {v : Value} {l : List (List UInt8)} (h : ReadsT w v l) (k : Kept S w w') (hn : ∀ g, v.ownBlock = some g → g ∉ S) : ReadsT w' v l := by
  obtain ⟨a, cap, rfl, h2, h3, h4, h5⟩ := h
  refine ⟨a, cap, rfl, h2, h3, h4, fun hl => ?_⟩
  obtain ⟨b, o, rfl, hc⟩ := h5 hl
  refine ⟨b, o, rfl, fun j u hu => ?_⟩
  have := hc j u hu
  rw [k.cell (World.block_lt_of_cell? w _ this) (hn b rfl)]
  exact this
/-- The slice v owns the texts l, in a row of its own. -/
def OwnsT (w : World) (v : Value) (l : List (List UInt8)) : Prop := w.ownsRow 0 9 1 v l.length (CT l)
theorem OwnsT.nil (w : World) : OwnsT w (.slice none 0 0) [] := World.ownsRow_nil w 0 9 1
theorem OwnsT.reads {w : World} {v : Value} {l : List (List UInt8)} (h : OwnsT w v l) : ReadsT w v l := by
  have hcells := fun g hg => World.ownsRow.cells h (g := g) hg
  rcases h.2 with ⟨rfl, h0⟩ | ⟨g, cap, cur, rfl, _, hg, h1, h2, h3, h4⟩
  · have : l = [] := List.eq_nil_of_length_eq_zero h0
    subst this
    exact ReadsT.nil w
  · refine ⟨some ⟨g, 0, none⟩, cap, rfl, h1, h2, by simp, fun hl => ⟨g, 0, rfl, fun j u hu => ?_⟩⟩
    have := hcells g rfl j (T8 u) (by simp [CT, hu])
    have hadd : (⟨g, 0, Option.none⟩ : Addr).add j = ⟨g, 0 + j, Option.none⟩ := by unfold Addr.add; split <;> simp_all
    rw [hadd] at this
    exact this
theorem OwnsT.kept {S : List Nat} {w w' : World} {v : Value} {l : List (List UInt8)} (h : OwnsT w v l) (k : Kept S w w') (hn : ∀ g, v.ownBlock = some g → g ∉ S) : OwnsT w' v l := by
  refine ⟨h.1, ?_⟩
  rcases h.2 with h0 | ⟨g, cap, cur, rfl, hb, hg, r⟩
  · exact .inl h0
  · exact .inr ⟨g, cap, cur, rfl, hb, k.keeps hg (hn g rfl), r⟩
theorem OwnsT.lt {w : World} {v : Value} {l : List (List UInt8)} (h : OwnsT w v l) {k : Nat} (hk : v.ownBlock = some k) : k < w.heap.size := (World.ownsRow.lt h k hk).2
theorem OwnsT.form {w : World} {v : Value} {l : List (List UInt8)} (h : OwnsT w v l) : ∃ a cap, v = .slice a l.length cap := by
  rcases h.2 with ⟨rfl, h0⟩ | ⟨g, cap, cur, rfl, _⟩
  · exact ⟨none, 0, by rw [h0]⟩
  · exact ⟨_, cap, rfl⟩
/-- How many bytes a Reader has left, by its cell. -/
def leftAt (w : World) (p : Nat) : Nat := match w.cell? ⟨p, 0, none⟩ with
  | some (.slice _ n _) => n
  | _ => 0
theorem leftAt_of {t : TypeId} {w : World} {p : Nat} {v : Value} {l : List UInt8} {bad : Bool} (hR : IsR t w p v l bad) : leftAt w p = l.length := by
  obtain ⟨hc0, -⟩ := cell_of_two hR.box
  obtain ⟨a, cap, rfl, -⟩ := hR.reads
  unfold leftAt
  rw [hc0]
theorem run_appendT (w : World) (ty : TypeId) (v : Value) (l : List (List UInt8)) (hown : OwnsT w v l) (x : Value) (m : List (List UInt8)) (hr : ReadsT w x m) (hb : l.length + m.length ≤ 4294967296) :
    ∃ ad n cap w', (Builtin.append_ #[38, 38] ty #[v, x]).run Try.prog w = .ok (.slice ad n cap) w' ∧ OwnsT w' (.slice ad n cap) (l ++ m) ∧ w.grownBy w' v.ownBlock ∧ New w v (.slice ad n cap) := by
  obtain ⟨i0, hi, hz0, hz1, hz2⟩ := info_parts inf9
  have key : ∀ v' w', (Builtin.append_ #[38, 38] ty #[v, x]).run Try.prog w = .ok v' w' → OwnsT w' v' (l ++ m) → w.grownBy w' v.ownBlock → New w v v' → ∃ ad n cap w', (Builtin.append_ #[38, 38] ty #[v, x]).run Try.prog w = .ok (.slice ad n cap) w' ∧ OwnsT w' (.slice ad n cap) (l ++ m) ∧ w.grownBy w' v.ownBlock ∧ New w v (.slice ad n cap) := by
    intro v' w' h1 h2 h3 h4
    obtain ⟨ad, cap, rfl⟩ := h2.form
    exact ⟨ad, _, cap, w', h1, h2, h3, h4⟩
  obtain ⟨a, cap, rfl, h2, h3, h4, h5⟩ := hr
  cases a with
  | none =>
    have hc := h4 rfl
    subst hc
    have h0 : m = [] := List.eq_nil_of_length_eq_zero (by omega)
    subst h0
    have hrun := run_append_owned_none (P := Try.prog) (w := w) 0 38 ty 9 i0 1 Try.underlying38 hi v l.length (CT l) hown
    exact key v w hrun (by rw [List.append_nil]; exact hown) ⟨rfl, rfl, rfl, Nat.le_refl _, fun _ _ _ => rfl⟩ (New.refl w v)
  | some a =>
    have hcell : ∀ j u, (CT m)[j]? = some u → w.cell? (a.add j) = some u := by
      intro j u hu
      simp only [CT, List.getElem?_map, Option.map_eq_some_iff] at hu
      obtain ⟨y, hy, rfl⟩ := hu
      obtain ⟨b, o, hab, hc⟩ := h5 (fun h => by subst h; simp at hy)
      simp at hab
      subst hab
      have hadd : (⟨b, o, Option.none⟩ : Addr).add j = ⟨b, o + j, Option.none⟩ := by unfold Addr.add; split <;> simp_all
      rw [hadd]
      exact hc j y hy
    obtain ⟨v', w', hrun, e1, e2, e3, e4⟩ := run_append_own_at (P := Try.prog) w 0 38 ty 9 i0 _ 1 16 Try.underlying38 hi hz0 hz1 hz2 rfl (by omega) v l.length (CT l) hown a m.length cap (CT m) (by rw [CT_length, Nat.mul_one]) hcell (CT_one m) (by unfold maxLen; omega) (by omega) (Nat.zero_le _)
    refine key v' w' hrun ?_ e2 ?_
    · unfold OwnsT; rw [CT_append, List.length_append]; exact e1
    · intro g hg
      rcases e4 with h | h
      · exact .inl (by rw [← h]; exact hg)
      · exact .inr (Nat.le_of_eq (Option.some.inj (h.symm.trans hg)))
/-- An operation whose guard says yes. -/
theorem wpList_wanted {P : Program} {ops : Array Oper} {Q : Exit → Act → World → Prop} {a : Act} {w : World} {rest : List Oper} {o : Oper} (hg : Region.wanted o (yielded ops a.tmps) = true)
    (h : ∀ K : Act → World → Prop, (∀ a w, wpList P ops Q rest a w → K a w) → o.wp P a w K Q) : wpList P ops Q (o :: rest) a w :=
  wpList_step fun K hK => by rw [if_pos hg]; exact h K hK
set_option maxRecDepth 100000 in
/-- 'append' of texts at a step of the walk, of its run. -/
theorem wpList_append_run {w : World} {ops : Array Oper} {rest : List Oper} {o : Oper} {a : Act} {Q : Exit → Act → World → Prop} (t : TypeId) (sl x : Operand)
    (ho : o.op = .call { callee := .builtin .append, args := #[sl, x], argTypes := #[t, t] }) (hgd : Region.wanted o (yielded ops a.tmps) = true) (v y : Value) (hs : a.eval sl = v) (hx : a.eval x = y) (r : Value) (w' : World) (hrun : (Builtin.append_ #[t, t] o.type #[v, y]).run Try.prog w = .ok r w')
    (h : wpList Try.prog ops Q rest (a.put o.dst r) w') : wpList Try.prog ops Q (o :: rest) a w := by
  refine wpList_wanted hgd fun K hK => ?_
  unfold Oper.wp execOp
  simp only [ho, resolve, invoke, builtin, Sem.run_bind, Sem.run_pure, Result.andThen_ok, List.map_toArray, List.map_cons, List.map_nil, hs, hx, hrun]
  exact hK _ _ h

end Go.Proofs.Ythjdlbejfaejkaa
