/-
  'append(v, x...)' over bytes: v nil or a row of its own, x any bytes.
-/
import Derived.Test.YtkcgknbnoegpdaaRs
import Derived.Laws.AppendOwnNone
import Derived.Maps.AppendAt
namespace Go.Proofs.Ytkcgknbnoegpdaa
open Go.RowKit
set_option linter.unusedVariables false
theorem own_new (w : World) (l : List UInt8) (arr : Array Value) (ha : arr = (C8 l).toArray) (n : Nat) (hn : l.length = n) (hm : n ≤ maxLen) : Owns 5 (w.alloc (.cells arr 5)) (.slice (some ⟨w.heap.size, 0, none⟩) n n) l := by
  subst ha hn
  have h := World.ownsRow_lit (base := 0) (e := 5) (size := 1) w (C8 l).toArray l.length (Nat.zero_le _) hm (by simp [C8_length])
  exact h
theorem fresh_new (w : World) (n c : Nat) : Fresh w (.slice (some ⟨w.heap.size, 0, none⟩) n c) := fun g hg => by
  simp [Value.ownBlock] at hg; omega
theorem run_append_reads (w : World) (ty : TypeId) (v : Value) (l : List UInt8) (hown : Owns 5 w v l) (x : Value) (m : List UInt8) (hr : Reads w x m) (hb : l.length + m.length ≤ 140737488355328) :
    ∃ ad n cap w', (Builtin.append_ #[29, 29] ty #[v, x]).run Try.prog w = .ok (.slice ad n cap) w' ∧ Owns 5 w' (.slice ad n cap) (l ++ m) ∧ w.grownBy w' v.ownBlock ∧ New w v (.slice ad n cap) := by
  obtain ⟨i0, hi, hz0, hz1, hz2⟩ := info_parts inf5
  have key : ∀ v' w', (Builtin.append_ #[29, 29] ty #[v, x]).run Try.prog w = .ok v' w' → Owns 5 w' v' (l ++ m) → w.grownBy w' v.ownBlock → New w v v' → ∃ ad n cap w', (Builtin.append_ #[29, 29] ty #[v, x]).run Try.prog w = .ok (.slice ad n cap) w' ∧ Owns 5 w' (.slice ad n cap) (l ++ m) ∧ w.grownBy w' v.ownBlock ∧ New w v (.slice ad n cap) := by
    intro v' w' h1 h2 h3 h4
    obtain ⟨ad, cap, rfl⟩ := h2.form
    exact ⟨ad, _, cap, w', h1, h2, h3, h4⟩
  obtain ⟨a, cap, rfl, h2, h3, h4, h5⟩ := hr
  cases a with
  | none =>
    have hc := h4 rfl
    subst hc
    have h0 : m = [] := List.eq_nil_of_length_eq_zero (by omega)
    subst h0
    have hrun := run_append_owned_none (P := Try.prog) (w := w) 0 29 ty 5 i0 1 Try.underlying29 hi v l.length (C8 l) hown
    exact key v w hrun (by rw [List.append_nil]; exact hown) ⟨rfl, rfl, rfl, Nat.le_refl _, fun _ _ _ => rfl⟩ (New.refl w v)
  | some a =>
    have hcell : ∀ j u, (C8 m)[j]? = some u → w.cell? (a.add j) = some u := by
      intro j u hu
      simp only [C8, List.getElem?_map, Option.map_eq_some_iff] at hu
      obtain ⟨y, hy, rfl⟩ := hu
      obtain ⟨b, o, hab, hc⟩ := h5 (fun h => by subst h; simp at hy)
      simp at hab
      subst hab
      have hadd : (⟨b, o, Option.none⟩ : Addr).add j = ⟨b, o + j, Option.none⟩ := by unfold Addr.add; split <;> simp_all
      rw [hadd]
      exact hc j y hy
    obtain ⟨v', w', hrun, e1, e2, e3, e4⟩ := run_append_own_at (P := Try.prog) w 0 29 ty 5 i0 _ 1 1 Try.underlying29 hi hz0 hz1 hz2 rfl (by omega) v l.length (C8 l) hown a m.length cap (C8 m) (by rw [C8_length, Nat.mul_one]) hcell (C8_one m) (by unfold maxLen; omega) (by omega) (Nat.zero_le _)
    refine key v' w' hrun ?_ e2 ?_
    · unfold Owns; rw [C8_append, List.length_append]; exact e1
    · intro g hg
      rcases e4 with h | h
      · exact .inl (by rw [← h]; exact hg)
      · exact .inr (Nat.le_of_eq (Option.some.inj (h.symm.trans hg)))
/-- The same for the walk; seen from an elder world w0, in which the row was not there. -/
theorem wpList_append_reads {w : World} {ops : Array Oper} {rest : List Oper} {o : Oper} {a : Act} {Q : Exit → Act → World → Prop} (hgd : o.guard = none) (sl x : Operand)
    (ho : o.op = .call { callee := .builtin .append, args := #[sl, x], argTypes := #[29, 29] }) (w0 : World) (v : Value) (l : List UInt8) (hs : a.eval sl = v) (hown : Owns 5 w v l) (hf : Fresh w0 v) (hk : Kept [] w0 w) (y : Value) (m : List UInt8) (hx : a.eval x = y) (hr : Reads w y m) (hb : l.length + m.length ≤ 140737488355328)
    (h : ∀ ad n cap w', Hid (n = l.length + m.length) → Owns 5 w' (.slice ad n cap) (l ++ m) → Fresh w0 (.slice ad n cap) → Kept [] w0 w' → (∀ u k, Reads w u k → u.ownBlock ≠ v.ownBlock ∨ u.ownBlock = none → Reads w' u k) → wpList Try.prog ops Q rest (a.put o.dst (.slice ad n cap)) w') : wpList Try.prog ops Q (o :: rest) a w := by
  refine wpList_plain hgd fun K hK => ?_
  obtain ⟨ad, n, cap, w', hrun, h2, h3, h4⟩ := run_append_reads w o.type v l hown y m hr hb
  unfold Oper.wp execOp
  simp only [ho, resolve, invoke, builtin, Sem.run_bind, Sem.run_pure, Result.andThen_ok, List.map_toArray, List.map_cons, List.map_nil, hs, hx, hrun]
  have hn : n = l.length + m.length := by
    obtain ⟨_, _, he⟩ := h2.form
    injection he with e1 e2 e3
    rw [e2, List.length_append]
  refine hK _ _ (h ad n cap w' hn h2 ?_ (hk.grown h3 (fun k hk2 => .inr (hf k hk2))) ?_)
  · intro g hg
    rcases h4 g hg with h5 | h5
    · exact hf g h5
    · have := hk.size; omega
  · intro u k hu hne
    have kk : Kept v.ownBlock.toList w w' := (Kept.refl _ w).grown h3 (fun k hk => .inl (by rw [Option.mem_toList]; exact hk))
    refine hu.kept kk fun g hg hm => ?_
    rw [Option.mem_toList] at hm
    rcases hne with h5 | h5
    · exact h5 (by rw [hg, hm])
    · rw [hg] at h5; simp at h5
end Go.Proofs.Ytkcgknbnoegpdaa
