/-
  'append(v, s...)', s a string, v nil or an owned row: where the new slice lies. Nothing here speaks of the program.
-/
import Derived.Test.YtpodoiichpnpjaaDoorMem
namespace Go.Proofs.YtpodoiichpnpjaaDoor
set_option maxRecDepth 100000
open Go.RowKit
theorem strCells_C8 (s : ByteArray) : Lib.strCells s = C8 s.data.toList := rfl
theorem Owns.form {e : TypeId} {w : World} {v : Value} {l : List UInt8} (h : Owns e w v l) : ∃ a cap, v = .slice a l.length cap := by
  rcases h.2 with ⟨rfl, h0⟩ | ⟨g, cap, cur, rfl, _⟩
  · exact ⟨none, 0, by rw [h0]⟩
  · exact ⟨_, cap, rfl⟩
section
variable {P : Program} (w : World)
theorem run_append_str_lies (t u ty e : TypeId) (i : TypeInfo) (ht : P.underlying t = some (.slice e)) (hu : P.underlying u = some .string) (hi : P.info? e = some i) (hz : i.zero = some (.int .u8 0))
    (hsize : i.size = 1) (hby : i.bytes = 1) (v : Value) (l : List UInt8) (hown : Owns e w v l) (s : ByteArray) (hb : l.length + s.size ≤ 140737488355328) :
    ∃ v' w', (Builtin.append_ #[t, u] ty #[v, .string s]).run P w = .ok v' w' ∧ Owns e w' v' (l ++ s.data.toList) ∧ w.grownBy w' v.ownBlock ∧ (∀ g, v'.ownBlock = some g → v.ownBlock = some g ∨ w.heap.size ≤ g) := by
  obtain ⟨v', w', hr, h1, h2, h3⟩ := Lib.run_append_own_string (P := P) w 0 t u ty e i ht hu hi hz hsize hby v l.length (C8 l) hown s (by unfold maxLen; omega) hb (Nat.zero_le _)
  refine ⟨v', w', hr, ?_, h2, ?_⟩
  · unfold Owns
    rw [C8_append, List.length_append]
    exact h1
  · have key : ∀ v2 w2, (Builtin.append_ #[t, u] ty #[v, .string s]).run P w = .ok v2 w2 → v2 = v' := fun v2 w2 h => by
      rw [hr] at h; injection h with h _; exact h.symm
    intro g hg
    rcases hown.2 with ⟨rfl, h0⟩ | ⟨g0, cap, cur, rfl, hb0, hg0, hnc, hcm, hcs, htake⟩
    · by_cases hs : s.size = 0
      · have := h3.2 ⟨rfl, hs⟩
        rw [this] at hg
        simp [Value.ownBlock] at hg
      · have hr2 := run_append_nil_string (P := P) w t u ty e i (.int .u8 0) ht hu hi hz s (by omega) (by omega) (by rw [hby]; omega)
        have e1 := key _ _ hr2
        rw [← e1] at hg
        simp [Value.ownBlock] at hg
        exact .inr (by omega)
    · by_cases hroom : l.length + s.size ≤ cap
      · have hcs' : cur.size = cap := by simpa using hcs
        have hr2 := Lib.run_append_room_string (P := P) w t u ty e i ht hu hi hsize g0 l.length cap cur hg0 s hroom (by omega)
        have e1 := key _ _ hr2
        rw [← e1] at hg
        exact .inl hg
      · have holds : ∀ j u, (C8 l)[j]? = some u → w.cell? ((⟨g0, 0, none⟩ : Addr).add j) = some u := World.ownsRow.cells hown (g := g0) rfl
        have hr2 := Lib.run_append_grow_string (P := P) w t u ty e i (.int .u8 0) ht hu hi hz ⟨g0, 0, none⟩ l.length cap (C8 l) (by rw [hsize, Nat.mul_one]; exact C8_length l) holds s (by omega) (by omega) (by rw [hby]; exact growslice_fits (by omega) (by omega))
        have e1 := key _ _ hr2
        rw [← e1] at hg
        simp [Value.ownBlock] at hg
        exact .inr (by omega)
/-- The same at the operation, for the walk. -/
theorem wpList_append_str_lies {ops : Array Oper} {rest : List Oper} {o : Oper} {a : Act} {Q : Exit → Act → World → Prop} (hgd : o.guard = none) (sl x : Operand) (t u : TypeId)
    (ho : o.op = .call { callee := .builtin .append, args := #[sl, x], argTypes := #[t, u] }) (e : TypeId) (i : TypeInfo) (ht : P.underlying t = some (.slice e)) (hu : P.underlying u = some .string) (hi : P.info? e = some i) (hz : i.zero = some (.int .u8 0))
    (hsize : i.size = 1) (hby : i.bytes = 1) (v : Value) (l : List UInt8) (hs : a.eval sl = v) (hown : Owns e w v l) (s : ByteArray) (hx : a.eval x = .string s) (hb : l.length + s.size ≤ 140737488355328)
    (h : ∀ ad n cap w', Owns e w' (.slice ad n cap) (l ++ s.data.toList) → w.grownBy w' v.ownBlock → (∀ g, (Value.slice ad n cap).ownBlock = some g → v.ownBlock = some g ∨ w.heap.size ≤ g) → wpList P ops Q rest (a.put o.dst (.slice ad n cap)) w') : wpList P ops Q (o :: rest) a w := by
  refine wpList_plain hgd fun K hK => ?_
  obtain ⟨v', w', hr, h2, h3, h4⟩ := run_append_str_lies (P := P) w t u o.type e i ht hu hi hz hsize hby v l hown s hb
  unfold Oper.wp execOp
  simp only [ho, resolve, invoke, builtin, Sem.run_bind, Sem.run_pure, Result.andThen_ok, List.map_toArray, List.map_cons, List.map_nil, hs, hx, hr]
  obtain ⟨ad, cap, rfl⟩ := h2.form
  exact hK _ _ (h ad _ cap w' h2 h3 h4)
end
end Go.Proofs.YtpodoiichpnpjaaDoor
