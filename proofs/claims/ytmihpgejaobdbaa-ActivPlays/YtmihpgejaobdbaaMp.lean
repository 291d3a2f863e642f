/-
  A map of texts to places in memory: which keys it has, and the place at each.
-/
import Derived.Test.YtmihpgejaobdbaaRs
import Derived.Test.YtmihpgejaobdbaaZact
import Derived.Maps.OwnSet
namespace Go.Proofs.Ytmihpgejaobdbaa
set_option maxRecDepth 100000
open Go.RowKit
open Go.Maps (Keyed)
set_option linter.unusedVariables false
/-- A slot of a map reads as it is. -/
def RV (v : Value) : Option (DataW Value × List MemPlace) := some (.held v, [])
/-- A text as a key. -/
abbrev kl (k : Ky) : Lit := .string k
/-- A place's pointer. -/
abbrev Pp (b : Nat) : Value := .pointer (some ⟨b, 0, none⟩)
theorem law9 : Keyed Try.prog 9 := Maps.string_keyed Try.underlying9
theorem key9 {k : Ky} (h : k.length ≤ 140737488355328) : keyOf Try.prog 9 (Sv k) = some (kl k) := by
  have := WideMaps.keyOf_string_mk (P := Try.prog) Try.underlying9 (s := ⟨k.toArray⟩) (by simp only [ByteArray.size, List.size_toArray]; unfold maxLen; omega)
  simpa using this
theorem zero47 (w : World) : (zeroValue 47).run Try.prog w = .ok (.pointer none) w := by kernel_rfl
/-- The block b is a map that has the entries m. -/
structure Mp (w : World) (b : Nat) (m : List (Ky × Nat)) : Prop where
  own : ∃ D, w.ownsMap Try.prog 9 RV b m.length D ∧ Maps.size D = m.length ∧ (∀ k, Maps.has D (kl k) = decide (k ∈ m.map (·.1))) ∧ (∀ x ∈ m, ∀ z, D.atKey (kl x.1) z = .held (Pp x.2))
  nodup : (m.map (·.1)).Nodup
  wf : ∀ x ∈ m, x.1.length ≤ 140737488355328
theorem Mp.lt {w : World} {b : Nat} {m : List (Ky × Nat)} (h : Mp w b m) : b < w.heap.size := by
  obtain ⟨D, h1, _⟩ := h.own
  exact h1.lt
theorem Mp.is {w : World} {b : Nat} {m : List (Ky × Nat)} (h : Mp w b m) : ∃ es clock, w.heap[b]? = some (.map es clock) := by
  obtain ⟨D, ⟨es, clock, hb, _⟩, _⟩ := h.own
  exact ⟨es, clock, hb⟩
theorem Mp.same {w w' : World} {b : Nat} {m : List (Ky × Nat)} (h : Mp w b m) (e : w'.heap[b]? = w.heap[b]?) : Mp w' b m := by
  obtain ⟨D, ⟨es, clock, hb, r⟩, h2⟩ := h.own
  exact ⟨⟨D, ⟨es, clock, e.trans hb, r⟩, h2⟩, h.nodup, h.wf⟩
theorem Mp.kept {S : List Nat} {w w' : World} {b : Nat} {m : List (Ky × Nat)} (h : Mp w b m) (k : Kept S w w') (hn : b ∉ S) : Mp w' b m := h.same (k.block b h.lt hn)
theorem Mp.made (w : World) : Mp (w.alloc (.map #[] 0)) w.heap.size [] :=
  ⟨⟨.map [], World.ownsMap_made w Try.prog 9 RV, rfl, fun k => rfl, by simp⟩, by simp, by simp⟩
/-- Whatever the order. -/
theorem Mp.perm {w : World} {b : Nat} {m m' : List (Ky × Nat)} (h : Mp w b m) (p : m.Perm m') : Mp w b m' := by
  obtain ⟨D, h1, h2, h3, h4⟩ := h.own
  refine ⟨⟨D, by rw [← p.length_eq]; exact h1, by rw [← p.length_eq]; exact h2, fun k => ?_, fun x hx => h4 x (p.mem_iff.2 hx)⟩, (p.map _).nodup_iff.1 h.nodup, fun x hx => h.wf x (p.mem_iff.2 hx)⟩
  rw [h3]
  exact decide_eq_decide.2 (p.map _).mem_iff
theorem Mp.size {w : World} {b : Nat} {m : List (Ky × Nat)} (h : Mp w b m) (ty : TypeId) : (Builtin.len_ #[49] ty #[.map (some b)]).run Try.prog w = .ok (.int .i64 (m.length : Int)) w := by
  obtain ⟨D, h1, h2, _⟩ := h.own
  rw [h1.len Try.underlying49 ty, h2]
/-- 'v, ok := m[k]', of a key that is there. -/
theorem Mp.look {w : World} {b : Nat} {m : List (Ky × Nat)} (h : Mp w b m) {k : Ky} {p : Nat} (hm : (k, p) ∈ m) : (Instr.lookup 49 (.map (some b)) (Sv k) true).run Try.prog w = .ok (.tuple #[Pp p, .bool true]) w := by
  obtain ⟨D, h1, _, h2, h3⟩ := h.own
  obtain ⟨v', ps, hrun, hv⟩ := h1.look_ok law9 Try.underlying49 (zero47 w) (zd := .held (.pointer none)) (zp := []) rfl (key9 (h.wf _ hm))
  rw [h2, decide_eq_true (List.mem_map.2 ⟨_, hm, rfl⟩)] at hrun
  rw [h3 _ hm] at hv
  unfold RV at hv
  simp at hv
  rw [hrun, hv.1]
/-- .. of one that is not. -/
theorem Mp.look_none {w : World} {b : Nat} {m : List (Ky × Nat)} (h : Mp w b m) {k : Ky} (hw : k.length ≤ 140737488355328) (hm : k ∉ m.map (·.1)) : (Instr.lookup 49 (.map (some b)) (Sv k) true).run Try.prog w = .ok (.tuple #[.pointer none, .bool false]) w := by
  obtain ⟨D, h1, _, h2, h3⟩ := h.own
  obtain ⟨v', ps, hrun, hv⟩ := h1.look_ok law9 Try.underlying49 (zero47 w) (zd := .held (.pointer none)) (zp := []) rfl (key9 hw)
  rw [h2, decide_eq_false hm] at hrun
  rw [Maps.atKey_of_not_has (by rw [h2, decide_eq_false hm])] at hv
  unfold RV at hv
  simp at hv
  rw [hrun, hv.1]
/-- 'm[k]', of a key that is there. -/
theorem Mp.get {w : World} {b : Nat} {m : List (Ky × Nat)} (h : Mp w b m) {k : Ky} {p : Nat} (hm : (k, p) ∈ m) : (Instr.lookup 49 (.map (some b)) (Sv k) false).run Try.prog w = .ok (Pp p) w := by
  obtain ⟨D, h1, _, h2, h3⟩ := h.own
  obtain ⟨v', ps, hrun, hv⟩ := h1.lookup law9 Try.underlying49 (zero47 w) (zd := .held (.pointer none)) (zp := []) rfl (key9 (h.wf _ hm))
  rw [h3 _ hm] at hv
  unfold RV at hv
  simp at hv
  rw [hrun, hv.1]
theorem Mp.get_none {w : World} {b : Nat} {m : List (Ky × Nat)} (h : Mp w b m) {k : Ky} (hw : k.length ≤ 140737488355328) (hm : k ∉ m.map (·.1)) : (Instr.lookup 49 (.map (some b)) (Sv k) false).run Try.prog w = .ok (.pointer none) w := by
  obtain ⟨D, h1, _, h2, h3⟩ := h.own
  obtain ⟨v', ps, hrun, hv⟩ := h1.lookup law9 Try.underlying49 (zero47 w) (zd := .held (.pointer none)) (zp := []) rfl (key9 hw)
  rw [Maps.atKey_of_not_has (by rw [h2, decide_eq_false hm])] at hv
  unfold RV at hv
  simp at hv
  rw [hrun, hv.1]
theorem kept_map {w w' : World} {b : Nat} (h : w.grownBy w' (some b)) : Kept [b] w w' := (Kept.refl [b] w).grown h (fun k hk => .inl (by simp at hk; simp [hk]))
/-- 'm[k] = v', of a new key. -/
theorem Mp.put {w : World} {b : Nat} {m : List (Ky × Nat)} (h : Mp w b m) {k : Ky} (p : Nat) (hw : k.length ≤ 140737488355328) (hm : k ∉ m.map (·.1)) (hn : m.length < 1000000) :
    ∃ w', (Instr.mapUpdate 49 (.map (some b)) (Sv k) (Pp p)).run Try.prog w = .ok () w' ∧ Mp w' b (m ++ [(k, p)]) ∧ Kept [b] w w' ∧ w'.heap.size = w.heap.size := by
  obtain ⟨D, h1, h0, h2, h3⟩ := h.own
  obtain ⟨w', hrun, h1', hg⟩ := h1.store law9 Try.underlying49 (by unfold maxLen; omega) (val := Pp p) (d := .held (Pp p)) (ps := []) (key9 hw) rfl
  have hKey := law9.key (key9 hw)
  have hs := Maps.size_put (k := kl k) (h1.tidy law9) (.held (Pp p))
  rw [h2, decide_eq_false hm, if_neg (by simp), h0] at hs
  refine ⟨w', hrun, ⟨⟨D.put (kl k) (.held (Pp p)), by rw [List.length_append]; exact h1', by rw [hs]; simp, fun x => ?_, fun x hx z => ?_⟩, ?_, ?_⟩, kept_map hg.grown, ?_⟩
  · by_cases hx : x = k
    · subst hx
      rw [Maps.has_put_same h1.isMap hKey]
      simp
    · rw [Maps.has_put_other (by simp [kl]; exact hx), h2]
      apply decide_eq_decide.2
      simp [hx]
  · rcases List.mem_append.1 hx with hx | hx
    · have : x.1 ≠ k := fun e => hm (List.mem_map.2 ⟨x, hx, e⟩)
      rw [Maps.atKey_put_other (by simp [kl]; exact this)]
      exact h3 x hx z
    · simp at hx
      subst hx
      exact Maps.atKey_put_same h1.isMap hKey _ _
  · rw [List.map_append, List.nodup_append]
    refine ⟨h.nodup, by simp, fun a ha c hc e => ?_⟩
    simp at hc
    subst hc e
    exact hm ha
  · intro x hx
    rcases List.mem_append.1 hx with hx | hx
    · exact h.wf x hx
    · simp at hx; subst hx; exact hw
  · obtain ⟨es, clock, es', clock', hb, rfl⟩ := hg
    simp [ChangeMaps.setBlock]
/-- 'delete(m, k)'. -/
theorem Mp.del {w : World} {b : Nat} {A B : List (Ky × Nat)} {k : Ky} {p : Nat} (h : Mp w b (A ++ (k, p) :: B)) (ty : TypeId) :
    ∃ w', (Builtin.delete_ #[49, 9] ty #[.map (some b), Sv k]).run Try.prog w = .ok (.tuple #[]) w' ∧ Mp w' b (A ++ B) ∧ Kept [b] w w' ∧ w'.heap.size = w.heap.size := by
  obtain ⟨D, h1, h0, h2, h3⟩ := h.own
  have hmem : (k, p) ∈ A ++ (k, p) :: B := by simp
  obtain ⟨w', hrun, h1', hg⟩ := h1.drop law9 Try.underlying49 (key9 (h.wf _ hmem)) ty
  have hs := Maps.size_del (k := kl k) (h1.tidy law9)
  rw [h2, decide_eq_true (List.mem_map.2 ⟨_, hmem, rfl⟩), if_pos rfl, h0] at hs
  have hnd := h.nodup
  rw [List.map_append, List.map_cons, List.nodup_append] at hnd
  obtain ⟨n1, n2, n3⟩ := hnd
  rw [List.nodup_cons] at n2
  have hkA : ∀ x ∈ A, x.1 ≠ k := fun x hx e => n3 _ (List.mem_map.2 ⟨x, hx, rfl⟩) k (by simp) e
  have hkB : ∀ x ∈ B, x.1 ≠ k := fun x hx e => n2.1 (List.mem_map.2 ⟨x, hx, e⟩)
  have hkAB : ∀ x ∈ A ++ B, x.1 ≠ k := fun x hx => (List.mem_append.1 hx).elim (hkA x) (hkB x)
  have hsub : ∀ x ∈ A ++ B, x ∈ A ++ (k, p) :: B := fun x hx => by
    simp only [List.mem_append, List.mem_cons] at hx ⊢
    rcases hx with hx | hx
    · exact .inl hx
    · exact .inr (.inr hx)
  have hsz : Maps.size (D.del (kl k)) = (A ++ B).length := by
    simp only [List.length_append, List.length_cons] at hs ⊢
    omega
  refine ⟨w', hrun, ⟨⟨D.del (kl k), ?_, hsz, fun x => ?_, fun x hx z => ?_⟩, ?_, fun x hx => h.wf x (hsub x hx)⟩, kept_map hg.grown, ?_⟩
  · obtain ⟨es, clock, hb, F, hs', hD⟩ := h1'
    refine ⟨es, clock, hb, F, ?_, hD⟩
    rw [hD] at hsz
    have : es.size = (A ++ B).length := by simpa [Maps.size, length_sorted] using hsz
    omega
  · by_cases hx : x = k
    · subst hx
      rw [Maps.has_del_same]
      symm
      apply decide_eq_false
      intro hm
      obtain ⟨y, hy, e⟩ := List.mem_map.1 hm
      exact hkAB y hy e
    · rw [Maps.has_del_other (by simp [kl]; exact hx), h2]
      apply decide_eq_decide.2
      simp [hx]
  · rw [Maps.atKey_del_other (by simp [kl]; exact hkAB x hx)]
    exact h3 x (hsub x hx) z
  · rw [List.map_append, List.nodup_append]
    exact ⟨n1, n2.2, fun a ha c hc => n3 a ha c (by simp; right; simpa using hc)⟩
  · obtain ⟨es, clock, es', clock', hb, rfl⟩ := hg
    simp [ChangeMaps.setBlock]
end Go.Proofs.Ytmihpgejaobdbaa
